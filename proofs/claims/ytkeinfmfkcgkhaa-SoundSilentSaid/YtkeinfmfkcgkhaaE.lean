import Derived.Test.YtkeinfmfkcgkhaaC
import Derived.Test.YtkeinfmfkcgkhaaD
set_option linter.unusedVariables false
set_option linter.unusedSimpArgs false
namespace Go.Proofs.Ytkeinfmfkcgkhaa
open Go Go.Proofs Go.Proofs.Ytkeinfmfkcgkhaa.Ev Go.Proofs.Ytkeinfmfkcgkhaa.Ev.Ho
set_option maxRecDepth 100000
noncomputable def orcR (E : World) : Orc := fun g vs s => match g with
  | 12 => (match frGo [mU 1 2, mP 3, rowS, mO] vs s (fun vs0 π s1 s0 => match vs0 with
      | [.c (.p 0 0), .c (.i false .i64 w)] => cond (isU s0) (some (hdG (pre := fun z => Len2 (z.l 2) (z.n 74) ∧ z.n 74 * 512 ≤ z.n 73 ∧ w ≤ 10000000) (fun z hz hp => HD.args (vs := [.c (.p 0 0), .c (.i false .i64 w)]) (by simp [simL, SV.sim, C.sim]) (ru_c E w z hz hp)) (by rfl) π s1 s0)) none
      | _ => none) with
    | some t => some t
    | none => (match frGo [mV 1 2, mP 3, rowS, mO] vs s (fun vs0 π s1 s0 => match vs0 with
      | [.c (.p 0 0), .c (.i false .i64 w)] => cond (isV s0) (some (hdG (pre := fun z => Len2 (z.l 2) (z.n 74) ∧ z.n 74 * 512 ≤ z.n 73 ∧ w ≤ 10000000) (fun z hz hp => HD.args (vs := [.c (.p 0 0), .c (.i false .i64 w)]) (by simp [simL, SV.sim, C.sim]) (rv_c E w z hz hp)) (by rfl) π s1 s0)) none
      | _ => none) with
    | some t => some t
    | none => (orcA E) g vs s))
  | g => (orcA E) g vs s
theorem orcR_ok {E : World} : OrcOK (pe E) (orcR E) := by
  intro g vs s t h
  unfold orcR at h
  split at h
  · split at h
    · rename_i hfr; cases h
      obtain ⟨π, s1, hq, hK, hv, hok, hpd⟩ := frGo_spec (P := pe E) hfr
      split at hK
      · rename_i heq
        cases hgd : isU (renM π s1 [mU 1 2, mP 3, rowS, mO] π) <;> simp only [hgd, cond_true, cond_false] at hK
        · cases hK
        cases hK
        rw [heq] at hv hok
        exact hpd _ _ (hdG_ok _ _ π s1 hq hv hok)
      · cases hK
    · split at h
      · rename_i hfr; cases h
        obtain ⟨π, s1, hq, hK, hv, hok, hpd⟩ := frGo_spec (P := pe E) hfr
        split at hK
        · rename_i heq
          cases hgd : isV (renM π s1 [mV 1 2, mP 3, rowS, mO] π) <;> simp only [hgd, cond_true, cond_false] at hK
          · cases hK
          cases hK
          rw [heq] at hv hok
          exact hpd _ _ (hdG_ok _ _ π s1 hq hv hok)
        · cases hK
      · exact orcA_ok _ _ _ _ h
  · exact orcA_ok _ _ _ _ h
theorem wr_p (E : World) (z : PX) (w r x : Int) :
    (hdP ([mU 1 2, mP 3, rowS, mO] : List MB).length [mU 1 4, mP 3, .g HOLE, mO, rowS] (.t []) (fun z y => Len2 (y.l 4) (y.n 74) ∧ y.n 74 * 512 ≤ y.n 73) z (fnTree (pe E) (orcR E) (tabL fns) 20000 Try.f10 [.c (.p 0 0), .c (.i false .i64 w), .c (.i false .i64 r), .c (.i false .u16 x)] (mkM z [] [mU 1 2, mP 3, rowS, mO] 0))) =
    ((((68 : Nat) = (68 : Nat) ∧ (((0 : Int) ≤ z.n (33 : Nat) ∧ z.n (33 : Nat) ≤ (32 : Int)) ∧ ((0 : Int) ≤ z.n (67 : Nat) ∧ z.n (67 : Nat) ≤ (32 : Int)) ∧ ((0 : Int) ≤ z.n (72
      : Nat) ∧ z.n (72 : Nat) ≤ (1022 : Int)) ∧ ((0 : Int) ≤ z.n (73 : Nat) ∧ z.n (73 : Nat) ≤ (10000000 : Int)) ∧ True) ∧ (84 : Nat) = (84 : Nat) ∧ (((0 : Int) ≤ z.n (100000 :
      Nat) ∧ z.n (100000 : Nat) ≤ (10000000 : Int)) ∧ True) ∧ (60 : Nat) = (60 : Nat) ∧ (flat [Sp.r IntKind.i16 (0 : Int) (0 : Int), Sp.r IntKind.i16 (0 : Int) (0 : Int)] = true
      ∧ Row [Sp.r IntKind.i16 (0 : Int) (0 : Int), Sp.r IntKind.i16 (0 : Int) (0 : Int)] (z.l (2 : Nat))) ∧
      (741991204937588471353107210173517385893522847741378461052633880361214601735917472982278721692919759636892846595991201096475255940853038949688016010326287086087990634635853824
      : Nat) =
      (741991204937588471353107210173517385893522847741378461052633880361214601735917472982278721692919759636892846595991201096475255940853038949688016010326287086087990634635853824
      : Nat) ∧ ([] : SW) = []) ∧ Len2 (z.l (2 : Nat)) (↑(z.n (74 : Nat)).toNat : Int) ∧ (↑(z.n (74 : Nat)).toNat : Int) * (512 : Int) ≤ z.n (73 : Nat) ∧ w ≤ (10000000 : Int)) ∧
      ∀ (y : PX), ((((0 : Int) ≤ y.n (33 : Nat) ∧ y.n (33 : Nat) ≤ (32 : Int)) ∧ ((0 : Int) ≤ y.n (67 : Nat) ∧ y.n (67 : Nat) ≤ (32 : Int)) ∧ ((0 : Int) ≤ y.n (72 : Nat) ∧ y.n
      (72 : Nat) ≤ (1022 : Int)) ∧ ((0 : Int) ≤ y.n (73 : Nat) ∧ y.n (73 : Nat) ≤ (10000000 : Int)) ∧ (0 : Int) ≤ y.n (74 : Nat) ∧ True) ∧ (((0 : Int) ≤ y.n (100000 : Nat) ∧ y.n
      (100000 : Nat) ≤ (10000000 : Int)) ∧ True) ∧ (flat [Sp.r IntKind.i16 (0 : Int) (0 : Int), Sp.r IntKind.i16 (0 : Int) (0 : Int)] = true ∧ Row [Sp.r IntKind.i16 (0 : Int) (0
      : Int), Sp.r IntKind.i16 (0 : Int) (0 : Int)] (y.l (4 : Nat))) ∧ True) ∧ True ∧ Len2 (y.l (4 : Nat)) (y.n (74 : Nat)) ∧ y.n (74 : Nat) * (512 : Int) ≤ y.n (73 : Nat) → ((r
      == (0 : Int)) = true → ((68 : Nat) = (68 : Nat) ∧ (((0 : Int) ≤ y.n (33 : Nat) ∧ y.n (33 : Nat) ≤ (32 : Int)) ∧ ((0 : Int) ≤ y.n (67 : Nat) ∧ y.n (67 : Nat) ≤ (32 : Int))
      ∧ ((0 : Int) ≤ y.n (72 : Nat) ∧ y.n (72 : Nat) ≤ (1022 : Int)) ∧ ((0 : Int) ≤ y.n (73 : Nat) ∧ y.n (73 : Nat) ≤ (10000000 : Int)) ∧ True) ∧ (84 : Nat) = (84 : Nat) ∧ (((0
      : Int) ≤ y.n (100000 : Nat) ∧ y.n (100000 : Nat) ≤ (10000000 : Int)) ∧ True) ∧ (4294967295 : Nat) = (4294967295 : Nat) ∧
      (741991204937588471353107210173517385893522847741378461052633880361214601735917472982278721692919759636892846595991201096475255940853038949688016010326287086087990634635853824
      : Nat) =
      (741991204937588471353107210173517385893522847741378461052633880361214601735917472982278721692919759636892846595991201096475255940853038949688016010326287086087990634635853824
      : Nat) ∧ (60 : Nat) = (60 : Nat) ∧ (flat [Sp.r IntKind.i16 (0 : Int) (0 : Int), Sp.r IntKind.i16 (0 : Int) (0 : Int)] = true ∧ Row [Sp.r IntKind.i16 (0 : Int) (0 : Int),
      Sp.r IntKind.i16 (0 : Int) (0 : Int)] (y.l (4 : Nat))) ∧ ([] : SW) = []) ∧ True ∧ Len2 (y.l (4 : Nat)) (↑(y.n (74 : Nat)).toNat : Int) ∧ (↑(y.n (74 : Nat)).toNat : Int) *
      (512 : Int) ≤ y.n (73 : Nat)) ∧ ((r == (0 : Int)) = false → ((r == (1 : Int)) = true → ((bits BinOp.and IntKind.u16 (x.fdiv (2048 : Int)) (1 : Int) != (0 : Int)) = true →
      ((bits BinOp.and IntKind.u16 (x.fdiv (32768 : Int)) (1 : Int) != (0 : Int)) = true → ((68 : Nat) = (68 : Nat) ∧ (((0 : Int) ≤ (0 : Int) ∧ (0 : Int) ≤ (32 : Int)) ∧ ((0 :
      Int) ≤ (0 : Int) ∧ (0 : Int) ≤ (32 : Int)) ∧ ((0 : Int) ≤ y.n (72 : Nat) ∧ y.n (72 : Nat) ≤ (1022 : Int)) ∧ ((0 : Int) ≤ y.n (73 : Nat) ∧ y.n (73 : Nat) ≤ (10000000 :
      Int)) ∧ True) ∧ (84 : Nat) = (84 : Nat) ∧ (((0 : Int) ≤ y.n (100000 : Nat) ∧ y.n (100000 : Nat) ≤ (10000000 : Int)) ∧ True) ∧ (4294967295 : Nat) = (4294967295 : Nat) ∧
      (741991204937588471353107210173517385893522847741378461052633880361214601735917472982278721692919759636892846595991201096475255940853038949688016010326287086087990634635853824
      : Nat) =
      (741991204937588471353107210173517385893522847741378461052633880361214601735917472982278721692919759636892846595991201096475255940853038949688016010326287086087990634635853824
      : Nat) ∧ (60 : Nat) = (60 : Nat) ∧ (flat [Sp.r IntKind.i16 (0 : Int) (0 : Int), Sp.r IntKind.i16 (0 : Int) (0 : Int)] = true ∧ Row [Sp.r IntKind.i16 (0 : Int) (0 : Int),
      Sp.r IntKind.i16 (0 : Int) (0 : Int)] (y.l (4 : Nat))) ∧ ([] : SW) = []) ∧ True ∧ Len2 (y.l (4 : Nat)) (↑(y.n (74 : Nat)).toNat : Int) ∧ (↑(y.n (74 : Nat)).toNat : Int) *
      (512 : Int) ≤ y.n (73 : Nat)) ∧ ((bits BinOp.and IntKind.u16 (x.fdiv (32768 : Int)) (1 : Int) != (0 : Int)) = false → ((68 : Nat) = (68 : Nat) ∧ (((0 : Int) ≤ (0 : Int) ∧
      (0 : Int) ≤ (32 : Int)) ∧ ((0 : Int) ≤ y.n (67 : Nat) ∧ y.n (67 : Nat) ≤ (32 : Int)) ∧ ((0 : Int) ≤ y.n (72 : Nat) ∧ y.n (72 : Nat) ≤ (1022 : Int)) ∧ ((0 : Int) ≤ y.n (73
      : Nat) ∧ y.n (73 : Nat) ≤ (10000000 : Int)) ∧ True) ∧ (84 : Nat) = (84 : Nat) ∧ (((0 : Int) ≤ y.n (100000 : Nat) ∧ y.n (100000 : Nat) ≤ (10000000 : Int)) ∧ True) ∧
      (4294967295 : Nat) = (4294967295 : Nat) ∧
      (741991204937588471353107210173517385893522847741378461052633880361214601735917472982278721692919759636892846595991201096475255940853038949688016010326287086087990634635853824
      : Nat) =
      (741991204937588471353107210173517385893522847741378461052633880361214601735917472982278721692919759636892846595991201096475255940853038949688016010326287086087990634635853824
      : Nat) ∧ (60 : Nat) = (60 : Nat) ∧ (flat [Sp.r IntKind.i16 (0 : Int) (0 : Int), Sp.r IntKind.i16 (0 : Int) (0 : Int)] = true ∧ Row [Sp.r IntKind.i16 (0 : Int) (0 : Int),
      Sp.r IntKind.i16 (0 : Int) (0 : Int)] (y.l (4 : Nat))) ∧ ([] : SW) = []) ∧ True ∧ Len2 (y.l (4 : Nat)) (↑(y.n (74 : Nat)).toNat : Int) ∧ (↑(y.n (74 : Nat)).toNat : Int) *
      (512 : Int) ≤ y.n (73 : Nat))) ∧ ((bits BinOp.and IntKind.u16 (x.fdiv (2048 : Int)) (1 : Int) != (0 : Int)) = false → ((bits BinOp.and IntKind.u16 (x.fdiv (32768 : Int))
      (1 : Int) != (0 : Int)) = true → ((68 : Nat) = (68 : Nat) ∧ (((0 : Int) ≤ y.n (33 : Nat) ∧ y.n (33 : Nat) ≤ (32 : Int)) ∧ ((0 : Int) ≤ (0 : Int) ∧ (0 : Int) ≤ (32 : Int))
      ∧ ((0 : Int) ≤ y.n (72 : Nat) ∧ y.n (72 : Nat) ≤ (1022 : Int)) ∧ ((0 : Int) ≤ y.n (73 : Nat) ∧ y.n (73 : Nat) ≤ (10000000 : Int)) ∧ True) ∧ (84 : Nat) = (84 : Nat) ∧ (((0
      : Int) ≤ y.n (100000 : Nat) ∧ y.n (100000 : Nat) ≤ (10000000 : Int)) ∧ True) ∧ (4294967295 : Nat) = (4294967295 : Nat) ∧
      (741991204937588471353107210173517385893522847741378461052633880361214601735917472982278721692919759636892846595991201096475255940853038949688016010326287086087990634635853824
      : Nat) =
      (741991204937588471353107210173517385893522847741378461052633880361214601735917472982278721692919759636892846595991201096475255940853038949688016010326287086087990634635853824
      : Nat) ∧ (60 : Nat) = (60 : Nat) ∧ (flat [Sp.r IntKind.i16 (0 : Int) (0 : Int), Sp.r IntKind.i16 (0 : Int) (0 : Int)] = true ∧ Row [Sp.r IntKind.i16 (0 : Int) (0 : Int),
      Sp.r IntKind.i16 (0 : Int) (0 : Int)] (y.l (4 : Nat))) ∧ ([] : SW) = []) ∧ True ∧ Len2 (y.l (4 : Nat)) (↑(y.n (74 : Nat)).toNat : Int) ∧ (↑(y.n (74 : Nat)).toNat : Int) *
      (512 : Int) ≤ y.n (73 : Nat)) ∧ ((bits BinOp.and IntKind.u16 (x.fdiv (32768 : Int)) (1 : Int) != (0 : Int)) = false → ((68 : Nat) = (68 : Nat) ∧ (((0 : Int) ≤ y.n (33 :
      Nat) ∧ y.n (33 : Nat) ≤ (32 : Int)) ∧ ((0 : Int) ≤ y.n (67 : Nat) ∧ y.n (67 : Nat) ≤ (32 : Int)) ∧ ((0 : Int) ≤ y.n (72 : Nat) ∧ y.n (72 : Nat) ≤ (1022 : Int)) ∧ ((0 :
      Int) ≤ y.n (73 : Nat) ∧ y.n (73 : Nat) ≤ (10000000 : Int)) ∧ True) ∧ (84 : Nat) = (84 : Nat) ∧ (((0 : Int) ≤ y.n (100000 : Nat) ∧ y.n (100000 : Nat) ≤ (10000000 : Int)) ∧
      True) ∧ (4294967295 : Nat) = (4294967295 : Nat) ∧
      (741991204937588471353107210173517385893522847741378461052633880361214601735917472982278721692919759636892846595991201096475255940853038949688016010326287086087990634635853824
      : Nat) =
      (741991204937588471353107210173517385893522847741378461052633880361214601735917472982278721692919759636892846595991201096475255940853038949688016010326287086087990634635853824
      : Nat) ∧ (60 : Nat) = (60 : Nat) ∧ (flat [Sp.r IntKind.i16 (0 : Int) (0 : Int), Sp.r IntKind.i16 (0 : Int) (0 : Int)] = true ∧ Row [Sp.r IntKind.i16 (0 : Int) (0 : Int),
      Sp.r IntKind.i16 (0 : Int) (0 : Int)] (y.l (4 : Nat))) ∧ ([] : SW) = []) ∧ True ∧ Len2 (y.l (4 : Nat)) (↑(y.n (74 : Nat)).toNat : Int) ∧ (↑(y.n (74 : Nat)).toNat : Int) *
      (512 : Int) ≤ y.n (73 : Nat)))) ∧ ((r == (1 : Int)) = false → ((r == (2 : Int)) = true → ((68 : Nat) = (68 : Nat) ∧ (((0 : Int) ≤ y.n (33 : Nat) ∧ y.n (33 : Nat) ≤ (32 :
      Int)) ∧ ((0 : Int) ≤ y.n (67 : Nat) ∧ y.n (67 : Nat) ≤ (32 : Int)) ∧ False) ∧ (84 : Nat) = (84 : Nat) ∧ (((0 : Int) ≤ y.n (100000 : Nat) ∧ y.n (100000 : Nat) ≤ (10000000 :
      Int)) ∧ True) ∧ (4294967295 : Nat) = (4294967295 : Nat) ∧
      (741991204937588471353107210173517385893522847741378461052633880361214601735917472982278721692919759636892846595991201096475255940853038949688016010326287086087990634635853824
      : Nat) =
      (741991204937588471353107210173517385893522847741378461052633880361214601735917472982278721692919759636892846595991201096475255940853038949688016010326287086087990634635853824
      : Nat) ∧ (60 : Nat) = (60 : Nat) ∧ (flat [Sp.r IntKind.i16 (0 : Int) (0 : Int), Sp.r IntKind.i16 (0 : Int) (0 : Int)] = true ∧ Row [Sp.r IntKind.i16 (0 : Int) (0 : Int),
      Sp.r IntKind.i16 (0 : Int) (0 : Int)] (y.l (4 : Nat))) ∧ ([] : SW) = []) ∧ True ∧ Len2 (y.l (4 : Nat)) (↑(y.n (74 : Nat)).toNat : Int) ∧ (↑(y.n (74 : Nat)).toNat : Int) *
      (512 : Int) ≤ y.n (73 : Nat)) ∧ ((r == (2 : Int)) = false → ((r == (3 : Int)) = true → ((68 : Nat) = (68 : Nat) ∧ (((0 : Int) ≤ y.n (33 : Nat) ∧ y.n (33 : Nat) ≤ (32 :
      Int)) ∧ ((0 : Int) ≤ y.n (67 : Nat) ∧ y.n (67 : Nat) ≤ (32 : Int)) ∧ ((0 : Int) ≤ IntKind.i64.wrap (bits BinOp.and IntKind.u16 x (1022 : Int)) ∧ IntKind.i64.wrap (bits
      BinOp.and IntKind.u16 x (1022 : Int)) ≤ (1022 : Int)) ∧ ((0 : Int) ≤ y.n (73 : Nat) ∧ y.n (73 : Nat) ≤ (10000000 : Int)) ∧ True) ∧ (84 : Nat) = (84 : Nat) ∧ (((0 : Int) ≤
      y.n (100000 : Nat) ∧ y.n (100000 : Nat) ≤ (10000000 : Int)) ∧ True) ∧ (4294967295 : Nat) = (4294967295 : Nat) ∧
      (741991204937588471353107210173517385893522847741378461052633880361214601735917472982278721692919759636892846595991201096475255940853038949688016010326287086087990634635853824
      : Nat) =
      (741991204937588471353107210173517385893522847741378461052633880361214601735917472982278721692919759636892846595991201096475255940853038949688016010326287086087990634635853824
      : Nat) ∧ (60 : Nat) = (60 : Nat) ∧ (flat [Sp.r IntKind.i16 (0 : Int) (0 : Int), Sp.r IntKind.i16 (0 : Int) (0 : Int)] = true ∧ Row [Sp.r IntKind.i16 (0 : Int) (0 : Int),
      Sp.r IntKind.i16 (0 : Int) (0 : Int)] (y.l (4 : Nat))) ∧ ([] : SW) = []) ∧ True ∧ Len2 (y.l (4 : Nat)) (↑(y.n (74 : Nat)).toNat : Int) ∧ (↑(y.n (74 : Nat)).toNat : Int) *
      (512 : Int) ≤ y.n (73 : Nat)) ∧ ((r == (3 : Int)) = false → ((68 : Nat) = (68 : Nat) ∧ (((0 : Int) ≤ y.n (33 : Nat) ∧ y.n (33 : Nat) ≤ (32 : Int)) ∧ ((0 : Int) ≤ y.n (67 :
      Nat) ∧ y.n (67 : Nat) ≤ (32 : Int)) ∧ ((0 : Int) ≤ y.n (72 : Nat) ∧ y.n (72 : Nat) ≤ (1022 : Int)) ∧ ((0 : Int) ≤ y.n (73 : Nat) ∧ y.n (73 : Nat) ≤ (10000000 : Int)) ∧
      True) ∧ (84 : Nat) = (84 : Nat) ∧ (((0 : Int) ≤ y.n (100000 : Nat) ∧ y.n (100000 : Nat) ≤ (10000000 : Int)) ∧ True) ∧ (4294967295 : Nat) = (4294967295 : Nat) ∧
      (741991204937588471353107210173517385893522847741378461052633880361214601735917472982278721692919759636892846595991201096475255940853038949688016010326287086087990634635853824
      : Nat) =
      (741991204937588471353107210173517385893522847741378461052633880361214601735917472982278721692919759636892846595991201096475255940853038949688016010326287086087990634635853824
      : Nat) ∧ (60 : Nat) = (60 : Nat) ∧ (flat [Sp.r IntKind.i16 (0 : Int) (0 : Int), Sp.r IntKind.i16 (0 : Int) (0 : Int)] = true ∧ Row [Sp.r IntKind.i16 (0 : Int) (0 : Int),
      Sp.r IntKind.i16 (0 : Int) (0 : Int)] (y.l (4 : Nat))) ∧ ([] : SW) = []) ∧ True ∧ Len2 (y.l (4 : Nat)) (↑(y.n (74 : Nat)).toNat : Int) ∧ (↑(y.n (74 : Nat)).toNat : Int) *
      (512 : Int) ≤ y.n (73 : Nat)))))) := by kernel_rfl
set_option maxHeartbeats 4000000 in
theorem wr_c (E : World) (w r x : Int) (z : PX) (hz : rgM z [mU 1 2, mP 3, rowS, mO] 0) (hp : (fun z => Len2 (z.l 2) (z.n 74) ∧ z.n 74 * 512 ≤ z.n 73 ∧ w ≤ 10000000 ∧ r ≠ 2 ∧ 0 ≤ x ∧ x ≤ 65535) z) : HD (pe E) 10 [.c (.p 0 0), .c (.i false .i64 w), .c (.i false .i64 r), .c (.i false .u16 x)] [mU 1 2, mP 3, rowS, mO] [mU 1 4, mP 3, .g HOLE, mO, rowS] (.t []) (fun z y => Len2 (y.l 4) (y.n 74) ∧ y.n 74 * 512 ≤ y.n 73) z := by
  refine HD.mk (by rfl) (fnTree_sound (P := pe E) orcR_ok tab_ok tab_sz mixed 20000 Try.func10 (by decide) [.c (.p 0 0), .c (.i false .i64 w), .c (.i false .i64 r), .c (.i false .u16 x)] _) ⟨?_⟩
  rw [wr_p]
  obtain ⟨hL, hn, hw, hr, hx⟩ := hp
  obtain ⟨u33, u67, u72, u73, u74, _⟩ : (0 ≤ z.n 33 ∧ z.n 33 ≤ 32) ∧ (0 ≤ z.n 67 ∧ z.n 67 ≤ 32) ∧ (0 ≤ z.n 72 ∧ z.n 72 ≤ 1022) ∧ (0 ≤ z.n 73 ∧ z.n 73 ≤ 10000000) ∧ 0 ≤ z.n 74 ∧ True  := hz.1
  have hR : Row [.r .i16 0 0, .r .i16 0 0] (z.l 2) := hz.2.2.1.2
  have hP : (0 ≤ z.n 100000 ∧ z.n 100000 ≤ 10000000) ∧ True := hz.2.1
  have hf : flat [Sp.r .i16 0 0, Sp.r .i16 0 0] = true := rfl
  have T1 : ((z.n 74).toNat : Int) = z.n 74 := Int.toNat_of_nonneg u74
  simp only [T1]
  refine ⟨by ((repeat' (first | exact trivial | with_reducible rfl | assumption | exact decide_eq_true rfl | exact sameB_self _ | exact rfl | apply And.intro | intro _)) <;> omega), ?_⟩
  rintro y ⟨⟨huy, hPy, ⟨_, hRy⟩, _⟩, hrvy, hLy, hny⟩
  obtain ⟨u33y, u67y, u72y, u73y, u74y, _⟩ : (0 ≤ y.n 33 ∧ y.n 33 ≤ 32) ∧ (0 ≤ y.n 67 ∧ y.n 67 ≤ 32) ∧ (0 ≤ y.n 72 ∧ y.n 72 ≤ 1022) ∧ (0 ≤ y.n 73 ∧ y.n 73 ≤ 10000000) ∧ 0 ≤ y.n 74 ∧ True  := huy
  have T1y : ((y.n 74).toNat : Int) = y.n 74 := Int.toNat_of_nonneg u74y
  simp only [T1y]
  have h2 : (r == 2) = false := by simp [hr]
  have hb : 0 ≤ IntKind.i64.wrap (bits .and .u16 x 1022) ∧ IntKind.i64.wrap (bits .and .u16 x 1022) ≤ 1022 := by
    have e := and_sh .u16 rfl x hx.1 (by show x < 2 ^ 16; omega) 1 9 (by decide)
    have e1 : ((2 ^ 9 - 1) * 2 ^ 1 : Int) = 1022 := by decide
    rw [e1] at e
    rw [e, wi64]; omega
  simp only [h2, Bool.false_eq_true, false_implies, true_implies, true_and, forall_const]
  ((repeat' (first | exact trivial | with_reducible rfl | assumption | exact decide_eq_true rfl | exact sameB_self _ | exact rfl | apply And.intro | intro _)) <;> omega)
end Go.Proofs.Ytkeinfmfkcgkhaa

