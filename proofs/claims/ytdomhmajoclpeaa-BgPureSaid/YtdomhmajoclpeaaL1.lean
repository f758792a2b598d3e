import Derived.Test.YtdomhmajoclpeaaK
set_option linter.unusedVariables false
set_option linter.unusedSimpArgs false
namespace Go.Proofs.Ytdomhmajoclpeaa
open Go Go.Proofs Go.Proofs.Ytdomhmajoclpeaa.Ev Go.Proofs.Ytdomhmajoclpeaa.Ev.Ho Go.IntKind
set_option maxRecDepth 100000
noncomputable def mSr (k : Nat) : MB := .o [.r .u16 0 65535, .r .u16 0 65535, .r .u16 0 65535, .r .u16 0 65535, .r .u16 0 65535, .r .u16 0 65535, .r .u16 0 65535, .r .u16 0 65535, .r .u16 0 65535, .r .u16 0 65535, .r .u16 0 65535, .r .u16 0 65535, .r .u16 0 65535, .r .i16 (-32768) 32767, .r .i16 (-32768) 32767, .r .i16 (-32768) 32767, .r .i16 (-32768) 32767, .r .i16 (-32768) 32767, .r .i16 (-32768) 32767, .r .i16 (-32768) 32767, .r .i16 (-32768) 32767, .r .i32 (-2147483648) 2147483647, .r .i32 (-2147483648) 2147483647, .r .i32 (-2147483648) 2147483647, .r .i32 (-2147483648) 2147483647, .r .u16 0 65535, .v k 1, .v (k + 1) 1, .v (k + 2) 1] 54
noncomputable def mEr (a1 : Option Addr) (n1 m1 : Nat) (a2 : Option Addr) (n2 m2 : Nat) (a3 : Option Addr) (n3 m3 : Nat) : MB := .o [.r .u16 0 65535, .r .u16 0 65535, .r .u16 0 65535, .r .u16 0 65535, .r .u16 0 65535, .r .u16 0 65535, .r .u16 0 65535, .r .u16 0 65535, .r .u16 0 65535, .r .u16 0 65535, .r .u16 0 65535, .r .u16 0 65535, .r .u16 0 65535, .r .i16 (-32768) 32767, .r .i16 (-32768) 32767, .r .i16 (-32768) 32767, .r .i16 (-32768) 32767, .r .i16 (-32768) 32767, .r .i16 (-32768) 32767, .r .i16 (-32768) 32767, .r .i16 (-32768) 32767, .r .i32 (-2147483648) 2147483647, .r .i32 (-2147483648) 2147483647, .r .i32 (-2147483648) 2147483647, .r .i32 (-2147483648) 2147483647, .r .u16 0 65535, .q (.es a1 n1 m1), .q (.es a2 n2 m2), .q (.es a3 n3 m3)] 54
noncomputable def texF (s : Sc) (a x y pal : Int) (many : Bool) : Int :=
  let at_ := if many = true then a + (8 * y + x) else a + (4 * y + x / 2)
  let n := if many = true then s.v at_ else if x % 2 = 1 then s.v at_ / 16 else s.v at_ % 16
  if n = 0 ∨ 65536 ≤ at_ then 32768 else colF s.p s.pn (if many = true then n else 16 * pal + n)
noncomputable def kdF (c i : Int) : Int := if c % 8 = 0 ∨ (c % 8 = 1 ∧ i < 2) then 1 else if (c % 8 = 1 ∧ i = 2) ∨ (c % 8 = 2 ∧ 1 < i) then 2 else if 3 ≤ c % 8 ∧ c % 8 ≤ 5 ∧ i = 2 then 3 else 0
noncomputable def bmF (s : Sc) (x y : Int) : Int := if s.ctl % 8 = 5 then smlF s x y else if s.ctl % 8 = 4 then idxF s x y else (if 0 ≤ x ∧ x < 240 ∧ 0 ≤ y ∧ y < 160 then halfF s.v s.vn ((if 3 < s.ctl % 8 then othF s.ctl else 0) + 2 * (240 * y + x)) % 32768 else 32768)
theorem btE {c K M : Int} (hc : 0 ≤ c ∧ c ≤ 65535) (hK : 0 < K) : ((IntKind.i64.wrap c).fdiv K).tmod M = c / K % M := by
  rw [wi64_in c (by omega) (by omega), fd _ _ (by omega), Int.tmod_eq_emod_of_nonneg (Int.ediv_nonneg hc.1 (by omega))]
theorem bandT {a b : Bool} : (bif a then b else false) = true ↔ a = true ∧ b = true := by cases a <;> simp
theorem bandF {a b : Bool} : (bif a then b else false) = false ↔ ¬(a = true ∧ b = true) := by cases a <;> simp
theorem borT {a b : Bool} : (bif a then true else b) = true ↔ a = true ∨ b = true := by cases a <;> simp
theorem borF {a b : Bool} : (bif a then true else b) = false ↔ ¬(a = true ∨ b = true) := by cases a <;> simp
theorem rcolR_p (E : World) (z : PX) (n : Int) :
    (hoPr true [mSr 1, rowB, rowB, rowB] [] (.c (.r .u16 0 32767)) (fun z y => y.n 90000 = colF (bR (z.l 2) (z.n 27).toNat) (z.n 27).toNat n) z (fnTree (pe E) (orcL E) (tabL fns) 20000 Try.f34 [.c (.p 0 0), .c (.i false .i64 n)] (mkM z [] [mSr 1, rowB, rowB, rowB] 0))) =
    (((bif decide (n < 0) then true else decide (n > (↑(z.n 27).toNat : Int))) = true → (((0 : Int) ≤ (0 : Int) ∧ (0 : Int) ≤ 32767) ∧ True) ∧ mkM z [] [mSr (1 : Nat), rowB, rowB, rowB] (0 : Nat) = mkM z [] [mSr (1 : Nat), rowB, rowB, rowB] (0 : Nat) ∧ 0 = colF (bR (z.l 2) (z.n 27).toNat) (z.n 27).toNat n) ∧ ((bif decide (n < 0) then true else decide (n > (↑(z.n 27).toNat : Int))) = false → ((5 = 5 ∧ (flat [Sp.r u8 0 255] = true ∧ Row [Sp.r u8 0 255] (z.l 2)) ∧ ([] : SW) = []) ∧ ROk (z.l 2) (z.n 27).toNat ∧ (-1000000000) ≤ i64.wrap (2 * n) ∧ i64.wrap (2 * n) ≤ 1000000000) ∧ ∀ (y : PX), ((0 ≤ y.n 90000 ∧ y.n 90000 ≤ 65535) ∧ True) ∧ y.n 90000 = halfF (bR (z.l 2) (z.n 27).toNat) (z.n 27).toNat (i64.wrap (2 * n)) → ((0 ≤ u16.wrap ((y.n 90000).tmod 32768) ∧ u16.wrap ((y.n 90000).tmod 32768) ≤ 32767) ∧ True) ∧ mkM z [] [mSr (1 : Nat), rowB, rowB, rowB] (0 : Nat) = mkM z [] [mSr (1 : Nat), rowB, rowB, rowB] (0 : Nat) ∧ u16.wrap ((y.n 90000).tmod 32768) = colF (bR (z.l 2) (z.n 27).toNat) (z.n 27).toNat n)) := by kernel_rfl
theorem rcolR_c (E : World) (n : Int) (z : PX) (hz : rgM z [mSr 1, rowB, rowB, rowB] 0) (hp : (fun z => (ROk (z.l 1) (z.n 26).toNat ∧ ROk (z.l 2) (z.n 27).toNat) ∧ 0 ≤ n ∧ n ≤ 1000000) z) : HR (pe E) 34 [.c (.p 0 0), .c (.i false .i64 n)] [mSr 1, rowB, rowB, rowB] [] (.c (.r .u16 0 32767)) (fun z y => y.n 90000 = colF (bR (z.l 2) (z.n 27).toNat) (z.n 27).toNat n) z := by
  refine HR.mk true (by rfl) (by rfl) (fnTree_sound (P := pe E) orcL_ok tab_ok tab_sz mixed 20000 Try.func34 (by decide) [.c (.p 0 0), .c (.i false .i64 n)] _) ⟨?_⟩
  rw [rcolR_p]
  obtain ⟨⟨hK1, hK2⟩, h0, h1⟩ := hp
  have hR1 : Row [.r .u8 0 255] (z.l 1) := hz.2.1.2
  have hR2 : Row [.r .u8 0 255] (z.l 2) := hz.2.2.1.2
  have hR3 : Row [.r .u8 0 255] (z.l 3) := hz.2.2.2.1.2
  have hF : flat [Sp.r .u8 0 255] = true := rfl
  obtain ⟨r0, r1, r2, r3, r4, r5, r6, r7, r8, r9, r10, r11, r12, r13, r14, r15, r16, r17, r18, r19, r20, r21, r22, r23, r24, r25, v26, v27, v28, _⟩ := hz.1
  simp only [bandT, bandF, borT, borF, decide_eq_true_eq, decide_eq_false_iff_not, beq_iff_eq, beq_eq_false_iff_ne, bne_iff_ne, bne_eq_false_iff_eq, ne_eq, Bool.not_eq_true', Bool.not_eq_false']
  have w1 : IntKind.i64.wrap (2 * n) = 2 * n := wi64_in _ (by omega) (by omega)
  rw [w1]
  refine ⟨fun h => ?_, fun h => ⟨by (repeat' (first | exact trivial | with_reducible rfl | exact decide_eq_true rfl | exact decide_eq_true trivial | exact sameB_self _ | with_reducible assumption | apply And.intro)) <;> (first | omega | done), ?_⟩⟩
  · rw [colF_out (by omega)]
    (repeat' (first | exact trivial | with_reducible rfl | exact decide_eq_true rfl | exact decide_eq_true trivial | exact sameB_self _ | with_reducible assumption | apply And.intro)) <;> (first | omega | done)
  · rintro y ⟨⟨hy, _⟩, hq⟩
    have e : IntKind.u16.wrap ((y.n 90000).tmod 32768) = y.n 90000 % 32768 := by rw [Int.tmod_eq_emod_of_nonneg hy.1, wu16]; omega
    have hb := hK2.b
    have e2 : y.n 90000 % 32768 = colF (bR (z.l 2) (z.n 27).toNat) (z.n 27).toNat n := by
      by_cases hc : 0 ≤ n ∧ n < (((z.n 27).toNat : Nat) : Int)
      · rw [colF_in hc, hq]
      · rw [colF_out hc, hq, halfF_out (by omega)]; rfl
    rw [e, e2]
    rw [e2] at e
    have hr : 0 ≤ colF (bR (z.l 2) (z.n 27).toNat) (z.n 27).toNat n ∧ colF (bR (z.l 2) (z.n 27).toNat) (z.n 27).toNat n ≤ 32767 := by rw [← e2]; omega
    (repeat' (first | exact trivial | with_reducible rfl | exact decide_eq_true rfl | exact decide_eq_true trivial | exact sameB_self _ | with_reducible assumption | apply And.intro)) <;> (first | omega | done)
theorem rkindR_p (E : World) (z : PX) (i : Int) :
    (hoPr true [mSr 1, rowB, rowB, rowB] [] (.c (.r .i64 0 3)) (fun z y => y.n 90000 = kdF (z.n 0) i) z (fnTree (pe E) (orcL E) (tabL fns) 20000 Try.f20 [.c (.p 0 0), .c (.i false .i64 i)] (mkM z [] [mSr 1, rowB, rowB, rowB] 0))) =
    (((((i64.wrap (z.n 0)).fdiv 1).tmod (8 : Int) == 0) = true → (((0 : Int) ≤ (1 : Int) ∧ (1 : Int) ≤ 3) ∧ True) ∧ mkM z [] [mSr (1 : Nat), rowB, rowB, rowB] (0 : Nat) = mkM z [] [mSr (1 : Nat), rowB, rowB, rowB] (0 : Nat) ∧ 1 = kdF (z.n 0) i) ∧ ((((i64.wrap (z.n 0)).fdiv 1).tmod (8 : Int) == 0) = false → ((bif ((i64.wrap (z.n 0)).fdiv 1).tmod (8 : Int) == 1 then decide (i < 2) else false) = true → (((0 : Int) ≤ (1 : Int) ∧ (1 : Int) ≤ 3) ∧ True) ∧ mkM z [] [mSr (1 : Nat), rowB, rowB, rowB] (0 : Nat) = mkM z [] [mSr (1 : Nat), rowB, rowB, rowB] (0 : Nat) ∧ 1 = kdF (z.n 0) i) ∧ ((bif ((i64.wrap (z.n 0)).fdiv 1).tmod (8 : Int) == 1 then decide (i < 2) else false) = false → ((bif ((i64.wrap (z.n 0)).fdiv 1).tmod (8 : Int) == 1 then i == 2 else false) = true → (((0 : Int) ≤ (2 : Int) ∧ (2 : Int) ≤ 3) ∧ True) ∧ mkM z [] [mSr (1 : Nat), rowB, rowB, rowB] (0 : Nat) = mkM z [] [mSr (1 : Nat), rowB, rowB, rowB] (0 : Nat) ∧ 2 = kdF (z.n 0) i) ∧ ((bif ((i64.wrap (z.n 0)).fdiv 1).tmod (8 : Int) == 1 then i == 2 else false) = false → ((bif ((i64.wrap (z.n 0)).fdiv 1).tmod (8 : Int) == 2 then decide (i > 1) else false) = true → (((0 : Int) ≤ (2 : Int) ∧ (2 : Int) ≤ 3) ∧ True) ∧ mkM z [] [mSr (1 : Nat), rowB, rowB, rowB] (0 : Nat) = mkM z [] [mSr (1 : Nat), rowB, rowB, rowB] (0 : Nat) ∧ 2 = kdF (z.n 0) i) ∧ ((bif ((i64.wrap (z.n 0)).fdiv 1).tmod (8 : Int) == 2 then decide (i > 1) else false) = false → ((bif bif decide (((i64.wrap (z.n 0)).fdiv 1).tmod (8 : Int) ≥ 3) then decide (((i64.wrap (z.n 0)).fdiv 1).tmod (8 : Int) ≤ 5) else false then i == 2 else false) = true → (((0 : Int) ≤ (3 : Int) ∧ (3 : Int) ≤ 3) ∧ True) ∧ mkM z [] [mSr (1 : Nat), rowB, rowB, rowB] (0 : Nat) = mkM z [] [mSr (1 : Nat), rowB, rowB, rowB] (0 : Nat) ∧ 3 = kdF (z.n 0) i) ∧ ((bif bif decide (((i64.wrap (z.n 0)).fdiv 1).tmod (8 : Int) ≥ 3) then decide (((i64.wrap (z.n 0)).fdiv 1).tmod (8 : Int) ≤ 5) else false then i == 2 else false) = false → (((0 : Int) ≤ (0 : Int) ∧ (0 : Int) ≤ 3) ∧ True) ∧ mkM z [] [mSr (1 : Nat), rowB, rowB, rowB] (0 : Nat) = mkM z [] [mSr (1 : Nat), rowB, rowB, rowB] (0 : Nat) ∧ 0 = kdF (z.n 0) i)))))) := by kernel_rfl
theorem rkindR_c (E : World) (i : Int) (z : PX) (hz : rgM z [mSr 1, rowB, rowB, rowB] 0) (hp : (fun _ => True) z) : HR (pe E) 20 [.c (.p 0 0), .c (.i false .i64 i)] [mSr 1, rowB, rowB, rowB] [] (.c (.r .i64 0 3)) (fun z y => y.n 90000 = kdF (z.n 0) i) z := by
  refine HR.mk true (by rfl) (by rfl) (fnTree_sound (P := pe E) orcL_ok tab_ok tab_sz mixed 20000 Try.func20 (by decide) [.c (.p 0 0), .c (.i false .i64 i)] _) ⟨?_⟩
  rw [rkindR_p]
  have hR1 : Row [.r .u8 0 255] (z.l 1) := hz.2.1.2
  have hR2 : Row [.r .u8 0 255] (z.l 2) := hz.2.2.1.2
  have hR3 : Row [.r .u8 0 255] (z.l 3) := hz.2.2.2.1.2
  have hF : flat [Sp.r .u8 0 255] = true := rfl
  obtain ⟨r0, r1, r2, r3, r4, r5, r6, r7, r8, r9, r10, r11, r12, r13, r14, r15, r16, r17, r18, r19, r20, r21, r22, r23, r24, r25, v26, v27, v28, _⟩ := hz.1
  replace r0 : 0 ≤ z.n 0 ∧ z.n 0 ≤ 65535 := r0
  simp only [btE (M := 8) r0 (show (0 : Int) < 1 by decide), Int.ediv_one]
  generalize z.n 0 = c at *
  simp only [bandT, bandF, borT, borF, decide_eq_true_eq, decide_eq_false_iff_not, beq_iff_eq, beq_eq_false_iff_ne, bne_iff_ne, bne_eq_false_iff_eq, ne_eq, Bool.not_eq_true', Bool.not_eq_false']
  unfold kdF
  (repeat' (first | exact trivial | with_reducible rfl | exact decide_eq_true rfl | exact decide_eq_true trivial | exact sameB_self _ | with_reducible assumption | apply And.intro | intro _))
  all_goals (first | omega | ((repeat' split) <;> omega))
theorem flr_p (E : World) (z : PX) (x : Int) :
    (hoPr true [] [] (.c (.r .i64 (-8388608) 8388607)) (fun _ y => y.n 90000 = x / 256) z (fnTree (pe E) (orcL E) (tabL fns) 20000 Try.f23 [.c (.i false .i32 x)] (mkM z [] [] 0))) =
    ((decide (i64.wrap x < 0) = true → (((-8388608) ≤ i64.wrap (0 - i64.wrap ((i64.wrap (255 - i64.wrap x)).tdiv 256)) ∧ i64.wrap (0 - i64.wrap ((i64.wrap (255 - i64.wrap x)).tdiv 256)) ≤ 8388607) ∧ True) ∧ mkM z [] [] (0 : Nat) = mkM z [] [] (0 : Nat) ∧ i64.wrap (0 - i64.wrap ((i64.wrap (255 - i64.wrap x)).tdiv 256)) = x / 256) ∧ (decide (i64.wrap x < 0) = false → (((-8388608) ≤ i64.wrap ((i64.wrap x).tdiv 256) ∧ i64.wrap ((i64.wrap x).tdiv 256) ≤ 8388607) ∧ True) ∧ mkM z [] [] (0 : Nat) = mkM z [] [] (0 : Nat) ∧ i64.wrap ((i64.wrap x).tdiv 256) = x / 256)) := by kernel_rfl
theorem flr_c (E : World) (x : Int) (z : PX) (hz : rgM z [] 0) (hp : (fun _ => -2147483648 ≤ x ∧ x ≤ 2147483647) z) : HR (pe E) 23 [.c (.i false .i32 x)] [] [] (.c (.r .i64 (-8388608) 8388607)) (fun _ y => y.n 90000 = x / 256) z := by
  refine HR.mk true (by rfl) (by rfl) (fnTree_sound (P := pe E) orcL_ok tab_ok tab_sz mixed 20000 Try.func23 (by decide) [.c (.i false .i32 x)] _) ⟨?_⟩
  rw [flr_p]
  obtain ⟨h0, h1⟩ := hp
  rw [wi64_in x (by omega) (by omega)]
  simp only [bandT, bandF, borT, borF, decide_eq_true_eq, decide_eq_false_iff_not, beq_iff_eq, beq_eq_false_iff_ne, bne_iff_ne, bne_eq_false_iff_eq, ne_eq, Bool.not_eq_true', Bool.not_eq_false']
  refine ⟨fun h => ?_, fun h => ?_⟩
  · rw [wi64_in (255 - x) (by omega) (by omega), Int.tdiv_eq_ediv_of_nonneg (show 0 ≤ 255 - x by omega), wi64_in ((255 - x) / 256) (by omega) (by omega), wi64_in (0 - (255 - x) / 256) (by omega) (by omega)]
    (repeat' (first | exact trivial | with_reducible rfl | exact decide_eq_true rfl | exact decide_eq_true trivial | exact sameB_self _ | with_reducible assumption | apply And.intro)) <;> (first | omega | done)
  · rw [Int.tdiv_eq_ediv_of_nonneg (show 0 ≤ x by omega), wi64_in (x / 256) (by omega) (by omega)]
    (repeat' (first | exact trivial | with_reducible rfl | exact decide_eq_true rfl | exact decide_eq_true trivial | exact sameB_self _ | with_reducible assumption | apply And.intro)) <;> (first | omega | done)
noncomputable def orcQR (E : World) : Orc := fun g vs s => match g with
  | 34 => (match frGo [mSr 1, rowB, rowB, rowB] vs s (fun vs0 π s1 s0 => match vs0 with
      | [.c (.p 0 0), .c (.i l2 .i64 n)] => some (hrG (pre := fun z => (ROk (z.l 1) (z.n 26).toNat ∧ ROk (z.l 2) (z.n 27).toNat) ∧ 0 ≤ n ∧ n ≤ 1000000) (fun z hz hp => HR.args (vs := [.c (.p 0 0), .c (.i l2 .i64 n)]) (by simp [simL, SV.sim, C.sim]) (rcolR_c E n z hz hp)) (by rfl) π s1 s0)
      | _ => none) with
    | some t => some t
    | none => (orcL E) g vs s)
  | 20 => (match frGo [mSr 1, rowB, rowB, rowB] vs s (fun vs0 π s1 s0 => match vs0 with
      | [.c (.p 0 0), .c (.i l2 .i64 i)] => some (hrG (pre := fun _ => True) (fun z hz hp => HR.args (vs := [.c (.p 0 0), .c (.i l2 .i64 i)]) (by simp [simL, SV.sim, C.sim]) (rkindR_c E i z hz hp)) (by rfl) π s1 s0)
      | _ => none) with
    | some t => some t
    | none => (orcL E) g vs s)
  | 23 => (match frGo [] vs s (fun vs0 π s1 s0 => match vs0 with
      | [.c (.i l1 .i32 x)] => some (hrG (pre := fun _ => -2147483648 ≤ x ∧ x ≤ 2147483647) (fun z hz hp => HR.args (vs := [.c (.i l1 .i32 x)]) (by simp [simL, SV.sim, C.sim]) (flr_c E x z hz hp)) (by rfl) π s1 s0)
      | _ => none) with
    | some t => some t
    | none => (orcL E) g vs s)
  | g => (orcL E) g vs s
theorem orcQR_ok {E : World} : OrcOK (pe E) (orcQR E) := by
  intro g vs s t h
  unfold orcQR at h
  split at h
  · split at h
    · rename_i hfr; cases h
      obtain ⟨π, s1, hq, hK, hv, hok, hpd⟩ := frGo_spec (P := pe E) hfr
      split at hK
      · rename_i heq; cases hK
        rw [heq] at hv hok
        exact hpd _ _ (hrG_ok _ _ (by rfl) π s1 hq hv hok)
      · cases hK
    · exact orcL_ok _ _ _ _ h
  · split at h
    · rename_i hfr; cases h
      obtain ⟨π, s1, hq, hK, hv, hok, hpd⟩ := frGo_spec (P := pe E) hfr
      split at hK
      · rename_i heq; cases hK
        rw [heq] at hv hok
        exact hpd _ _ (hrG_ok _ _ (by rfl) π s1 hq hv hok)
      · cases hK
    · exact orcL_ok _ _ _ _ h
  · split at h
    · rename_i hfr; cases h
      obtain ⟨π, s1, hq, hK, hv, hok, hpd⟩ := frGo_spec (P := pe E) hfr
      split at hK
      · rename_i heq; cases hK
        rw [heq] at hv hok
        exact hpd _ _ (hrG_ok _ _ (by rfl) π s1 hq hv hok)
      · cases hK
    · exact orcL_ok _ _ _ _ h
  · exact orcL_ok _ _ _ _ h
end Go.Proofs.Ytdomhmajoclpeaa

