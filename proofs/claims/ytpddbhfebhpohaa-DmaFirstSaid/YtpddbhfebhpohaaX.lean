import Derived.Test.YtpddbhfebhpohaaV
import Derived.Test.YtpddbhfebhpohaaW
set_option linter.unusedVariables false
set_option linter.unusedSimpArgs false
namespace Go.Proofs.Ytpddbhfebhpohaa
open Go Go.Proofs Go.Proofs.Ytpddbhfebhpohaa.Ev Go.Proofs.Ytpddbhfebhpohaa.Ev.Ho
set_option maxRecDepth 100000
noncomputable def rB : MB := .o [.r .u32 0 4294967295, .r .u32 0 4294967295, .r .i64 0 65535, .r .u16 0 65535, .r .u32 0 4294967295, .r .u32 0 4294967295, .i .i64, .b, .b, .r .u32 0 4294967295, .r .u32 0 4294967295, .r .u32 0 4294967295, .r .i64 0 65535, .r .u16 0 65535, .r .u32 0 4294967295, .r .u32 0 4294967295, .i .i64, .b, .b, .r .u32 0 4294967295, .r .u32 0 4294967295, .r .u32 0 4294967295, .r .i64 0 65535, .r .u16 0 65535, .r .u32 0 4294967295, .r .u32 0 4294967295, .i .i64, .b, .b, .r .u32 0 4294967295, .r .u32 0 4294967295, .r .u32 0 4294967295, .r .i64 0 65535, .r .u16 0 65535, .r .u32 0 4294967295, .r .u32 0 4294967295, .i .i64, .b, .b, .r .u32 0 4294967295] 33
noncomputable def noS (t : Nat) : Tr → SW → Bool := fun tr _ => match tr.get t with | .t [] => true | .any => true | _ => false
def cz (c : Ch) : Prop := c.act = false ∧ c.control = 0
def of0 (_ : U4) : Prop := True
def of1 (u : U4) : Prop := cz u.c0
def of2 (u : U4) : Prop := cz u.c0 ∧ cz u.c1
def of3 (u : U4) : Prop := cz u.c0 ∧ cz u.c1 ∧ cz u.c2
def of4 (u : U4) : Prop := cz u.c0 ∧ cz u.c1 ∧ cz u.c2 ∧ cz u.c3
structure EQ (u v : U4) : Prop where
  e : u = v
noncomputable def orcX (E : World) : Orc := fun g vs s => match g with
  | 22 => some .fail
  | g => (orcC E) g vs s
theorem orcX_ok {E : World} : OrcOK (pe E) (orcX E) := by
  intro g vs s t h
  unfold orcX at h
  split at h
  · cases h
    intro W L ρ w post hI hok hp
    exact hp.elim
  · exact orcC_ok _ _ _ _ h
noncomputable def orcL (E : World) : Orc := fun g vs s => match g with
  | 12 => (match frGo [uB, tN] vs s (fun vs0 π s0 => match vs0 with
      | [.c (.p 0 0), .c (.ifc 34 1 0)] => some (hdG (pre := fun z => 0 ≤ (rdy (U4.mk (Ch.mk (z.n 1) (z.n 2) (z.n 3) (z.n 4) (z.n 5) (z.n 6) (z.n 7) (z.b 8) (z.b 9) (z.n 10)) (Ch.mk (z.n 12) (z.n 13) (z.n 14) (z.n 15) (z.n 16) (z.n 17) (z.n 18) (z.b 19) (z.b 20) (z.n 21)) (Ch.mk (z.n 23) (z.n 24) (z.n 25) (z.n 26) (z.n 27) (z.n 28) (z.n 29) (z.b 30) (z.b 31) (z.n 32)) (Ch.mk (z.n 34) (z.n 35) (z.n 36) (z.n 37) (z.n 38) (z.n 39) (z.n 40) (z.b 41) (z.b 42) (z.n 43))))) (fun z hz hp => HD.args (vs := [.c (.p 0 0), .c (.ifc 34 1 0)]) (by simp [simL, SV.sim, C.sim]) (stn_c E z hz hp)) (by rfl) π s s0)
      | _ => none) with
    | some t => some t
    | none => (match frGo [uB, tW 2 3, pR, wR] vs s (fun vs0 π s0 => match vs0 with
      | [.c (.p 0 0), .c (.ifc 34 1 0)] => some (hdG (pre := fun z => 0 ≤ (rdy (U4.mk (Ch.mk (z.n 1) (z.n 2) (z.n 3) (z.n 4) (z.n 5) (z.n 6) (z.n 7) (z.b 8) (z.b 9) (z.n 10)) (Ch.mk (z.n 12) (z.n 13) (z.n 14) (z.n 15) (z.n 16) (z.n 17) (z.n 18) (z.b 19) (z.b 20) (z.n 21)) (Ch.mk (z.n 23) (z.n 24) (z.n 25) (z.n 26) (z.n 27) (z.n 28) (z.n 29) (z.b 30) (z.b 31) (z.n 32)) (Ch.mk (z.n 34) (z.n 35) (z.n 36) (z.n 37) (z.n 38) (z.n 39) (z.n 40) (z.b 41) (z.b 42) (z.n 43)))) ∧ TP (z.n 100000) (z.n 100001) (z.l 2) (z.l 3)) (fun z hz hp => HD.args (vs := [.c (.p 0 0), .c (.ifc 34 1 0)]) (by simp [simL, SV.sim, C.sim]) (stw_c E z hz hp)) (by rfl) π s s0)
      | _ => none) with
    | some t => some t
    | none => (orcX E) g vs s))
  | g => (orcX E) g vs s
theorem orcL_ok {E : World} : OrcOK (pe E) (orcL E) := by
  intro g vs s t h
  unfold orcL at h
  split at h
  · split at h
    · rename_i hfr; cases h
      obtain ⟨π, hq, hK, hv, hok⟩ := frGo_spec hfr
      split at hK
      · rename_i heq; cases hK
        rw [heq] at hv hok
        exact hdG_ok _ _ π s hq hv hok
      · cases hK
    · split at h
      · rename_i hfr; cases h
        obtain ⟨π, hq, hK, hv, hok⟩ := frGo_spec hfr
        split at hK
        · rename_i heq; cases hK
          rw [heq] at hv hok
          exact hdG_ok _ _ π s hq hv hok
        · cases hK
      · exact orcX_ok _ _ _ _ h
  · exact orcX_ok _ _ _ _ h
noncomputable def law_td (E : World) : List Item := headOf (run (pe E) (orcL E) (tabL fns) 20000 (2 ^ 200 - 1) [.code (Try.f4.body.getD .skip)] ⟨Try.f4.ntmps, mkFrGo (Tr.mk 12) 0 [.c (.es none 0 0), .c (.i true .i64 0), .c (.i true .i64 1)]⟩ [])
noncomputable def headF : Tree Lf → List Item
  | .leaf lf => cond lf.ended [] lf.todo
  | .node _ _ f => headF f
  | .need _ t => headF t
  | .pin _ _ _ k => headF (k default)
  | .fail => []
noncomputable def zT : PX := ⟨fun _ => 1, fun _ => false, fun _ => .empty, fun _ => []⟩
noncomputable def law2_td (E : World) : List Item := headF (run (pe E) (orcL E) (tabL fns) 20000 (2 ^ 200 - 1) (law_td E) (mkL Try.f4.ntmps (slC zT ([(1, .r .i64 (0) (3)), (2, .r .i64 (0) (3)), (7, .c (.p 0 0)), (8, .c (.p 1 0)), (9, .c (.p 2 0)), (48, .q (.es none 0 0)), (49, .q (.i false .i64 0)), (50, .r .i64 (0) (100))]))) (mkM zT [] [uB, rB, tN] 0))

theorem bz : bits .and .u16 0 63456 = 0 := by kernel_rfl
theorem cz_w (k : Int) (c : Ch) : cz (chW k 5 0 c) := by
  have e : chW k 5 0 c = ctlC k 0 0 c := by unfold chW; rw [bz]; rfl
  rw [e]; exact ⟨rfl, rfl⟩
theorem of_0 {u : U4} (_ : of0 u) : of1 (uW 0 5 0 u) := cz_w 0 u.c0
theorem of_1 {u : U4} (h : of1 u) : of2 (uW 1 5 0 u) := ⟨h, cz_w 1 u.c1⟩
theorem of_2 {u : U4} (h : of2 u) : of3 (uW 2 5 0 u) := ⟨h.1, h.2, cz_w 2 u.c2⟩
theorem of_3 {u : U4} (h : of3 u) : of4 (uW 3 5 0 u) := ⟨h.1, h.2.1, h.2.2, cz_w 3 u.c3⟩
def gg2 (h : Int) (u : U4) : U4 := uW h 5 32768 (uW h 4 9 u)
def gg3 (h : Int) (u : U4) : U4 := stU (gg2 h u)
def gg5 (l h : Int) (u : U4) : U4 := uW l 5 32768 (uW l 4 2 (gg3 h u))
def gg6 (l h : Int) (u : U4) : U4 := stU (gg5 l h u)
def gg7 (l h : Int) (u : U4) : U4 := stU (gg6 l h u)
structure FN (l h : Int) (u : U4) : Prop where
  a : rdy (gg2 h u) = h
  b : rdy (gg5 l h u) = l
  c : dn (getC (gg5 l h u) l) = false
  d : rdy (gg6 l h u) = l
  e : dn (getC (gg6 l h u) l) = true
  f : rdy (gg7 l h u) = h
  g : dn (getC (gg7 l h u) h) = false
def kc (s d n a t l : Int) (f : Bool) (x : Int) : Ch := ⟨s, d, n, 0, a, t, l, false, f, x⟩
theorem cz_kc {c : Ch} (h : cz c) : c = kc c.src c.dst c.count c.at_ c.to c.left c.first c.last := by
  obtain ⟨s, d, n, k, a, t, l, b, f, x⟩ := c
  obtain ⟨h1, h2⟩ := h
  have h1 : b = false := h1
  have h2 : k = 0 := h2
  subst h1; subst h2; rfl
theorem fn01 (s0 d0 n0 a0 t0 l0 x0 s1 d1 n1 a1 t1 l1 x1 s2 d2 n2 a2 t2 l2 x2 s3 d3 n3 a3 t3 l3 x3 : Int) (f0 f1 f2 f3 : Bool) : FN 0 1 ⟨kc s0 d0 n0 a0 t0 l0 f0 x0, kc s1 d1 n1 a1 t1 l1 f1 x1, kc s2 d2 n2 a2 t2 l2 f2 x2, kc s3 d3 n3 a3 t3 l3 f3 x3⟩ :=
  ⟨by kernel_rfl, by kernel_rfl, by kernel_rfl, by kernel_rfl, by kernel_rfl, by kernel_rfl, by kernel_rfl⟩
theorem fn02 (s0 d0 n0 a0 t0 l0 x0 s1 d1 n1 a1 t1 l1 x1 s2 d2 n2 a2 t2 l2 x2 s3 d3 n3 a3 t3 l3 x3 : Int) (f0 f1 f2 f3 : Bool) : FN 0 2 ⟨kc s0 d0 n0 a0 t0 l0 f0 x0, kc s1 d1 n1 a1 t1 l1 f1 x1, kc s2 d2 n2 a2 t2 l2 f2 x2, kc s3 d3 n3 a3 t3 l3 f3 x3⟩ :=
  ⟨by kernel_rfl, by kernel_rfl, by kernel_rfl, by kernel_rfl, by kernel_rfl, by kernel_rfl, by kernel_rfl⟩
theorem fn03 (s0 d0 n0 a0 t0 l0 x0 s1 d1 n1 a1 t1 l1 x1 s2 d2 n2 a2 t2 l2 x2 s3 d3 n3 a3 t3 l3 x3 : Int) (f0 f1 f2 f3 : Bool) : FN 0 3 ⟨kc s0 d0 n0 a0 t0 l0 f0 x0, kc s1 d1 n1 a1 t1 l1 f1 x1, kc s2 d2 n2 a2 t2 l2 f2 x2, kc s3 d3 n3 a3 t3 l3 f3 x3⟩ :=
  ⟨by kernel_rfl, by kernel_rfl, by kernel_rfl, by kernel_rfl, by kernel_rfl, by kernel_rfl, by kernel_rfl⟩
theorem fn12 (s0 d0 n0 a0 t0 l0 x0 s1 d1 n1 a1 t1 l1 x1 s2 d2 n2 a2 t2 l2 x2 s3 d3 n3 a3 t3 l3 x3 : Int) (f0 f1 f2 f3 : Bool) : FN 1 2 ⟨kc s0 d0 n0 a0 t0 l0 f0 x0, kc s1 d1 n1 a1 t1 l1 f1 x1, kc s2 d2 n2 a2 t2 l2 f2 x2, kc s3 d3 n3 a3 t3 l3 f3 x3⟩ :=
  ⟨by kernel_rfl, by kernel_rfl, by kernel_rfl, by kernel_rfl, by kernel_rfl, by kernel_rfl, by kernel_rfl⟩
theorem fn13 (s0 d0 n0 a0 t0 l0 x0 s1 d1 n1 a1 t1 l1 x1 s2 d2 n2 a2 t2 l2 x2 s3 d3 n3 a3 t3 l3 x3 : Int) (f0 f1 f2 f3 : Bool) : FN 1 3 ⟨kc s0 d0 n0 a0 t0 l0 f0 x0, kc s1 d1 n1 a1 t1 l1 f1 x1, kc s2 d2 n2 a2 t2 l2 f2 x2, kc s3 d3 n3 a3 t3 l3 f3 x3⟩ :=
  ⟨by kernel_rfl, by kernel_rfl, by kernel_rfl, by kernel_rfl, by kernel_rfl, by kernel_rfl, by kernel_rfl⟩
theorem fn23 (s0 d0 n0 a0 t0 l0 x0 s1 d1 n1 a1 t1 l1 x1 s2 d2 n2 a2 t2 l2 x2 s3 d3 n3 a3 t3 l3 x3 : Int) (f0 f1 f2 f3 : Bool) : FN 2 3 ⟨kc s0 d0 n0 a0 t0 l0 f0 x0, kc s1 d1 n1 a1 t1 l1 f1 x1, kc s2 d2 n2 a2 t2 l2 f2 x2, kc s3 d3 n3 a3 t3 l3 f3 x3⟩ :=
  ⟨by kernel_rfl, by kernel_rfl, by kernel_rfl, by kernel_rfl, by kernel_rfl, by kernel_rfl, by kernel_rfl⟩
theorem fin_all {u : U4} {l h : Int} (ho : of4 u) (l0 : 0 ≤ l) (lh : l < h) (h3 : h ≤ 3) : FN l h u := by
  obtain ⟨c0, c1, c2, c3⟩ := u
  obtain ⟨z0, z1, z2, z3⟩ := ho
  have z0 : cz c0 := z0
  have z1 : cz c1 := z1
  have z2 : cz c2 := z2
  have z3 : cz c3 := z3
  rw [cz_kc z0, cz_kc z1, cz_kc z2, cz_kc z3]
  have : (l = 0 ∧ h = 1) ∨ (l = 0 ∧ h = 2) ∨ (l = 0 ∧ h = 3) ∨ (l = 1 ∧ h = 2) ∨ (l = 1 ∧ h = 3) ∨ (l = 2 ∧ h = 3) := by omega
  rcases this with ⟨rfl, rfl⟩ | ⟨rfl, rfl⟩ | ⟨rfl, rfl⟩ | ⟨rfl, rfl⟩ | ⟨rfl, rfl⟩ | ⟨rfl, rfl⟩
  · exact fn01 _ _ _ _ _ _ _ _ _ _ _ _ _ _ _ _ _ _ _ _ _ _ _ _ _ _ _ _ _ _ _ _
  · exact fn02 _ _ _ _ _ _ _ _ _ _ _ _ _ _ _ _ _ _ _ _ _ _ _ _ _ _ _ _ _ _ _ _
  · exact fn03 _ _ _ _ _ _ _ _ _ _ _ _ _ _ _ _ _ _ _ _ _ _ _ _ _ _ _ _ _ _ _ _
  · exact fn12 _ _ _ _ _ _ _ _ _ _ _ _ _ _ _ _ _ _ _ _ _ _ _ _ _ _ _ _ _ _ _ _
  · exact fn13 _ _ _ _ _ _ _ _ _ _ _ _ _ _ _ _ _ _ _ _ _ _ _ _ _ _ _ _ _ _ _ _
  · exact fn23 _ _ _ _ _ _ _ _ _ _ _ _ _ _ _ _ _ _ _ _ _ _ _ _ _ _ _ _ _ _ _ _
theorem tp_of {k w n n0 n1 : Int} {c : Ch} {l m : List C} (h : NX k w c n n0 n1 l m) (a : 0 ≤ n) (b : n ≤ 1000) : TP n0 n1 l m ∧ n0 = n + 1 := by
  obtain ⟨h0, h1, h2, h3, _, _⟩ := h
  exact ⟨⟨by omega, by omega, by omega, by rw [h2, h0], by rw [h3, h0]⟩, h0⟩
noncomputable def first_h0 (E : World) (a : Option Addr) (n c : Nat) (low high : Int) (z : PX) : Hd := ⟨4, (noS 66), (law_td E), [(1, .r .i64 (0) (3)), (2, .r .i64 (0) (3)), (7, .c (.p 0 0)), (8, .c (.p 1 0)), (9, .c (.p 2 0)), (48, .q (.es a n c)), (49, .q (.i false .i64 n)), (50, .r .i64 (0) (100))], [uB, rB, tN], fun y => EQ (U4.mk (Ch.mk (y.n 1) (y.n 2) (y.n 3) (y.n 4) (y.n 5) (y.n 6) (y.n 7) (y.b 8) (y.b 9) (y.n 10)) (Ch.mk (y.n 12) (y.n 13) (y.n 14) (y.n 15) (y.n 16) (y.n 17) (y.n 18) (y.b 19) (y.b 20) (y.n 21)) (Ch.mk (y.n 23) (y.n 24) (y.n 25) (y.n 26) (y.n 27) (y.n 28) (y.n 29) (y.b 30) (y.b 31) (y.n 32)) (Ch.mk (y.n 34) (y.n 35) (y.n 36) (y.n 37) (y.n 38) (y.n 39) (y.n 40) (y.b 41) (y.b 42) (y.n 43))) (U4.mk (Ch.mk (y.n 100000) (y.n 100001) (y.n 100002) (y.n 100003) (y.n 100004) (y.n 100005) (y.n 100006) (y.b 100007) (y.b 100008) (y.n 100009)) (Ch.mk (y.n 100010) (y.n 100011) (y.n 100012) (y.n 100013) (y.n 100014) (y.n 100015) (y.n 100016) (y.b 100017) (y.b 100018) (y.n 100019)) (Ch.mk (y.n 100020) (y.n 100021) (y.n 100022) (y.n 100023) (y.n 100024) (y.n 100025) (y.n 100026) (y.b 100027) (y.b 100028) (y.n 100029)) (Ch.mk (y.n 100030) (y.n 100031) (y.n 100032) (y.n 100033) (y.n 100034) (y.n 100035) (y.n 100036) (y.b 100037) (y.b 100038) (y.n 100039))) ∧ y.n 91001 < y.n 91002 ∧ y.n 91050 ≤ (n : Int) ∧ n ≤ 100, fun y => (10 + ((n : Int) - y.n 91050)).toNat⟩
noncomputable def first_h1 (E : World) (a : Option Addr) (n c : Nat) (low high : Int) (z : PX) : Hd := ⟨4, (litT 66 0), (law2_td E), [(1, .r .i64 (0) (3)), (2, .r .i64 (0) (3)), (7, .c (.p 0 0)), (9, .c (.p 1 0)), (66, .c (.i true .i64 0))], [uB, tN], fun y => y.n 91001 < y.n 91002 ∧ of0 (U4.mk (Ch.mk (y.n 1) (y.n 2) (y.n 3) (y.n 4) (y.n 5) (y.n 6) (y.n 7) (y.b 8) (y.b 9) (y.n 10)) (Ch.mk (y.n 12) (y.n 13) (y.n 14) (y.n 15) (y.n 16) (y.n 17) (y.n 18) (y.b 19) (y.b 20) (y.n 21)) (Ch.mk (y.n 23) (y.n 24) (y.n 25) (y.n 26) (y.n 27) (y.n 28) (y.n 29) (y.b 30) (y.b 31) (y.n 32)) (Ch.mk (y.n 34) (y.n 35) (y.n 36) (y.n 37) (y.n 38) (y.n 39) (y.n 40) (y.b 41) (y.b 42) (y.n 43))), fun _ => 5⟩
noncomputable def first_h2 (E : World) (a : Option Addr) (n c : Nat) (low high : Int) (z : PX) : Hd := ⟨4, (litT 66 1), (law2_td E), [(1, .r .i64 (0) (3)), (2, .r .i64 (0) (3)), (7, .c (.p 0 0)), (9, .c (.p 1 0)), (66, .c (.i true .i64 1))], [uB, tN], fun y => y.n 91001 < y.n 91002 ∧ of1 (U4.mk (Ch.mk (y.n 1) (y.n 2) (y.n 3) (y.n 4) (y.n 5) (y.n 6) (y.n 7) (y.b 8) (y.b 9) (y.n 10)) (Ch.mk (y.n 12) (y.n 13) (y.n 14) (y.n 15) (y.n 16) (y.n 17) (y.n 18) (y.b 19) (y.b 20) (y.n 21)) (Ch.mk (y.n 23) (y.n 24) (y.n 25) (y.n 26) (y.n 27) (y.n 28) (y.n 29) (y.b 30) (y.b 31) (y.n 32)) (Ch.mk (y.n 34) (y.n 35) (y.n 36) (y.n 37) (y.n 38) (y.n 39) (y.n 40) (y.b 41) (y.b 42) (y.n 43))), fun _ => 4⟩
noncomputable def first_h3 (E : World) (a : Option Addr) (n c : Nat) (low high : Int) (z : PX) : Hd := ⟨4, (litT 66 2), (law2_td E), [(1, .r .i64 (0) (3)), (2, .r .i64 (0) (3)), (7, .c (.p 0 0)), (9, .c (.p 1 0)), (66, .c (.i true .i64 2))], [uB, tN], fun y => y.n 91001 < y.n 91002 ∧ of2 (U4.mk (Ch.mk (y.n 1) (y.n 2) (y.n 3) (y.n 4) (y.n 5) (y.n 6) (y.n 7) (y.b 8) (y.b 9) (y.n 10)) (Ch.mk (y.n 12) (y.n 13) (y.n 14) (y.n 15) (y.n 16) (y.n 17) (y.n 18) (y.b 19) (y.b 20) (y.n 21)) (Ch.mk (y.n 23) (y.n 24) (y.n 25) (y.n 26) (y.n 27) (y.n 28) (y.n 29) (y.b 30) (y.b 31) (y.n 32)) (Ch.mk (y.n 34) (y.n 35) (y.n 36) (y.n 37) (y.n 38) (y.n 39) (y.n 40) (y.b 41) (y.b 42) (y.n 43))), fun _ => 3⟩
noncomputable def first_h4 (E : World) (a : Option Addr) (n c : Nat) (low high : Int) (z : PX) : Hd := ⟨4, (litT 66 3), (law2_td E), [(1, .r .i64 (0) (3)), (2, .r .i64 (0) (3)), (7, .c (.p 0 0)), (9, .c (.p 1 0)), (66, .c (.i true .i64 3))], [uB, tN], fun y => y.n 91001 < y.n 91002 ∧ of3 (U4.mk (Ch.mk (y.n 1) (y.n 2) (y.n 3) (y.n 4) (y.n 5) (y.n 6) (y.n 7) (y.b 8) (y.b 9) (y.n 10)) (Ch.mk (y.n 12) (y.n 13) (y.n 14) (y.n 15) (y.n 16) (y.n 17) (y.n 18) (y.b 19) (y.b 20) (y.n 21)) (Ch.mk (y.n 23) (y.n 24) (y.n 25) (y.n 26) (y.n 27) (y.n 28) (y.n 29) (y.b 30) (y.b 31) (y.n 32)) (Ch.mk (y.n 34) (y.n 35) (y.n 36) (y.n 37) (y.n 38) (y.n 39) (y.n 40) (y.b 41) (y.b 42) (y.n 43))), fun _ => 2⟩
noncomputable def first_h5 (E : World) (a : Option Addr) (n c : Nat) (low high : Int) (z : PX) : Hd := ⟨4, (litT 66 4), (law2_td E), [(1, .r .i64 (0) (3)), (2, .r .i64 (0) (3)), (7, .c (.p 0 0)), (9, .c (.p 1 0)), (66, .c (.i true .i64 4))], [uB, tN], fun y => y.n 91001 < y.n 91002 ∧ of4 (U4.mk (Ch.mk (y.n 1) (y.n 2) (y.n 3) (y.n 4) (y.n 5) (y.n 6) (y.n 7) (y.b 8) (y.b 9) (y.n 10)) (Ch.mk (y.n 12) (y.n 13) (y.n 14) (y.n 15) (y.n 16) (y.n 17) (y.n 18) (y.b 19) (y.b 20) (y.n 21)) (Ch.mk (y.n 23) (y.n 24) (y.n 25) (y.n 26) (y.n 27) (y.n 28) (y.n 29) (y.b 30) (y.b 31) (y.n 32)) (Ch.mk (y.n 34) (y.n 35) (y.n 36) (y.n 37) (y.n 38) (y.n 39) (y.n 40) (y.b 41) (y.b 42) (y.n 43))), fun _ => 1⟩
noncomputable def first_hs (E : World) (a : Option Addr) (n c : Nat) (low high : Int) (z : PX) : List Hd := [first_h0 E a n c low high z, first_h1 E a n c low high z, first_h2 E a n c low high z, first_h3 E a n c low high z, first_h4 E a n c low high z, first_h5 E a n c low high z]
end Go.Proofs.Ytpddbhfebhpohaa

