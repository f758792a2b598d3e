import Derived.Test.YtpddbhfebhpohaaI0
import Derived.Test.YtpddbhfebhpohaaI1
import Derived.Test.YtpddbhfebhpohaaJ0
import Derived.Test.YtpddbhfebhpohaaJ1
set_option linter.unusedVariables false
set_option linter.unusedSimpArgs false
namespace Go.Proofs.Ytpddbhfebhpohaa
open Go Go.Proofs Go.Proofs.Ytpddbhfebhpohaa.Ev Go.Proofs.Ytpddbhfebhpohaa.Ev.Ho
set_option maxRecDepth 100000
def rdy (u : U4) : Int := if u.c0.act = true then 0 else if u.c1.act = true then 1 else if u.c2.act = true then 2 else if u.c3.act = true then 3 else -1
def moC (w : Int) (_ : Int) (c : Ch) : Ch := if ((w == 1 || w == 2) && (on c.control && (tm c.control == w))) = true then ⟨c.src, c.dst, c.count, c.control, c.at_, c.to, c.left, true, c.first, c.last⟩ else c
def huC (a : Int) (i : Int) (c : Ch) : Ch := if (fds i c.control && (c.to == a)) = true then ⟨c.src, c.dst, c.count, c.control, c.at_, c.to, c.left, true, c.first, c.last⟩ else c
def up0 (_ : Int → Ch → Ch) (u : U4) : U4 := u
def up1 (f : Int → Ch → Ch) (u : U4) : U4 := ⟨f 0 u.c0, u.c1, u.c2, u.c3⟩
def up2 (f : Int → Ch → Ch) (u : U4) : U4 := ⟨f 0 u.c0, f 1 u.c1, u.c2, u.c3⟩
def up3 (f : Int → Ch → Ch) (u : U4) : U4 := ⟨f 0 u.c0, f 1 u.c1, f 2 u.c2, u.c3⟩
def up4 (f : Int → Ch → Ch) (u : U4) : U4 := ⟨f 0 u.c0, f 1 u.c1, f 2 u.c2, f 3 u.c3⟩
def ap0 (f : Int → Ch → Ch) (u : U4) : U4 := ⟨f 0 u.c0, u.c1, u.c2, u.c3⟩
def ap1 (f : Int → Ch → Ch) (u : U4) : U4 := ⟨u.c0, f 1 u.c1, u.c2, u.c3⟩
def ap2 (f : Int → Ch → Ch) (u : U4) : U4 := ⟨u.c0, u.c1, f 2 u.c2, u.c3⟩
def ap3 (f : Int → Ch → Ch) (u : U4) : U4 := ⟨u.c0, u.c1, u.c2, f 3 u.c3⟩
theorem wuE_p (E : World) (S : SW) (z : PX) (i part x : Int) :
    (hoW false [true] uMs S (.t []) (fun z y => (U4.mk (Ch.mk (y.n 1) (y.n 2) (y.n 3) (y.n 4) (y.n 5) (y.n 6) (y.n 7) (y.b 8) (y.b 9) (y.n 10)) (Ch.mk (y.n 12) (y.n 13) (y.n 14) (y.n 15) (y.n 16) (y.n 17) (y.n 18) (y.b 19) (y.b 20) (y.n 21)) (Ch.mk (y.n 23) (y.n 24) (y.n 25) (y.n 26) (y.n 27) (y.n 28) (y.n 29) (y.b 30) (y.b 31) (y.n 32)) (Ch.mk (y.n 34) (y.n 35) (y.n 36) (y.n 37) (y.n 38) (y.n 39) (y.n 40) (y.b 41) (y.b 42) (y.n 43))) = uW i part x (U4.mk (Ch.mk (z.n 1) (z.n 2) (z.n 3) (z.n 4) (z.n 5) (z.n 6) (z.n 7) (z.b 8) (z.b 9) (z.n 10)) (Ch.mk (z.n 12) (z.n 13) (z.n 14) (z.n 15) (z.n 16) (z.n 17) (z.n 18) (z.b 19) (z.b 20) (z.n 21)) (Ch.mk (z.n 23) (z.n 24) (z.n 25) (z.n 26) (z.n 27) (z.n 28) (z.n 29) (z.b 30) (z.b 31) (z.n 32)) (Ch.mk (z.n 34) (z.n 35) (z.n 36) (z.n 37) (z.n 38) (z.n 39) (z.n 40) (z.b 41) (z.b 42) (z.n 43)))) z (fnTree (pe E) (orcA E) (tabL fns) 20000 Try.f11 [.c (.p 0 0), .c (.i false .i64 i), .c (.i false .i64 part), .c (.i false .u16 x)] (mkM z S uMs 0))) =
    ((bif decide (i < (0 : Int)) then true else decide (i ≥ (4 : Int))) = true ∧ True ∧ ((62 : Nat) = (62 : Nat) ∧ (RGu z) ∧ S = S) ∧ TU z = uW i part x (TU z)) := by kernel_rfl
theorem wuE_c (E : World) (S : SW) (i part x : Int) (z : PX) (hz : rgM z uMs 0) (hp : (fun _ => (i < 0 ∨ 3 < i)) z) : HC (pe E) 11 [.c (.p 0 0), .c (.i false .i64 i), .c (.i false .i64 part), .c (.i false .u16 x)] uMs S (.t []) (fun z y => (U4.mk (Ch.mk (y.n 1) (y.n 2) (y.n 3) (y.n 4) (y.n 5) (y.n 6) (y.n 7) (y.b 8) (y.b 9) (y.n 10)) (Ch.mk (y.n 12) (y.n 13) (y.n 14) (y.n 15) (y.n 16) (y.n 17) (y.n 18) (y.b 19) (y.b 20) (y.n 21)) (Ch.mk (y.n 23) (y.n 24) (y.n 25) (y.n 26) (y.n 27) (y.n 28) (y.n 29) (y.b 30) (y.b 31) (y.n 32)) (Ch.mk (y.n 34) (y.n 35) (y.n 36) (y.n 37) (y.n 38) (y.n 39) (y.n 40) (y.b 41) (y.b 42) (y.n 43))) = uW i part x (U4.mk (Ch.mk (z.n 1) (z.n 2) (z.n 3) (z.n 4) (z.n 5) (z.n 6) (z.n 7) (z.b 8) (z.b 9) (z.n 10)) (Ch.mk (z.n 12) (z.n 13) (z.n 14) (z.n 15) (z.n 16) (z.n 17) (z.n 18) (z.b 19) (z.b 20) (z.n 21)) (Ch.mk (z.n 23) (z.n 24) (z.n 25) (z.n 26) (z.n 27) (z.n 28) (z.n 29) (z.b 30) (z.b 31) (z.n 32)) (Ch.mk (z.n 34) (z.n 35) (z.n 36) (z.n 37) (z.n 38) (z.n 39) (z.n 40) (z.b 41) (z.b 42) (z.n 43)))) z := by
  refine HC.mkW false [true] (by rfl) (by rfl) (by rfl) (by rfl) (fnTree_sound (P := pe E) orcA_ok tab_ok tab_sz mixed 20000 Try.func11 (by decide) [.c (.p 0 0), .c (.i false .i64 i), .c (.i false .i64 part), .c (.i false .u16 x)] _) ⟨?_⟩
  rw [wuE_p]
  obtain ⟨h1, h2, h3, h4, h5, h6, h10, h12, h13, h14, h15, h16, h17, h21, h23, h24, h25, h26, h27, h28, h32, h34, h35, h36, h37, h38, h39, h43, _⟩ := rg_u hz
  have e : uW i part x (TU z) = (TU z) := by
    have hp : (i < 0 ∨ 3 < i) := hp
    unfold uW setC
    rw [if_neg (by omega), if_neg (by omega), if_neg (by omega), if_neg (by omega)]
  have ht : (bif decide (i < 0) then true else decide (i ≥ 4)) = true := by
    have hp : (i < 0 ∨ 3 < i) := hp
    by_cases c : i < 0
    · rw [decide_eq_true c]; rfl
    · rw [decide_eq_false c, cond_false]; exact decide_eq_true (by omega)
  rw [e]
  (repeat' (first | exact trivial | with_reducible rfl | assumption | apply And.intro))
theorem wu_c (E : World) (S : SW) (i part x : Int) (z : PX) (hz : rgM z uMs 0) (hp : 0 ≤ x ∧ x ≤ 65535) : HC (pe E) 11 [.c (.p 0 0), .c (.i false .i64 i), .c (.i false .i64 part), .c (.i false .u16 x)] uMs S (.t []) (fun z y => (U4.mk (Ch.mk (y.n 1) (y.n 2) (y.n 3) (y.n 4) (y.n 5) (y.n 6) (y.n 7) (y.b 8) (y.b 9) (y.n 10)) (Ch.mk (y.n 12) (y.n 13) (y.n 14) (y.n 15) (y.n 16) (y.n 17) (y.n 18) (y.b 19) (y.b 20) (y.n 21)) (Ch.mk (y.n 23) (y.n 24) (y.n 25) (y.n 26) (y.n 27) (y.n 28) (y.n 29) (y.b 30) (y.b 31) (y.n 32)) (Ch.mk (y.n 34) (y.n 35) (y.n 36) (y.n 37) (y.n 38) (y.n 39) (y.n 40) (y.b 41) (y.b 42) (y.n 43))) = uW i part x (U4.mk (Ch.mk (z.n 1) (z.n 2) (z.n 3) (z.n 4) (z.n 5) (z.n 6) (z.n 7) (z.b 8) (z.b 9) (z.n 10)) (Ch.mk (z.n 12) (z.n 13) (z.n 14) (z.n 15) (z.n 16) (z.n 17) (z.n 18) (z.b 19) (z.b 20) (z.n 21)) (Ch.mk (z.n 23) (z.n 24) (z.n 25) (z.n 26) (z.n 27) (z.n 28) (z.n 29) (z.b 30) (z.b 31) (z.n 32)) (Ch.mk (z.n 34) (z.n 35) (z.n 36) (z.n 37) (z.n 38) (z.n 39) (z.n 40) (z.b 41) (z.b 42) (z.n 43)))) z := by
  by_cases h0 : i = 0
  · subst h0; exact HC.args (by simp [simL, SV.sim, C.sim]) (wu0_c E S part x z hz hp)
  by_cases h1 : i = 1
  · subst h1; exact HC.args (by simp [simL, SV.sim, C.sim]) (wu1_c E S part x z hz hp)
  by_cases h2 : i = 2
  · subst h2; exact HC.args (by simp [simL, SV.sim, C.sim]) (wu2_c E S part x z hz hp)
  by_cases h3 : i = 3
  · subst h3; exact HC.args (by simp [simL, SV.sim, C.sim]) (wu3_c E S part x z hz hp)
  exact wuE_c E S i part x z hz (by show i < 0 ∨ 3 < i; omega)
theorem rdu_p (E : World) (S : SW) (z : PX)  :
    (hoPr false uMs S (.c (.r .i64 (-1) 3)) (fun z y => y.n 90000 = rdy (U4.mk (Ch.mk (z.n 1) (z.n 2) (z.n 3) (z.n 4) (z.n 5) (z.n 6) (z.n 7) (z.b 8) (z.b 9) (z.n 10)) (Ch.mk (z.n 12) (z.n 13) (z.n 14) (z.n 15) (z.n 16) (z.n 17) (z.n 18) (z.b 19) (z.b 20) (z.n 21)) (Ch.mk (z.n 23) (z.n 24) (z.n 25) (z.n 26) (z.n 27) (z.n 28) (z.n 29) (z.b 30) (z.b 31) (z.n 32)) (Ch.mk (z.n 34) (z.n 35) (z.n 36) (z.n 37) (z.n 38) (z.n 39) (z.n 40) (z.b 41) (z.b 42) (z.n 43)))) z (fnTree (pe E) (orcA E) (tabL fns) 20000 Try.f14 [.c (.p 0 0)] (mkM z S uMs 0))) =
    ((z.b 8 = true → (((-1 : Int) ≤ (0 : Int) ∧ (0 : Int) ≤ (3 : Int)) ∧ True) ∧ mkM z S uMs (0 : Nat) = mkM z S uMs (0 : Nat) ∧ (0 : Int) = rdy (TU z)) ∧ (z.b 8 = false → (z.b
      19 = true → (((-1 : Int) ≤ (1 : Int) ∧ (1 : Int) ≤ (3 : Int)) ∧ True) ∧ mkM z S uMs (0 : Nat) = mkM z S uMs (0 : Nat) ∧ (1 : Int) = rdy (TU z)) ∧ (z.b 19 = false → (z.b 30
      = true → (((-1 : Int) ≤ (2 : Int) ∧ (2 : Int) ≤ (3 : Int)) ∧ True) ∧ mkM z S uMs (0 : Nat) = mkM z S uMs (0 : Nat) ∧ (2 : Int) = rdy (TU z)) ∧ (z.b 30 = false → (z.b 41 =
      true → (((-1 : Int) ≤ (3 : Int) ∧ (3 : Int) ≤ (3 : Int)) ∧ True) ∧ mkM z S uMs (0 : Nat) = mkM z S uMs (0 : Nat) ∧ (3 : Int) = rdy (TU z)) ∧ (z.b 41 = false → (((-1 : Int)
      ≤ (-1 : Int) ∧ (-1 : Int) ≤ (3 : Int)) ∧ True) ∧ mkM z S uMs (0 : Nat) = mkM z S uMs (0 : Nat) ∧ (-1 : Int) = rdy (TU z)))))) := by kernel_rfl
theorem rdu_c (E : World) (S : SW)  (z : PX) (hz : rgM z uMs 0) (hp : (fun _ => True) z) : HR (pe E) 14 [.c (.p 0 0)] uMs S (.c (.r .i64 (-1) 3)) (fun z y => y.n 90000 = rdy (U4.mk (Ch.mk (z.n 1) (z.n 2) (z.n 3) (z.n 4) (z.n 5) (z.n 6) (z.n 7) (z.b 8) (z.b 9) (z.n 10)) (Ch.mk (z.n 12) (z.n 13) (z.n 14) (z.n 15) (z.n 16) (z.n 17) (z.n 18) (z.b 19) (z.b 20) (z.n 21)) (Ch.mk (z.n 23) (z.n 24) (z.n 25) (z.n 26) (z.n 27) (z.n 28) (z.n 29) (z.b 30) (z.b 31) (z.n 32)) (Ch.mk (z.n 34) (z.n 35) (z.n 36) (z.n 37) (z.n 38) (z.n 39) (z.n 40) (z.b 41) (z.b 42) (z.n 43)))) z := by
  refine HR.mk false (by rfl) (by rfl) (fnTree_sound (P := pe E) orcA_ok tab_ok tab_sz mixed 20000 Try.func14 (by decide) [.c (.p 0 0)] _) ⟨?_⟩
  rw [rdu_p]
  obtain ⟨h1, h2, h3, h4, h5, h6, h10, h12, h13, h14, h15, h16, h17, h21, h23, h24, h25, h26, h27, h28, h32, h34, h35, h36, h37, h38, h39, h43, _⟩ := rg_u hz
  obtain _ := hz
  cases h1 : z.b 8 <;> cases h2 : z.b 19 <;> cases h3 : z.b 30 <;> cases h4 : z.b 41 <;> simp only [rdy, TU, TR, cu0, cu1, cu2, cu3, cr0, cr1, cr2, cr3, h1, h2, h3, h4, Bool.false_eq_true, Bool.true_eq_false, false_implies, true_implies, forall_const, and_true, true_and, if_true, if_false, cond_true, cond_false] <;> (repeat' (first | exact trivial | with_reducible rfl | assumption | apply And.intro)) <;> omega
theorem wrE_p (E : World) (X : Bl) (S : SW) (z : PX) (i part x : Int) :
    (hoW false [true] (rMs X) S (.t []) (fun z y => (U4.mk (Ch.mk (y.n 100000) (y.n 100001) (y.n 100002) (y.n 100003) (y.n 100004) (y.n 100005) (y.n 100006) (y.b 100007) (y.b 100008) (y.n 100009)) (Ch.mk (y.n 100010) (y.n 100011) (y.n 100012) (y.n 100013) (y.n 100014) (y.n 100015) (y.n 100016) (y.b 100017) (y.b 100018) (y.n 100019)) (Ch.mk (y.n 100020) (y.n 100021) (y.n 100022) (y.n 100023) (y.n 100024) (y.n 100025) (y.n 100026) (y.b 100027) (y.b 100028) (y.n 100029)) (Ch.mk (y.n 100030) (y.n 100031) (y.n 100032) (y.n 100033) (y.n 100034) (y.n 100035) (y.n 100036) (y.b 100037) (y.b 100038) (y.n 100039))) = uW i part x (U4.mk (Ch.mk (z.n 100000) (z.n 100001) (z.n 100002) (z.n 100003) (z.n 100004) (z.n 100005) (z.n 100006) (z.b 100007) (z.b 100008) (z.n 100009)) (Ch.mk (z.n 100010) (z.n 100011) (z.n 100012) (z.n 100013) (z.n 100014) (z.n 100015) (z.n 100016) (z.b 100017) (z.b 100018) (z.n 100019)) (Ch.mk (z.n 100020) (z.n 100021) (z.n 100022) (z.n 100023) (z.n 100024) (z.n 100025) (z.n 100026) (z.b 100027) (z.b 100028) (z.n 100029)) (Ch.mk (z.n 100030) (z.n 100031) (z.n 100032) (z.n 100033) (z.n 100034) (z.n 100035) (z.n 100036) (z.b 100037) (z.b 100038) (z.n 100039)))) z (fnTree (pe E) (orcA E) (tabL fns) 20000 Try.f18 [.c (.p 1 0), .c (.i false .i64 i), .c (.i false .i64 part), .c (.i false .u16 x)] (mkM z S (rMs X) 0))) =
    ((bif decide (i < (0 : Int)) then true else decide (i > (3 : Int))) = true ∧ True ∧ (X = X ∧ (33 : Nat) = (33 : Nat) ∧ (RGr z) ∧ S = S) ∧ TR z = uW i part x (TR z)) := by kernel_rfl
theorem wrE_c (E : World) (X : Bl) (S : SW) (i part x : Int) (z : PX) (hz : rgM z (rMs X) 0) (hp : (fun _ => (i < 0 ∨ 3 < i)) z) : HC (pe E) 18 [.c (.p 1 0), .c (.i false .i64 i), .c (.i false .i64 part), .c (.i false .u16 x)] (rMs X) S (.t []) (fun z y => (U4.mk (Ch.mk (y.n 100000) (y.n 100001) (y.n 100002) (y.n 100003) (y.n 100004) (y.n 100005) (y.n 100006) (y.b 100007) (y.b 100008) (y.n 100009)) (Ch.mk (y.n 100010) (y.n 100011) (y.n 100012) (y.n 100013) (y.n 100014) (y.n 100015) (y.n 100016) (y.b 100017) (y.b 100018) (y.n 100019)) (Ch.mk (y.n 100020) (y.n 100021) (y.n 100022) (y.n 100023) (y.n 100024) (y.n 100025) (y.n 100026) (y.b 100027) (y.b 100028) (y.n 100029)) (Ch.mk (y.n 100030) (y.n 100031) (y.n 100032) (y.n 100033) (y.n 100034) (y.n 100035) (y.n 100036) (y.b 100037) (y.b 100038) (y.n 100039))) = uW i part x (U4.mk (Ch.mk (z.n 100000) (z.n 100001) (z.n 100002) (z.n 100003) (z.n 100004) (z.n 100005) (z.n 100006) (z.b 100007) (z.b 100008) (z.n 100009)) (Ch.mk (z.n 100010) (z.n 100011) (z.n 100012) (z.n 100013) (z.n 100014) (z.n 100015) (z.n 100016) (z.b 100017) (z.b 100018) (z.n 100019)) (Ch.mk (z.n 100020) (z.n 100021) (z.n 100022) (z.n 100023) (z.n 100024) (z.n 100025) (z.n 100026) (z.b 100027) (z.b 100028) (z.n 100029)) (Ch.mk (z.n 100030) (z.n 100031) (z.n 100032) (z.n 100033) (z.n 100034) (z.n 100035) (z.n 100036) (z.b 100037) (z.b 100038) (z.n 100039)))) z := by
  refine HC.mkW false [true] (by rfl) (by rfl) (by rfl) (by rfl) (fnTree_sound (P := pe E) orcA_ok tab_ok tab_sz mixed 20000 Try.func18 (by decide) [.c (.p 1 0), .c (.i false .i64 i), .c (.i false .i64 part), .c (.i false .u16 x)] _) ⟨?_⟩
  rw [wrE_p]
  obtain ⟨h100000, h100001, h100002, h100003, h100004, h100005, h100009, h100010, h100011, h100012, h100013, h100014, h100015, h100019, h100020, h100021, h100022, h100023, h100024, h100025, h100029, h100030, h100031, h100032, h100033, h100034, h100035, h100039, _⟩ := rg_r hz
  have e : uW i part x (TR z) = (TR z) := by
    have hp : (i < 0 ∨ 3 < i) := hp
    unfold uW setC
    rw [if_neg (by omega), if_neg (by omega), if_neg (by omega), if_neg (by omega)]
  have ht : (bif decide (i < 0) then true else decide (i > 3)) = true := by
    have hp : (i < 0 ∨ 3 < i) := hp
    by_cases c : i < 0
    · rw [decide_eq_true c]; rfl
    · rw [decide_eq_false c, cond_false]; exact decide_eq_true (by omega)
  rw [e]
  (repeat' (first | exact trivial | with_reducible rfl | assumption | apply And.intro))
theorem wr_c (E : World) (X : Bl) (S : SW) (i part x : Int) (z : PX) (hz : rgM z (rMs X) 0) (hp : 0 ≤ x ∧ x ≤ 65535) : HC (pe E) 18 [.c (.p 1 0), .c (.i false .i64 i), .c (.i false .i64 part), .c (.i false .u16 x)] (rMs X) S (.t []) (fun z y => (U4.mk (Ch.mk (y.n 100000) (y.n 100001) (y.n 100002) (y.n 100003) (y.n 100004) (y.n 100005) (y.n 100006) (y.b 100007) (y.b 100008) (y.n 100009)) (Ch.mk (y.n 100010) (y.n 100011) (y.n 100012) (y.n 100013) (y.n 100014) (y.n 100015) (y.n 100016) (y.b 100017) (y.b 100018) (y.n 100019)) (Ch.mk (y.n 100020) (y.n 100021) (y.n 100022) (y.n 100023) (y.n 100024) (y.n 100025) (y.n 100026) (y.b 100027) (y.b 100028) (y.n 100029)) (Ch.mk (y.n 100030) (y.n 100031) (y.n 100032) (y.n 100033) (y.n 100034) (y.n 100035) (y.n 100036) (y.b 100037) (y.b 100038) (y.n 100039))) = uW i part x (U4.mk (Ch.mk (z.n 100000) (z.n 100001) (z.n 100002) (z.n 100003) (z.n 100004) (z.n 100005) (z.n 100006) (z.b 100007) (z.b 100008) (z.n 100009)) (Ch.mk (z.n 100010) (z.n 100011) (z.n 100012) (z.n 100013) (z.n 100014) (z.n 100015) (z.n 100016) (z.b 100017) (z.b 100018) (z.n 100019)) (Ch.mk (z.n 100020) (z.n 100021) (z.n 100022) (z.n 100023) (z.n 100024) (z.n 100025) (z.n 100026) (z.b 100027) (z.b 100028) (z.n 100029)) (Ch.mk (z.n 100030) (z.n 100031) (z.n 100032) (z.n 100033) (z.n 100034) (z.n 100035) (z.n 100036) (z.b 100037) (z.b 100038) (z.n 100039)))) z := by
  by_cases h0 : i = 0
  · subst h0; exact HC.args (by simp [simL, SV.sim, C.sim]) (wr0_c E X S part x z hz hp)
  by_cases h1 : i = 1
  · subst h1; exact HC.args (by simp [simL, SV.sim, C.sim]) (wr1_c E X S part x z hz hp)
  by_cases h2 : i = 2
  · subst h2; exact HC.args (by simp [simL, SV.sim, C.sim]) (wr2_c E X S part x z hz hp)
  by_cases h3 : i = 3
  · subst h3; exact HC.args (by simp [simL, SV.sim, C.sim]) (wr3_c E X S part x z hz hp)
  exact wrE_c E X S i part x z hz (by show i < 0 ∨ 3 < i; omega)
theorem rdr_p (E : World) (X : Bl) (S : SW) (z : PX)  :
    (hoPr false (rMs X) S (.c (.r .i64 (-1) 3)) (fun z y => y.n 90000 = rdy (U4.mk (Ch.mk (z.n 100000) (z.n 100001) (z.n 100002) (z.n 100003) (z.n 100004) (z.n 100005) (z.n 100006) (z.b 100007) (z.b 100008) (z.n 100009)) (Ch.mk (z.n 100010) (z.n 100011) (z.n 100012) (z.n 100013) (z.n 100014) (z.n 100015) (z.n 100016) (z.b 100017) (z.b 100018) (z.n 100019)) (Ch.mk (z.n 100020) (z.n 100021) (z.n 100022) (z.n 100023) (z.n 100024) (z.n 100025) (z.n 100026) (z.b 100027) (z.b 100028) (z.n 100029)) (Ch.mk (z.n 100030) (z.n 100031) (z.n 100032) (z.n 100033) (z.n 100034) (z.n 100035) (z.n 100036) (z.b 100037) (z.b 100038) (z.n 100039)))) z (fnTree (pe E) (orcA E) (tabL fns) 20000 Try.f21 [.c (.p 1 0)] (mkM z S (rMs X) 0))) =
    ((z.b 100007 = true → (((-1 : Int) ≤ (0 : Int) ∧ (0 : Int) ≤ (3 : Int)) ∧ True) ∧ mkM z S (rMs X) (0 : Nat) = mkM z S (rMs X) (0 : Nat) ∧ (0 : Int) = rdy (TR z)) ∧ (z.b
      100007 = false → (z.b 100017 = true → (((-1 : Int) ≤ (1 : Int) ∧ (1 : Int) ≤ (3 : Int)) ∧ True) ∧ mkM z S (rMs X) (0 : Nat) = mkM z S (rMs X) (0 : Nat) ∧ (1 : Int) = rdy
      (TR z)) ∧ (z.b 100017 = false → (z.b 100027 = true → (((-1 : Int) ≤ (2 : Int) ∧ (2 : Int) ≤ (3 : Int)) ∧ True) ∧ mkM z S (rMs X) (0 : Nat) = mkM z S (rMs X) (0 : Nat) ∧ (2
      : Int) = rdy (TR z)) ∧ (z.b 100027 = false → (z.b 100037 = true → (((-1 : Int) ≤ (3 : Int) ∧ (3 : Int) ≤ (3 : Int)) ∧ True) ∧ mkM z S (rMs X) (0 : Nat) = mkM z S (rMs X)
      (0 : Nat) ∧ (3 : Int) = rdy (TR z)) ∧ (z.b 100037 = false → (((-1 : Int) ≤ (-1 : Int) ∧ (-1 : Int) ≤ (3 : Int)) ∧ True) ∧ mkM z S (rMs X) (0 : Nat) = mkM z S (rMs X) (0 :
      Nat) ∧ (-1 : Int) = rdy (TR z)))))) := by kernel_rfl
theorem rdr_c (E : World) (X : Bl) (S : SW)  (z : PX) (hz : rgM z (rMs X) 0) (hp : (fun _ => True) z) : HR (pe E) 21 [.c (.p 1 0)] (rMs X) S (.c (.r .i64 (-1) 3)) (fun z y => y.n 90000 = rdy (U4.mk (Ch.mk (z.n 100000) (z.n 100001) (z.n 100002) (z.n 100003) (z.n 100004) (z.n 100005) (z.n 100006) (z.b 100007) (z.b 100008) (z.n 100009)) (Ch.mk (z.n 100010) (z.n 100011) (z.n 100012) (z.n 100013) (z.n 100014) (z.n 100015) (z.n 100016) (z.b 100017) (z.b 100018) (z.n 100019)) (Ch.mk (z.n 100020) (z.n 100021) (z.n 100022) (z.n 100023) (z.n 100024) (z.n 100025) (z.n 100026) (z.b 100027) (z.b 100028) (z.n 100029)) (Ch.mk (z.n 100030) (z.n 100031) (z.n 100032) (z.n 100033) (z.n 100034) (z.n 100035) (z.n 100036) (z.b 100037) (z.b 100038) (z.n 100039)))) z := by
  refine HR.mk false (by rfl) (by rfl) (fnTree_sound (P := pe E) orcA_ok tab_ok tab_sz mixed 20000 Try.func21 (by decide) [.c (.p 1 0)] _) ⟨?_⟩
  rw [rdr_p]
  obtain ⟨h100000, h100001, h100002, h100003, h100004, h100005, h100009, h100010, h100011, h100012, h100013, h100014, h100015, h100019, h100020, h100021, h100022, h100023, h100024, h100025, h100029, h100030, h100031, h100032, h100033, h100034, h100035, h100039, _⟩ := rg_r hz
  obtain _ := hz
  cases h1 : z.b 100007 <;> cases h2 : z.b 100017 <;> cases h3 : z.b 100027 <;> cases h4 : z.b 100037 <;> simp only [rdy, TU, TR, cu0, cu1, cu2, cu3, cr0, cr1, cr2, cr3, h1, h2, h3, h4, Bool.false_eq_true, Bool.true_eq_false, false_implies, true_implies, forall_const, and_true, true_and, if_true, if_false, cond_true, cond_false] <;> (repeat' (first | exact trivial | with_reducible rfl | assumption | apply And.intro)) <;> omega
end Go.Proofs.Ytpddbhfebhpohaa

