import Derived.Test.YtcegofobcjimlaaA
import Derived.Test.YtcegofobcjimlaaEx
set_option linter.unusedVariables false
set_option linter.unusedSimpArgs false
namespace Go.Proofs.Ytcegofobcjimlaa
open Go Go.Proofs Go.Proofs.Ytcegofobcjimlaa.Ev Go.Proofs.Ytcegofobcjimlaa.Ev.Ho
set_option maxRecDepth 100000

structure KS where
  now : Int
  l0 : Int
  l1 : Int
  s0 : Int
  s1 : Int
  sw : Int
  o0 : Bool
  o1 : Bool
  o2 : Bool
  o3 : Bool
  c0 : Bool
  c1 : Bool
def swz (k : KS) : Prop := k.sw = 0
def off2 (k : KS) : Prop := k.o2 = false
def off3 (k : KS) : Prop := k.o3 = false
def sh0 (k : KS) : KS := if k.o0 = true ∧ k.c0 = true then ⟨k.now, IntKind.i64.wrap (k.l0 - 1), k.l1, k.s0, k.s1, k.sw, !(IntKind.i64.wrap (k.l0 - 1) == 0), k.o1, k.o2, k.o3, k.c0, k.c1⟩ else k
def sh1 (k : KS) : KS := if k.o1 = true ∧ k.c1 = true then ⟨k.now, k.l0, IntKind.i64.wrap (k.l1 - 1), k.s0, k.s1, k.sw, k.o0, !(IntKind.i64.wrap (k.l1 - 1) == 0), k.o2, k.o3, k.c0, k.c1⟩ else k
def usp : List Sp := [.r .i64 0 2199023255552, .b, .i .i64, .b, .r .i64 0 2047, .r .i64 0 63, .r .i64 0 16777216, .r .i64 0 3, .r .i64 0 15, .b, .i .i64, .r .i64 0 15, .i .i64, .b, .i .i64, .b, .r .i64 0 2047, .r .i64 0 63, .r .i64 0 16777216, .r .i64 0 3, .r .i64 0 15, .b, .i .i64, .r .i64 0 15, .i .i64, .b, .i .i64, .b, .r .i64 0 2047, .r .i64 0 63, .r .i64 0 16777216, .r .i64 0 3, .r .i64 0 15, .b, .i .i64, .r .i64 0 15, .i .i64, .b, .i .i64, .b, .r .i64 0 2047, .r .i64 0 63, .r .i64 0 16777216, .r .i64 0 3, .r .i64 0 15, .b, .i .i64, .r .i64 0 15, .i .i64, .c (.mp 0), .r .i64 0 7, .i .i64, .b, .i .i64, .i .u8, .i .u8, .i .u8, .i .u8, .i .u8, .i .u8, .i .u8, .i .u8, .i .u8, .i .u8, .i .u8, .i .u8, .i .u8, .i .u8, .i .u8, .i .u8, .i .u8, .i .u8, .i .u8, .i .u8, .i .u8, .i .u8, .i .u8, .i .u8, .i .u8, .i .u8, .i .u8, .i .u8, .i .u8, .i .u8, .i .u8, .i .u8, .r .i64 0 1, .b, .r .i64 0 4, .b, .i .u16, .b, .r .i64 0 15, .r .i64 0 7]
def uM (M : Bl) : List MB := [.f M, .o usp 50]
theorem rg_u {M : Bl} {z : PX} (h : rgM z (uM M) 0) : (0 ≤ z.n 100000 ∧ z.n 100000 ≤ 2199023255552) ∧ (0 ≤ z.n 100004 ∧ z.n 100004 ≤ 2047) ∧ (0 ≤ z.n 100005 ∧ z.n 100005 ≤ 63) ∧ (0 ≤ z.n 100006 ∧ z.n 100006 ≤ 16777216) ∧ (0 ≤ z.n 100007 ∧ z.n 100007 ≤ 3) ∧ (0 ≤ z.n 100008 ∧ z.n 100008 ≤ 15) ∧ (0 ≤ z.n 100011 ∧ z.n 100011 ≤ 15) ∧ (0 ≤ z.n 100016 ∧ z.n 100016 ≤ 2047) ∧ (0 ≤ z.n 100017 ∧ z.n 100017 ≤ 63) ∧ (0 ≤ z.n 100018 ∧ z.n 100018 ≤ 16777216) ∧ (0 ≤ z.n 100019 ∧ z.n 100019 ≤ 3) ∧ (0 ≤ z.n 100020 ∧ z.n 100020 ≤ 15) ∧ (0 ≤ z.n 100023 ∧ z.n 100023 ≤ 15) ∧ (0 ≤ z.n 100028 ∧ z.n 100028 ≤ 2047) ∧ (0 ≤ z.n 100029 ∧ z.n 100029 ≤ 63) ∧ (0 ≤ z.n 100030 ∧ z.n 100030 ≤ 16777216) ∧ (0 ≤ z.n 100031 ∧ z.n 100031 ≤ 3) ∧ (0 ≤ z.n 100032 ∧ z.n 100032 ≤ 15) ∧ (0 ≤ z.n 100035 ∧ z.n 100035 ≤ 15) ∧ (0 ≤ z.n 100040 ∧ z.n 100040 ≤ 2047) ∧ (0 ≤ z.n 100041 ∧ z.n 100041 ≤ 63) ∧ (0 ≤ z.n 100042 ∧ z.n 100042 ≤ 16777216) ∧ (0 ≤ z.n 100043 ∧ z.n 100043 ≤ 3) ∧ (0 ≤ z.n 100044 ∧ z.n 100044 ≤ 15) ∧ (0 ≤ z.n 100047 ∧ z.n 100047 ≤ 15) ∧ (0 ≤ z.n 100050 ∧ z.n 100050 ≤ 7) ∧ (0 ≤ z.n 100086 ∧ z.n 100086 ≤ 1) ∧ (0 ≤ z.n 100088 ∧ z.n 100088 ≤ 4) ∧ (0 ≤ z.n 100092 ∧ z.n 100092 ≤ 15) ∧ (0 ≤ z.n 100093 ∧ z.n 100093 ≤ 7) ∧ True := h.1
theorem fdiv_bd (x : Int) (k : Nat) (h : 0 ≤ x) : 0 ≤ x.fdiv (2 ^ k) ∧ x.fdiv (2 ^ k) ≤ x := by
  rw [fdiv_pow]
  exact ⟨Int.ediv_nonneg h (by have : (0:Int) < 2 ^ k := Int.pow_pos (by decide); omega), Int.ediv_le_self _ h⟩
/-- All is in its range. -/
def RG (y : PX) : Prop := (0 ≤ y.n 100000 ∧ y.n 100000 ≤ 2199023255552) ∧ (0 ≤ y.n 100004 ∧ y.n 100004 ≤ 2047) ∧ (0 ≤ y.n 100005 ∧ y.n 100005 ≤ 63) ∧ (0 ≤ y.n 100006 ∧ y.n 100006 ≤ 16777216) ∧ (0 ≤ y.n 100007 ∧ y.n 100007 ≤ 3) ∧ (0 ≤ y.n 100008 ∧ y.n 100008 ≤ 15) ∧ (0 ≤ y.n 100011 ∧ y.n 100011 ≤ 15) ∧ (0 ≤ y.n 100016 ∧ y.n 100016 ≤ 2047) ∧ (0 ≤ y.n 100017 ∧ y.n 100017 ≤ 63) ∧ (0 ≤ y.n 100018 ∧ y.n 100018 ≤ 16777216) ∧ (0 ≤ y.n 100019 ∧ y.n 100019 ≤ 3) ∧ (0 ≤ y.n 100020 ∧ y.n 100020 ≤ 15) ∧ (0 ≤ y.n 100023 ∧ y.n 100023 ≤ 15) ∧ (0 ≤ y.n 100028 ∧ y.n 100028 ≤ 2047) ∧ (0 ≤ y.n 100029 ∧ y.n 100029 ≤ 63) ∧ (0 ≤ y.n 100030 ∧ y.n 100030 ≤ 16777216) ∧ (0 ≤ y.n 100031 ∧ y.n 100031 ≤ 3) ∧ (0 ≤ y.n 100032 ∧ y.n 100032 ≤ 15) ∧ (0 ≤ y.n 100035 ∧ y.n 100035 ≤ 15) ∧ (0 ≤ y.n 100040 ∧ y.n 100040 ≤ 2047) ∧ (0 ≤ y.n 100041 ∧ y.n 100041 ≤ 63) ∧ (0 ≤ y.n 100042 ∧ y.n 100042 ≤ 16777216) ∧ (0 ≤ y.n 100043 ∧ y.n 100043 ≤ 3) ∧ (0 ≤ y.n 100044 ∧ y.n 100044 ≤ 15) ∧ (0 ≤ y.n 100047 ∧ y.n 100047 ≤ 15) ∧ (0 ≤ y.n 100050 ∧ y.n 100050 ≤ 7) ∧ (0 ≤ y.n 100086 ∧ y.n 100086 ≤ 1) ∧ (0 ≤ y.n 100088 ∧ y.n 100088 ≤ 4) ∧ (0 ≤ y.n 100092 ∧ y.n 100092 ≤ 15) ∧ (0 ≤ y.n 100093 ∧ y.n 100093 ≤ 7) ∧ True
def RH (y : PX) : Prop := (0 ≤ y.n 100000 ∧ y.n 100000 ≤ 2199023255552) ∧ (0 ≤ y.n 100004 ∧ y.n 100004 ≤ 2047) ∧ (0 ≤ y.n 100005 ∧ y.n 100005 ≤ 63) ∧ (0 ≤ y.n 100007 ∧ y.n 100007 ≤ 3) ∧ (0 ≤ y.n 100008 ∧ y.n 100008 ≤ 15) ∧ (0 ≤ y.n 100011 ∧ y.n 100011 ≤ 15) ∧ (0 ≤ y.n 100016 ∧ y.n 100016 ≤ 2047) ∧ (0 ≤ y.n 100017 ∧ y.n 100017 ≤ 63) ∧ (0 ≤ y.n 100019 ∧ y.n 100019 ≤ 3) ∧ (0 ≤ y.n 100020 ∧ y.n 100020 ≤ 15) ∧ (0 ≤ y.n 100023 ∧ y.n 100023 ≤ 15) ∧ (0 ≤ y.n 100028 ∧ y.n 100028 ≤ 2047) ∧ (0 ≤ y.n 100029 ∧ y.n 100029 ≤ 63) ∧ (0 ≤ y.n 100031 ∧ y.n 100031 ≤ 3) ∧ (0 ≤ y.n 100032 ∧ y.n 100032 ≤ 15) ∧ (0 ≤ y.n 100035 ∧ y.n 100035 ≤ 15) ∧ (0 ≤ y.n 100040 ∧ y.n 100040 ≤ 2047) ∧ (0 ≤ y.n 100041 ∧ y.n 100041 ≤ 63) ∧ (0 ≤ y.n 100043 ∧ y.n 100043 ≤ 3) ∧ (0 ≤ y.n 100044 ∧ y.n 100044 ≤ 15) ∧ (0 ≤ y.n 100047 ∧ y.n 100047 ≤ 15) ∧ (0 ≤ y.n 100050 ∧ y.n 100050 ≤ 7) ∧ (0 ≤ y.n 100086 ∧ y.n 100086 ≤ 1) ∧ (0 ≤ y.n 100088 ∧ y.n 100088 ≤ 4) ∧ (0 ≤ y.n 100092 ∧ y.n 100092 ≤ 15) ∧ (0 ≤ y.n 100093 ∧ y.n 100093 ≤ 7) ∧ True
theorem sho0_p (E : World) (M : Bl) (S : SW) (z : PX)  :
    (hoP false (uM M) S (.t []) (fun z y => (KS.mk (y.n 100000) (y.n 100002) (y.n 100014) (y.n 100008) (y.n 100020) (y.n 100051) (y.b 100001) (y.b 100013) (y.b 100025) (y.b 100037) (y.b 100003) (y.b 100015)) = sh0 (KS.mk (z.n 100000) (z.n 100002) (z.n 100014) (z.n 100008) (z.n 100020) (z.n 100051) (z.b 100001) (z.b 100013) (z.b 100025) (z.b 100037) (z.b 100003) (z.b 100015))) z (fnTree (pe E) (orcA E) (tabL fns) 20000 Try.f26 [.c (.p 1 1)] (mkM z S (uM M) 0))) =
    (((bif !z.b (100001 : Nat) then true else !z.b (100003 : Nat)) = true → True ∧ (M = M ∧ (50 : Nat) = (50 : Nat) ∧ (RG z) ∧ S = S) ∧ KS.mk (z.n (100000 : Nat)) (z.n (100002
      : Nat)) (z.n (100014 : Nat)) (z.n (100008 : Nat)) (z.n (100020 : Nat)) (z.n (100051 : Nat)) (z.b (100001 : Nat)) (z.b (100013 : Nat)) (z.b (100025 : Nat)) (z.b (100037 :
      Nat)) (z.b (100003 : Nat)) (z.b (100015 : Nat)) = sh0 (KS.mk (z.n (100000 : Nat)) (z.n (100002 : Nat)) (z.n (100014 : Nat)) (z.n (100008 : Nat)) (z.n (100020 : Nat)) (z.n
      (100051 : Nat)) (z.b (100001 : Nat)) (z.b (100013 : Nat)) (z.b (100025 : Nat)) (z.b (100037 : Nat)) (z.b (100003 : Nat)) (z.b (100015 : Nat)))) ∧ ((bif !z.b (100001 : Nat)
      then true else !z.b (100003 : Nat)) = false → ((IntKind.i64.wrap (z.n (100002 : Nat) - (1 : Int)) == (0 : Int)) = true → True ∧ (M = M ∧ (50 : Nat) = (50 : Nat) ∧ (RG z) ∧
      S = S) ∧ KS.mk (z.n (100000 : Nat)) (IntKind.i64.wrap (z.n (100002 : Nat) - (1 : Int))) (z.n (100014 : Nat)) (z.n (100008 : Nat)) (z.n (100020 : Nat)) (z.n (100051 : Nat))
      false (z.b (100013 : Nat)) (z.b (100025 : Nat)) (z.b (100037 : Nat)) (z.b (100003 : Nat)) (z.b (100015 : Nat)) = sh0 (KS.mk (z.n (100000 : Nat)) (z.n (100002 : Nat)) (z.n
      (100014 : Nat)) (z.n (100008 : Nat)) (z.n (100020 : Nat)) (z.n (100051 : Nat)) (z.b (100001 : Nat)) (z.b (100013 : Nat)) (z.b (100025 : Nat)) (z.b (100037 : Nat)) (z.b
      (100003 : Nat)) (z.b (100015 : Nat)))) ∧ ((IntKind.i64.wrap (z.n (100002 : Nat) - (1 : Int)) == (0 : Int)) = false → True ∧ (M = M ∧ (50 : Nat) = (50 : Nat) ∧ (RG z) ∧ S =
      S) ∧ KS.mk (z.n (100000 : Nat)) (IntKind.i64.wrap (z.n (100002 : Nat) - (1 : Int))) (z.n (100014 : Nat)) (z.n (100008 : Nat)) (z.n (100020 : Nat)) (z.n (100051 : Nat))
      (z.b (100001 : Nat)) (z.b (100013 : Nat)) (z.b (100025 : Nat)) (z.b (100037 : Nat)) (z.b (100003 : Nat)) (z.b (100015 : Nat)) = sh0 (KS.mk (z.n (100000 : Nat)) (z.n
      (100002 : Nat)) (z.n (100014 : Nat)) (z.n (100008 : Nat)) (z.n (100020 : Nat)) (z.n (100051 : Nat)) (z.b (100001 : Nat)) (z.b (100013 : Nat)) (z.b (100025 : Nat)) (z.b
      (100037 : Nat)) (z.b (100003 : Nat)) (z.b (100015 : Nat)))))) := by kernel_rfl
theorem sho0_c (E : World) (M : Bl) (S : SW)  (z : PX) (hz : rgM z (uM M) 0) (hp : (fun _ => True) z) : HC (pe E) 26 [.c (.p 1 1)] (uM M) S (.t []) (fun z y => (KS.mk (y.n 100000) (y.n 100002) (y.n 100014) (y.n 100008) (y.n 100020) (y.n 100051) (y.b 100001) (y.b 100013) (y.b 100025) (y.b 100037) (y.b 100003) (y.b 100015)) = sh0 (KS.mk (z.n 100000) (z.n 100002) (z.n 100014) (z.n 100008) (z.n 100020) (z.n 100051) (z.b 100001) (z.b 100013) (z.b 100025) (z.b 100037) (z.b 100003) (z.b 100015))) z := by
  refine HC.mk false (by rfl) (by rfl) (by rfl) (by rfl) (fnTree_sound (P := pe E) orcA_ok tab_ok tab_sz mixed 20000 Try.func26 (by decide) [.c (.p 1 1)] _) ⟨?_⟩
  rw [sho0_p]
  obtain ⟨h0, h4, h5, h6, h7, h8, h11, h16, h17, h18, h19, h20, h23, h28, h29, h30, h31, h32, h35, h40, h41, h42, h43, h44, h47, h50, h86, h88, h92, h93, _⟩ := rg_u hz
  cases h1 : z.b 100001 <;> cases h3 : z.b 100003 <;> cases hw : (IntKind.i64.wrap (z.n 100002 - 1) == 0) <;> simp only [sh0, h1, h3, hw, Bool.not_true, Bool.not_false, cond_true, cond_false, Bool.true_eq_false, Bool.false_eq_true, false_implies, true_implies, true_and, and_true, and_false, false_and, if_true, if_false, and_self] <;> (repeat' (first | assumption | exact trivial | exact rfl | apply And.intro | intro _)) <;> ((try simp only [wi64, wu16, Bool.not_eq_true', Bool.not_eq_false', Bool.and_eq_true, Bool.or_eq_true, beq_iff_eq, bne_iff_ne, ne_eq, beq_eq_false_iff_ne, bne_eq_false_iff_eq, decide_eq_true_eq, decide_eq_false_iff_not] at *) <;> (repeat' split) <;> omega)
theorem sho1_p (E : World) (M : Bl) (S : SW) (z : PX)  :
    (hoP false (uM M) S (.t []) (fun z y => (KS.mk (y.n 100000) (y.n 100002) (y.n 100014) (y.n 100008) (y.n 100020) (y.n 100051) (y.b 100001) (y.b 100013) (y.b 100025) (y.b 100037) (y.b 100003) (y.b 100015)) = sh1 (KS.mk (z.n 100000) (z.n 100002) (z.n 100014) (z.n 100008) (z.n 100020) (z.n 100051) (z.b 100001) (z.b 100013) (z.b 100025) (z.b 100037) (z.b 100003) (z.b 100015))) z (fnTree (pe E) (orcA E) (tabL fns) 20000 Try.f26 [.c (.p 1 13)] (mkM z S (uM M) 0))) =
    (((bif !z.b (100013 : Nat) then true else !z.b (100015 : Nat)) = true → True ∧ (M = M ∧ (50 : Nat) = (50 : Nat) ∧ (RG z) ∧ S = S) ∧ KS.mk (z.n (100000 : Nat)) (z.n (100002
      : Nat)) (z.n (100014 : Nat)) (z.n (100008 : Nat)) (z.n (100020 : Nat)) (z.n (100051 : Nat)) (z.b (100001 : Nat)) (z.b (100013 : Nat)) (z.b (100025 : Nat)) (z.b (100037 :
      Nat)) (z.b (100003 : Nat)) (z.b (100015 : Nat)) = sh1 (KS.mk (z.n (100000 : Nat)) (z.n (100002 : Nat)) (z.n (100014 : Nat)) (z.n (100008 : Nat)) (z.n (100020 : Nat)) (z.n
      (100051 : Nat)) (z.b (100001 : Nat)) (z.b (100013 : Nat)) (z.b (100025 : Nat)) (z.b (100037 : Nat)) (z.b (100003 : Nat)) (z.b (100015 : Nat)))) ∧ ((bif !z.b (100013 : Nat)
      then true else !z.b (100015 : Nat)) = false → ((IntKind.i64.wrap (z.n (100014 : Nat) - (1 : Int)) == (0 : Int)) = true → True ∧ (M = M ∧ (50 : Nat) = (50 : Nat) ∧ (RG z) ∧
      S = S) ∧ KS.mk (z.n (100000 : Nat)) (z.n (100002 : Nat)) (IntKind.i64.wrap (z.n (100014 : Nat) - (1 : Int))) (z.n (100008 : Nat)) (z.n (100020 : Nat)) (z.n (100051 : Nat))
      (z.b (100001 : Nat)) false (z.b (100025 : Nat)) (z.b (100037 : Nat)) (z.b (100003 : Nat)) (z.b (100015 : Nat)) = sh1 (KS.mk (z.n (100000 : Nat)) (z.n (100002 : Nat)) (z.n
      (100014 : Nat)) (z.n (100008 : Nat)) (z.n (100020 : Nat)) (z.n (100051 : Nat)) (z.b (100001 : Nat)) (z.b (100013 : Nat)) (z.b (100025 : Nat)) (z.b (100037 : Nat)) (z.b
      (100003 : Nat)) (z.b (100015 : Nat)))) ∧ ((IntKind.i64.wrap (z.n (100014 : Nat) - (1 : Int)) == (0 : Int)) = false → True ∧ (M = M ∧ (50 : Nat) = (50 : Nat) ∧ (RG z) ∧ S =
      S) ∧ KS.mk (z.n (100000 : Nat)) (z.n (100002 : Nat)) (IntKind.i64.wrap (z.n (100014 : Nat) - (1 : Int))) (z.n (100008 : Nat)) (z.n (100020 : Nat)) (z.n (100051 : Nat))
      (z.b (100001 : Nat)) (z.b (100013 : Nat)) (z.b (100025 : Nat)) (z.b (100037 : Nat)) (z.b (100003 : Nat)) (z.b (100015 : Nat)) = sh1 (KS.mk (z.n (100000 : Nat)) (z.n
      (100002 : Nat)) (z.n (100014 : Nat)) (z.n (100008 : Nat)) (z.n (100020 : Nat)) (z.n (100051 : Nat)) (z.b (100001 : Nat)) (z.b (100013 : Nat)) (z.b (100025 : Nat)) (z.b
      (100037 : Nat)) (z.b (100003 : Nat)) (z.b (100015 : Nat)))))) := by kernel_rfl
theorem sho1_c (E : World) (M : Bl) (S : SW)  (z : PX) (hz : rgM z (uM M) 0) (hp : (fun _ => True) z) : HC (pe E) 26 [.c (.p 1 13)] (uM M) S (.t []) (fun z y => (KS.mk (y.n 100000) (y.n 100002) (y.n 100014) (y.n 100008) (y.n 100020) (y.n 100051) (y.b 100001) (y.b 100013) (y.b 100025) (y.b 100037) (y.b 100003) (y.b 100015)) = sh1 (KS.mk (z.n 100000) (z.n 100002) (z.n 100014) (z.n 100008) (z.n 100020) (z.n 100051) (z.b 100001) (z.b 100013) (z.b 100025) (z.b 100037) (z.b 100003) (z.b 100015))) z := by
  refine HC.mk false (by rfl) (by rfl) (by rfl) (by rfl) (fnTree_sound (P := pe E) orcA_ok tab_ok tab_sz mixed 20000 Try.func26 (by decide) [.c (.p 1 13)] _) ⟨?_⟩
  rw [sho1_p]
  obtain ⟨h0, h4, h5, h6, h7, h8, h11, h16, h17, h18, h19, h20, h23, h28, h29, h30, h31, h32, h35, h40, h41, h42, h43, h44, h47, h50, h86, h88, h92, h93, _⟩ := rg_u hz
  cases h1 : z.b 100013 <;> cases h3 : z.b 100015 <;> cases hw : (IntKind.i64.wrap (z.n 100014 - 1) == 0) <;> simp only [sh1, h1, h3, hw, Bool.not_true, Bool.not_false, cond_true, cond_false, Bool.true_eq_false, Bool.false_eq_true, false_implies, true_implies, true_and, and_true, and_false, false_and, if_true, if_false, and_self] <;> (repeat' (first | assumption | exact trivial | exact rfl | apply And.intro | intro _)) <;> ((try simp only [wi64, wu16, Bool.not_eq_true', Bool.not_eq_false', Bool.and_eq_true, Bool.or_eq_true, beq_iff_eq, bne_iff_ne, ne_eq, beq_eq_false_iff_ne, bne_eq_false_iff_eq, decide_eq_true_eq, decide_eq_false_iff_not] at *) <;> (repeat' split) <;> omega)
theorem sho2_p (E : World) (M : Bl) (S : SW) (z : PX)  :
    (hoP false (uM M) S (.t []) (fun z y => (KS.mk (y.n 100000) (y.n 100002) (y.n 100014) (y.n 100008) (y.n 100020) (y.n 100051) (y.b 100001) (y.b 100013) (y.b 100025) (y.b 100037) (y.b 100003) (y.b 100015)) = (KS.mk (z.n 100000) (z.n 100002) (z.n 100014) (z.n 100008) (z.n 100020) (z.n 100051) (z.b 100001) (z.b 100013) (z.b 100025) (z.b 100037) (z.b 100003) (z.b 100015))) z (fnTree (pe E) (orcA E) (tabL fns) 20000 Try.f26 [.c (.p 1 25)] (mkM z S (uM M) 0))) =
    (((bif !z.b (100025 : Nat) then true else !z.b (100027 : Nat)) = true → True ∧ (M = M ∧ (50 : Nat) = (50 : Nat) ∧ (RG z) ∧ S = S) ∧ KS.mk (z.n (100000 : Nat)) (z.n (100002
      : Nat)) (z.n (100014 : Nat)) (z.n (100008 : Nat)) (z.n (100020 : Nat)) (z.n (100051 : Nat)) (z.b (100001 : Nat)) (z.b (100013 : Nat)) (z.b (100025 : Nat)) (z.b (100037 :
      Nat)) (z.b (100003 : Nat)) (z.b (100015 : Nat)) = KS.mk (z.n (100000 : Nat)) (z.n (100002 : Nat)) (z.n (100014 : Nat)) (z.n (100008 : Nat)) (z.n (100020 : Nat)) (z.n
      (100051 : Nat)) (z.b (100001 : Nat)) (z.b (100013 : Nat)) (z.b (100025 : Nat)) (z.b (100037 : Nat)) (z.b (100003 : Nat)) (z.b (100015 : Nat))) ∧ ((bif !z.b (100025 : Nat)
      then true else !z.b (100027 : Nat)) = false → ((IntKind.i64.wrap (z.n (100026 : Nat) - (1 : Int)) == (0 : Int)) = true → True ∧ (M = M ∧ (50 : Nat) = (50 : Nat) ∧ (RG z) ∧
      S = S) ∧ KS.mk (z.n (100000 : Nat)) (z.n (100002 : Nat)) (z.n (100014 : Nat)) (z.n (100008 : Nat)) (z.n (100020 : Nat)) (z.n (100051 : Nat)) (z.b (100001 : Nat)) (z.b
      (100013 : Nat)) false (z.b (100037 : Nat)) (z.b (100003 : Nat)) (z.b (100015 : Nat)) = KS.mk (z.n (100000 : Nat)) (z.n (100002 : Nat)) (z.n (100014 : Nat)) (z.n (100008 :
      Nat)) (z.n (100020 : Nat)) (z.n (100051 : Nat)) (z.b (100001 : Nat)) (z.b (100013 : Nat)) (z.b (100025 : Nat)) (z.b (100037 : Nat)) (z.b (100003 : Nat)) (z.b (100015 :
      Nat))) ∧ ((IntKind.i64.wrap (z.n (100026 : Nat) - (1 : Int)) == (0 : Int)) = false → True ∧ (M = M ∧ (50 : Nat) = (50 : Nat) ∧ (RG z) ∧ S = S) ∧ KS.mk (z.n (100000 : Nat))
      (z.n (100002 : Nat)) (z.n (100014 : Nat)) (z.n (100008 : Nat)) (z.n (100020 : Nat)) (z.n (100051 : Nat)) (z.b (100001 : Nat)) (z.b (100013 : Nat)) (z.b (100025 : Nat))
      (z.b (100037 : Nat)) (z.b (100003 : Nat)) (z.b (100015 : Nat)) = KS.mk (z.n (100000 : Nat)) (z.n (100002 : Nat)) (z.n (100014 : Nat)) (z.n (100008 : Nat)) (z.n (100020 :
      Nat)) (z.n (100051 : Nat)) (z.b (100001 : Nat)) (z.b (100013 : Nat)) (z.b (100025 : Nat)) (z.b (100037 : Nat)) (z.b (100003 : Nat)) (z.b (100015 : Nat))))) := by kernel_rfl
theorem sho2_c (E : World) (M : Bl) (S : SW)  (z : PX) (hz : rgM z (uM M) 0) (hp : (fun z => off2 (KS.mk (z.n 100000) (z.n 100002) (z.n 100014) (z.n 100008) (z.n 100020) (z.n 100051) (z.b 100001) (z.b 100013) (z.b 100025) (z.b 100037) (z.b 100003) (z.b 100015))) z) : HC (pe E) 26 [.c (.p 1 25)] (uM M) S (.t []) (fun z y => (KS.mk (y.n 100000) (y.n 100002) (y.n 100014) (y.n 100008) (y.n 100020) (y.n 100051) (y.b 100001) (y.b 100013) (y.b 100025) (y.b 100037) (y.b 100003) (y.b 100015)) = (KS.mk (z.n 100000) (z.n 100002) (z.n 100014) (z.n 100008) (z.n 100020) (z.n 100051) (z.b 100001) (z.b 100013) (z.b 100025) (z.b 100037) (z.b 100003) (z.b 100015))) z := by
  refine HC.mk false (by rfl) (by rfl) (by rfl) (by rfl) (fnTree_sound (P := pe E) orcA_ok tab_ok tab_sz mixed 20000 Try.func26 (by decide) [.c (.p 1 25)] _) ⟨?_⟩
  rw [sho2_p]
  obtain ⟨h0, h4, h5, h6, h7, h8, h11, h16, h17, h18, h19, h20, h23, h28, h29, h30, h31, h32, h35, h40, h41, h42, h43, h44, h47, h50, h86, h88, h92, h93, _⟩ := rg_u hz
  have hp : z.b 100025 = false := hp
  (repeat' (first | assumption | exact trivial | exact rfl | apply And.intro | intro _)) <;> first | omega | (simp_all [sh0, sh1, off2, off3, swz]; done) | ((try simp only [wi64, wu16, Bool.not_eq_true', Bool.not_eq_false', Bool.and_eq_true, Bool.or_eq_true, beq_iff_eq, bne_iff_ne, ne_eq, beq_eq_false_iff_ne, bne_eq_false_iff_eq, decide_eq_true_eq, decide_eq_false_iff_not] at *) <;> (repeat' split) <;> omega)
theorem sho3_p (E : World) (M : Bl) (S : SW) (z : PX)  :
    (hoP false (uM M) S (.t []) (fun z y => (KS.mk (y.n 100000) (y.n 100002) (y.n 100014) (y.n 100008) (y.n 100020) (y.n 100051) (y.b 100001) (y.b 100013) (y.b 100025) (y.b 100037) (y.b 100003) (y.b 100015)) = (KS.mk (z.n 100000) (z.n 100002) (z.n 100014) (z.n 100008) (z.n 100020) (z.n 100051) (z.b 100001) (z.b 100013) (z.b 100025) (z.b 100037) (z.b 100003) (z.b 100015))) z (fnTree (pe E) (orcA E) (tabL fns) 20000 Try.f26 [.c (.p 1 37)] (mkM z S (uM M) 0))) =
    (((bif !z.b (100037 : Nat) then true else !z.b (100039 : Nat)) = true → True ∧ (M = M ∧ (50 : Nat) = (50 : Nat) ∧ (RG z) ∧ S = S) ∧ KS.mk (z.n (100000 : Nat)) (z.n (100002
      : Nat)) (z.n (100014 : Nat)) (z.n (100008 : Nat)) (z.n (100020 : Nat)) (z.n (100051 : Nat)) (z.b (100001 : Nat)) (z.b (100013 : Nat)) (z.b (100025 : Nat)) (z.b (100037 :
      Nat)) (z.b (100003 : Nat)) (z.b (100015 : Nat)) = KS.mk (z.n (100000 : Nat)) (z.n (100002 : Nat)) (z.n (100014 : Nat)) (z.n (100008 : Nat)) (z.n (100020 : Nat)) (z.n
      (100051 : Nat)) (z.b (100001 : Nat)) (z.b (100013 : Nat)) (z.b (100025 : Nat)) (z.b (100037 : Nat)) (z.b (100003 : Nat)) (z.b (100015 : Nat))) ∧ ((bif !z.b (100037 : Nat)
      then true else !z.b (100039 : Nat)) = false → ((IntKind.i64.wrap (z.n (100038 : Nat) - (1 : Int)) == (0 : Int)) = true → True ∧ (M = M ∧ (50 : Nat) = (50 : Nat) ∧ (RG z) ∧
      S = S) ∧ KS.mk (z.n (100000 : Nat)) (z.n (100002 : Nat)) (z.n (100014 : Nat)) (z.n (100008 : Nat)) (z.n (100020 : Nat)) (z.n (100051 : Nat)) (z.b (100001 : Nat)) (z.b
      (100013 : Nat)) (z.b (100025 : Nat)) false (z.b (100003 : Nat)) (z.b (100015 : Nat)) = KS.mk (z.n (100000 : Nat)) (z.n (100002 : Nat)) (z.n (100014 : Nat)) (z.n (100008 :
      Nat)) (z.n (100020 : Nat)) (z.n (100051 : Nat)) (z.b (100001 : Nat)) (z.b (100013 : Nat)) (z.b (100025 : Nat)) (z.b (100037 : Nat)) (z.b (100003 : Nat)) (z.b (100015 :
      Nat))) ∧ ((IntKind.i64.wrap (z.n (100038 : Nat) - (1 : Int)) == (0 : Int)) = false → True ∧ (M = M ∧ (50 : Nat) = (50 : Nat) ∧ (RG z) ∧ S = S) ∧ KS.mk (z.n (100000 : Nat))
      (z.n (100002 : Nat)) (z.n (100014 : Nat)) (z.n (100008 : Nat)) (z.n (100020 : Nat)) (z.n (100051 : Nat)) (z.b (100001 : Nat)) (z.b (100013 : Nat)) (z.b (100025 : Nat))
      (z.b (100037 : Nat)) (z.b (100003 : Nat)) (z.b (100015 : Nat)) = KS.mk (z.n (100000 : Nat)) (z.n (100002 : Nat)) (z.n (100014 : Nat)) (z.n (100008 : Nat)) (z.n (100020 :
      Nat)) (z.n (100051 : Nat)) (z.b (100001 : Nat)) (z.b (100013 : Nat)) (z.b (100025 : Nat)) (z.b (100037 : Nat)) (z.b (100003 : Nat)) (z.b (100015 : Nat))))) := by kernel_rfl
theorem sho3_c (E : World) (M : Bl) (S : SW)  (z : PX) (hz : rgM z (uM M) 0) (hp : (fun z => off3 (KS.mk (z.n 100000) (z.n 100002) (z.n 100014) (z.n 100008) (z.n 100020) (z.n 100051) (z.b 100001) (z.b 100013) (z.b 100025) (z.b 100037) (z.b 100003) (z.b 100015))) z) : HC (pe E) 26 [.c (.p 1 37)] (uM M) S (.t []) (fun z y => (KS.mk (y.n 100000) (y.n 100002) (y.n 100014) (y.n 100008) (y.n 100020) (y.n 100051) (y.b 100001) (y.b 100013) (y.b 100025) (y.b 100037) (y.b 100003) (y.b 100015)) = (KS.mk (z.n 100000) (z.n 100002) (z.n 100014) (z.n 100008) (z.n 100020) (z.n 100051) (z.b 100001) (z.b 100013) (z.b 100025) (z.b 100037) (z.b 100003) (z.b 100015))) z := by
  refine HC.mk false (by rfl) (by rfl) (by rfl) (by rfl) (fnTree_sound (P := pe E) orcA_ok tab_ok tab_sz mixed 20000 Try.func26 (by decide) [.c (.p 1 37)] _) ⟨?_⟩
  rw [sho3_p]
  obtain ⟨h0, h4, h5, h6, h7, h8, h11, h16, h17, h18, h19, h20, h23, h28, h29, h30, h31, h32, h35, h40, h41, h42, h43, h44, h47, h50, h86, h88, h92, h93, _⟩ := rg_u hz
  have hp : z.b 100037 = false := hp
  (repeat' (first | assumption | exact trivial | exact rfl | apply And.intro | intro _)) <;> first | omega | (simp_all [sh0, sh1, off2, off3, swz]; done) | ((try simp only [wi64, wu16, Bool.not_eq_true', Bool.not_eq_false', Bool.and_eq_true, Bool.or_eq_true, beq_iff_eq, bne_iff_ne, ne_eq, beq_eq_false_iff_ne, bne_eq_false_iff_eq, decide_eq_true_eq, decide_eq_false_iff_not] at *) <;> (repeat' split) <;> omega)
theorem swe0_p (E : World) (M : Bl) (S : SW) (z : PX)  :
    (hoP false (uM M) S (.t []) (fun z y => (KS.mk (y.n 100000) (y.n 100002) (y.n 100014) (y.n 100008) (y.n 100020) (y.n 100051) (y.b 100001) (y.b 100013) (y.b 100025) (y.b 100037) (y.b 100003) (y.b 100015)) = (KS.mk (z.n 100000) (z.n 100002) (z.n 100014) (z.n 100008) (z.n 100020) (z.n 100051) (z.b 100001) (z.b 100013) (z.b 100025) (z.b 100037) (z.b 100003) (z.b 100015))) z (fnTree (pe E) (orcA E) (tabL fns) 20000 Try.f28 [.c (.p 1 1)] (mkM z S (uM M) 0))) =
    (((bif !z.b (100001 : Nat) then true else z.n (100010 : Nat) == (0 : Int)) = true → True ∧ (M = M ∧ (50 : Nat) = (50 : Nat) ∧ (RG z) ∧ S = S) ∧ KS.mk (z.n (100000 : Nat))
      (z.n (100002 : Nat)) (z.n (100014 : Nat)) (z.n (100008 : Nat)) (z.n (100020 : Nat)) (z.n (100051 : Nat)) (z.b (100001 : Nat)) (z.b (100013 : Nat)) (z.b (100025 : Nat))
      (z.b (100037 : Nat)) (z.b (100003 : Nat)) (z.b (100015 : Nat)) = KS.mk (z.n (100000 : Nat)) (z.n (100002 : Nat)) (z.n (100014 : Nat)) (z.n (100008 : Nat)) (z.n (100020 :
      Nat)) (z.n (100051 : Nat)) (z.b (100001 : Nat)) (z.b (100013 : Nat)) (z.b (100025 : Nat)) (z.b (100037 : Nat)) (z.b (100003 : Nat)) (z.b (100015 : Nat))) ∧ ((bif !z.b
      (100001 : Nat) then true else z.n (100010 : Nat) == (0 : Int)) = false → ((IntKind.i64.wrap (z.n (100012 : Nat) - (1 : Int)) != (0 : Int)) = true → True ∧ (M = M ∧ (50 :
      Nat) = (50 : Nat) ∧ (RG z) ∧ S = S) ∧ KS.mk (z.n (100000 : Nat)) (z.n (100002 : Nat)) (z.n (100014 : Nat)) (z.n (100008 : Nat)) (z.n (100020 : Nat)) (z.n (100051 : Nat))
      (z.b (100001 : Nat)) (z.b (100013 : Nat)) (z.b (100025 : Nat)) (z.b (100037 : Nat)) (z.b (100003 : Nat)) (z.b (100015 : Nat)) = KS.mk (z.n (100000 : Nat)) (z.n (100002 :
      Nat)) (z.n (100014 : Nat)) (z.n (100008 : Nat)) (z.n (100020 : Nat)) (z.n (100051 : Nat)) (z.b (100001 : Nat)) (z.b (100013 : Nat)) (z.b (100025 : Nat)) (z.b (100037 :
      Nat)) (z.b (100003 : Nat)) (z.b (100015 : Nat))) ∧ ((IntKind.i64.wrap (z.n (100012 : Nat) - (1 : Int)) != (0 : Int)) = false → (z.b (100009 : Nat) = true → True ∧ (M = M ∧
      (50 : Nat) = (50 : Nat) ∧ (((0 : Int) ≤ z.n (100000 : Nat) ∧ z.n (100000 : Nat) ≤ (2199023255552 : Int)) ∧ ((0 : Int) ≤ z.n (100004 : Nat) ∧ z.n (100004 : Nat) ≤ (2047 :
      Int)) ∧ ((0 : Int) ≤ z.n (100005 : Nat) ∧ z.n (100005 : Nat) ≤ (63 : Int)) ∧ ((0 : Int) ≤ z.n (100006 : Nat) ∧ z.n (100006 : Nat) ≤ (16777216 : Int)) ∧ ((0 : Int) ≤ z.n
      (100007 : Nat) ∧ z.n (100007 : Nat) ≤ (3 : Int)) ∧ ((0 : Int) ≤ z.n (100008 : Nat) ∧ z.n (100008 : Nat) ≤ (15 : Int)) ∧ (((0 : Int) ≤ if (15 : Int) < IntKind.i64.wrap (z.n
      (100011 : Nat) + (1 : Int)) then (15 : Int) else IntKind.i64.wrap (z.n (100011 : Nat) + (1 : Int))) ∧ (if (15 : Int) < IntKind.i64.wrap (z.n (100011 : Nat) + (1 : Int))
      then (15 : Int) else IntKind.i64.wrap (z.n (100011 : Nat) + (1 : Int))) ≤ (15 : Int)) ∧ ((0 : Int) ≤ z.n (100016 : Nat) ∧ z.n (100016 : Nat) ≤ (2047 : Int)) ∧ ((0 : Int) ≤
      z.n (100017 : Nat) ∧ z.n (100017 : Nat) ≤ (63 : Int)) ∧ ((0 : Int) ≤ z.n (100018 : Nat) ∧ z.n (100018 : Nat) ≤ (16777216 : Int)) ∧ ((0 : Int) ≤ z.n (100019 : Nat) ∧ z.n
      (100019 : Nat) ≤ (3 : Int)) ∧ ((0 : Int) ≤ z.n (100020 : Nat) ∧ z.n (100020 : Nat) ≤ (15 : Int)) ∧ ((0 : Int) ≤ z.n (100023 : Nat) ∧ z.n (100023 : Nat) ≤ (15 : Int)) ∧ ((0
      : Int) ≤ z.n (100028 : Nat) ∧ z.n (100028 : Nat) ≤ (2047 : Int)) ∧ ((0 : Int) ≤ z.n (100029 : Nat) ∧ z.n (100029 : Nat) ≤ (63 : Int)) ∧ ((0 : Int) ≤ z.n (100030 : Nat) ∧
      z.n (100030 : Nat) ≤ (16777216 : Int)) ∧ ((0 : Int) ≤ z.n (100031 : Nat) ∧ z.n (100031 : Nat) ≤ (3 : Int)) ∧ ((0 : Int) ≤ z.n (100032 : Nat) ∧ z.n (100032 : Nat) ≤ (15 :
      Int)) ∧ ((0 : Int) ≤ z.n (100035 : Nat) ∧ z.n (100035 : Nat) ≤ (15 : Int)) ∧ ((0 : Int) ≤ z.n (100040 : Nat) ∧ z.n (100040 : Nat) ≤ (2047 : Int)) ∧ ((0 : Int) ≤ z.n
      (100041 : Nat) ∧ z.n (100041 : Nat) ≤ (63 : Int)) ∧ ((0 : Int) ≤ z.n (100042 : Nat) ∧ z.n (100042 : Nat) ≤ (16777216 : Int)) ∧ ((0 : Int) ≤ z.n (100043 : Nat) ∧ z.n
      (100043 : Nat) ≤ (3 : Int)) ∧ ((0 : Int) ≤ z.n (100044 : Nat) ∧ z.n (100044 : Nat) ≤ (15 : Int)) ∧ ((0 : Int) ≤ z.n (100047 : Nat) ∧ z.n (100047 : Nat) ≤ (15 : Int)) ∧ ((0
      : Int) ≤ z.n (100050 : Nat) ∧ z.n (100050 : Nat) ≤ (7 : Int)) ∧ ((0 : Int) ≤ z.n (100086 : Nat) ∧ z.n (100086 : Nat) ≤ (1 : Int)) ∧ ((0 : Int) ≤ z.n (100088 : Nat) ∧ z.n
      (100088 : Nat) ≤ (4 : Int)) ∧ ((0 : Int) ≤ z.n (100092 : Nat) ∧ z.n (100092 : Nat) ≤ (15 : Int)) ∧ ((0 : Int) ≤ z.n (100093 : Nat) ∧ z.n (100093 : Nat) ≤ (7 : Int)) ∧
      True) ∧ S = S) ∧ KS.mk (z.n (100000 : Nat)) (z.n (100002 : Nat)) (z.n (100014 : Nat)) (z.n (100008 : Nat)) (z.n (100020 : Nat)) (z.n (100051 : Nat)) (z.b (100001 : Nat))
      (z.b (100013 : Nat)) (z.b (100025 : Nat)) (z.b (100037 : Nat)) (z.b (100003 : Nat)) (z.b (100015 : Nat)) = KS.mk (z.n (100000 : Nat)) (z.n (100002 : Nat)) (z.n (100014 :
      Nat)) (z.n (100008 : Nat)) (z.n (100020 : Nat)) (z.n (100051 : Nat)) (z.b (100001 : Nat)) (z.b (100013 : Nat)) (z.b (100025 : Nat)) (z.b (100037 : Nat)) (z.b (100003 :
      Nat)) (z.b (100015 : Nat))) ∧ (z.b (100009 : Nat) = false → True ∧ (M = M ∧ (50 : Nat) = (50 : Nat) ∧ (((0 : Int) ≤ z.n (100000 : Nat) ∧ z.n (100000 : Nat) ≤
      (2199023255552 : Int)) ∧ ((0 : Int) ≤ z.n (100004 : Nat) ∧ z.n (100004 : Nat) ≤ (2047 : Int)) ∧ ((0 : Int) ≤ z.n (100005 : Nat) ∧ z.n (100005 : Nat) ≤ (63 : Int)) ∧ ((0 :
      Int) ≤ z.n (100006 : Nat) ∧ z.n (100006 : Nat) ≤ (16777216 : Int)) ∧ ((0 : Int) ≤ z.n (100007 : Nat) ∧ z.n (100007 : Nat) ≤ (3 : Int)) ∧ ((0 : Int) ≤ z.n (100008 : Nat) ∧
      z.n (100008 : Nat) ≤ (15 : Int)) ∧ (((0 : Int) ≤ if (0 : Int) > IntKind.i64.wrap (z.n (100011 : Nat) - (1 : Int)) then (0 : Int) else IntKind.i64.wrap (z.n (100011 : Nat)
      - (1 : Int))) ∧ (if (0 : Int) > IntKind.i64.wrap (z.n (100011 : Nat) - (1 : Int)) then (0 : Int) else IntKind.i64.wrap (z.n (100011 : Nat) - (1 : Int))) ≤ (15 : Int)) ∧
      ((0 : Int) ≤ z.n (100016 : Nat) ∧ z.n (100016 : Nat) ≤ (2047 : Int)) ∧ ((0 : Int) ≤ z.n (100017 : Nat) ∧ z.n (100017 : Nat) ≤ (63 : Int)) ∧ ((0 : Int) ≤ z.n (100018 : Nat)
      ∧ z.n (100018 : Nat) ≤ (16777216 : Int)) ∧ ((0 : Int) ≤ z.n (100019 : Nat) ∧ z.n (100019 : Nat) ≤ (3 : Int)) ∧ ((0 : Int) ≤ z.n (100020 : Nat) ∧ z.n (100020 : Nat) ≤ (15 :
      Int)) ∧ ((0 : Int) ≤ z.n (100023 : Nat) ∧ z.n (100023 : Nat) ≤ (15 : Int)) ∧ ((0 : Int) ≤ z.n (100028 : Nat) ∧ z.n (100028 : Nat) ≤ (2047 : Int)) ∧ ((0 : Int) ≤ z.n
      (100029 : Nat) ∧ z.n (100029 : Nat) ≤ (63 : Int)) ∧ ((0 : Int) ≤ z.n (100030 : Nat) ∧ z.n (100030 : Nat) ≤ (16777216 : Int)) ∧ ((0 : Int) ≤ z.n (100031 : Nat) ∧ z.n
      (100031 : Nat) ≤ (3 : Int)) ∧ ((0 : Int) ≤ z.n (100032 : Nat) ∧ z.n (100032 : Nat) ≤ (15 : Int)) ∧ ((0 : Int) ≤ z.n (100035 : Nat) ∧ z.n (100035 : Nat) ≤ (15 : Int)) ∧ ((0
      : Int) ≤ z.n (100040 : Nat) ∧ z.n (100040 : Nat) ≤ (2047 : Int)) ∧ ((0 : Int) ≤ z.n (100041 : Nat) ∧ z.n (100041 : Nat) ≤ (63 : Int)) ∧ ((0 : Int) ≤ z.n (100042 : Nat) ∧
      z.n (100042 : Nat) ≤ (16777216 : Int)) ∧ ((0 : Int) ≤ z.n (100043 : Nat) ∧ z.n (100043 : Nat) ≤ (3 : Int)) ∧ ((0 : Int) ≤ z.n (100044 : Nat) ∧ z.n (100044 : Nat) ≤ (15 :
      Int)) ∧ ((0 : Int) ≤ z.n (100047 : Nat) ∧ z.n (100047 : Nat) ≤ (15 : Int)) ∧ ((0 : Int) ≤ z.n (100050 : Nat) ∧ z.n (100050 : Nat) ≤ (7 : Int)) ∧ ((0 : Int) ≤ z.n (100086 :
      Nat) ∧ z.n (100086 : Nat) ≤ (1 : Int)) ∧ ((0 : Int) ≤ z.n (100088 : Nat) ∧ z.n (100088 : Nat) ≤ (4 : Int)) ∧ ((0 : Int) ≤ z.n (100092 : Nat) ∧ z.n (100092 : Nat) ≤ (15 :
      Int)) ∧ ((0 : Int) ≤ z.n (100093 : Nat) ∧ z.n (100093 : Nat) ≤ (7 : Int)) ∧ True) ∧ S = S) ∧ KS.mk (z.n (100000 : Nat)) (z.n (100002 : Nat)) (z.n (100014 : Nat)) (z.n
      (100008 : Nat)) (z.n (100020 : Nat)) (z.n (100051 : Nat)) (z.b (100001 : Nat)) (z.b (100013 : Nat)) (z.b (100025 : Nat)) (z.b (100037 : Nat)) (z.b (100003 : Nat)) (z.b
      (100015 : Nat)) = KS.mk (z.n (100000 : Nat)) (z.n (100002 : Nat)) (z.n (100014 : Nat)) (z.n (100008 : Nat)) (z.n (100020 : Nat)) (z.n (100051 : Nat)) (z.b (100001 : Nat))
      (z.b (100013 : Nat)) (z.b (100025 : Nat)) (z.b (100037 : Nat)) (z.b (100003 : Nat)) (z.b (100015 : Nat)))))) := by kernel_rfl
theorem swe0_c (E : World) (M : Bl) (S : SW)  (z : PX) (hz : rgM z (uM M) 0) (hp : (fun _ => True) z) : HC (pe E) 28 [.c (.p 1 1)] (uM M) S (.t []) (fun z y => (KS.mk (y.n 100000) (y.n 100002) (y.n 100014) (y.n 100008) (y.n 100020) (y.n 100051) (y.b 100001) (y.b 100013) (y.b 100025) (y.b 100037) (y.b 100003) (y.b 100015)) = (KS.mk (z.n 100000) (z.n 100002) (z.n 100014) (z.n 100008) (z.n 100020) (z.n 100051) (z.b 100001) (z.b 100013) (z.b 100025) (z.b 100037) (z.b 100003) (z.b 100015))) z := by
  refine HC.mk false (by rfl) (by rfl) (by rfl) (by rfl) (fnTree_sound (P := pe E) orcA_ok tab_ok tab_sz mixed 20000 Try.func28 (by decide) [.c (.p 1 1)] _) ⟨?_⟩
  rw [swe0_p]
  obtain ⟨h0, h4, h5, h6, h7, h8, h11, h16, h17, h18, h19, h20, h23, h28, h29, h30, h31, h32, h35, h40, h41, h42, h43, h44, h47, h50, h86, h88, h92, h93, _⟩ := rg_u hz
  (repeat' (first | assumption | exact trivial | exact rfl | apply And.intro | intro _)) <;> first | omega | (simp_all [sh0, sh1, off2, off3, swz]; done) | ((try simp only [wi64, wu16, Bool.not_eq_true', Bool.not_eq_false', Bool.and_eq_true, Bool.or_eq_true, beq_iff_eq, bne_iff_ne, ne_eq, beq_eq_false_iff_ne, bne_eq_false_iff_eq, decide_eq_true_eq, decide_eq_false_iff_not] at *) <;> (repeat' split) <;> omega)
theorem swe1_p (E : World) (M : Bl) (S : SW) (z : PX)  :
    (hoP false (uM M) S (.t []) (fun z y => (KS.mk (y.n 100000) (y.n 100002) (y.n 100014) (y.n 100008) (y.n 100020) (y.n 100051) (y.b 100001) (y.b 100013) (y.b 100025) (y.b 100037) (y.b 100003) (y.b 100015)) = (KS.mk (z.n 100000) (z.n 100002) (z.n 100014) (z.n 100008) (z.n 100020) (z.n 100051) (z.b 100001) (z.b 100013) (z.b 100025) (z.b 100037) (z.b 100003) (z.b 100015))) z (fnTree (pe E) (orcA E) (tabL fns) 20000 Try.f28 [.c (.p 1 13)] (mkM z S (uM M) 0))) =
    (((bif !z.b (100013 : Nat) then true else z.n (100022 : Nat) == (0 : Int)) = true → True ∧ (M = M ∧ (50 : Nat) = (50 : Nat) ∧ (RG z) ∧ S = S) ∧ KS.mk (z.n (100000 : Nat))
      (z.n (100002 : Nat)) (z.n (100014 : Nat)) (z.n (100008 : Nat)) (z.n (100020 : Nat)) (z.n (100051 : Nat)) (z.b (100001 : Nat)) (z.b (100013 : Nat)) (z.b (100025 : Nat))
      (z.b (100037 : Nat)) (z.b (100003 : Nat)) (z.b (100015 : Nat)) = KS.mk (z.n (100000 : Nat)) (z.n (100002 : Nat)) (z.n (100014 : Nat)) (z.n (100008 : Nat)) (z.n (100020 :
      Nat)) (z.n (100051 : Nat)) (z.b (100001 : Nat)) (z.b (100013 : Nat)) (z.b (100025 : Nat)) (z.b (100037 : Nat)) (z.b (100003 : Nat)) (z.b (100015 : Nat))) ∧ ((bif !z.b
      (100013 : Nat) then true else z.n (100022 : Nat) == (0 : Int)) = false → ((IntKind.i64.wrap (z.n (100024 : Nat) - (1 : Int)) != (0 : Int)) = true → True ∧ (M = M ∧ (50 :
      Nat) = (50 : Nat) ∧ (RG z) ∧ S = S) ∧ KS.mk (z.n (100000 : Nat)) (z.n (100002 : Nat)) (z.n (100014 : Nat)) (z.n (100008 : Nat)) (z.n (100020 : Nat)) (z.n (100051 : Nat))
      (z.b (100001 : Nat)) (z.b (100013 : Nat)) (z.b (100025 : Nat)) (z.b (100037 : Nat)) (z.b (100003 : Nat)) (z.b (100015 : Nat)) = KS.mk (z.n (100000 : Nat)) (z.n (100002 :
      Nat)) (z.n (100014 : Nat)) (z.n (100008 : Nat)) (z.n (100020 : Nat)) (z.n (100051 : Nat)) (z.b (100001 : Nat)) (z.b (100013 : Nat)) (z.b (100025 : Nat)) (z.b (100037 :
      Nat)) (z.b (100003 : Nat)) (z.b (100015 : Nat))) ∧ ((IntKind.i64.wrap (z.n (100024 : Nat) - (1 : Int)) != (0 : Int)) = false → (z.b (100021 : Nat) = true → True ∧ (M = M ∧
      (50 : Nat) = (50 : Nat) ∧ (((0 : Int) ≤ z.n (100000 : Nat) ∧ z.n (100000 : Nat) ≤ (2199023255552 : Int)) ∧ ((0 : Int) ≤ z.n (100004 : Nat) ∧ z.n (100004 : Nat) ≤ (2047 :
      Int)) ∧ ((0 : Int) ≤ z.n (100005 : Nat) ∧ z.n (100005 : Nat) ≤ (63 : Int)) ∧ ((0 : Int) ≤ z.n (100006 : Nat) ∧ z.n (100006 : Nat) ≤ (16777216 : Int)) ∧ ((0 : Int) ≤ z.n
      (100007 : Nat) ∧ z.n (100007 : Nat) ≤ (3 : Int)) ∧ ((0 : Int) ≤ z.n (100008 : Nat) ∧ z.n (100008 : Nat) ≤ (15 : Int)) ∧ ((0 : Int) ≤ z.n (100011 : Nat) ∧ z.n (100011 :
      Nat) ≤ (15 : Int)) ∧ ((0 : Int) ≤ z.n (100016 : Nat) ∧ z.n (100016 : Nat) ≤ (2047 : Int)) ∧ ((0 : Int) ≤ z.n (100017 : Nat) ∧ z.n (100017 : Nat) ≤ (63 : Int)) ∧ ((0 : Int)
      ≤ z.n (100018 : Nat) ∧ z.n (100018 : Nat) ≤ (16777216 : Int)) ∧ ((0 : Int) ≤ z.n (100019 : Nat) ∧ z.n (100019 : Nat) ≤ (3 : Int)) ∧ ((0 : Int) ≤ z.n (100020 : Nat) ∧ z.n
      (100020 : Nat) ≤ (15 : Int)) ∧ (((0 : Int) ≤ if (15 : Int) < IntKind.i64.wrap (z.n (100023 : Nat) + (1 : Int)) then (15 : Int) else IntKind.i64.wrap (z.n (100023 : Nat) +
      (1 : Int))) ∧ (if (15 : Int) < IntKind.i64.wrap (z.n (100023 : Nat) + (1 : Int)) then (15 : Int) else IntKind.i64.wrap (z.n (100023 : Nat) + (1 : Int))) ≤ (15 : Int)) ∧
      ((0 : Int) ≤ z.n (100028 : Nat) ∧ z.n (100028 : Nat) ≤ (2047 : Int)) ∧ ((0 : Int) ≤ z.n (100029 : Nat) ∧ z.n (100029 : Nat) ≤ (63 : Int)) ∧ ((0 : Int) ≤ z.n (100030 : Nat)
      ∧ z.n (100030 : Nat) ≤ (16777216 : Int)) ∧ ((0 : Int) ≤ z.n (100031 : Nat) ∧ z.n (100031 : Nat) ≤ (3 : Int)) ∧ ((0 : Int) ≤ z.n (100032 : Nat) ∧ z.n (100032 : Nat) ≤ (15 :
      Int)) ∧ ((0 : Int) ≤ z.n (100035 : Nat) ∧ z.n (100035 : Nat) ≤ (15 : Int)) ∧ ((0 : Int) ≤ z.n (100040 : Nat) ∧ z.n (100040 : Nat) ≤ (2047 : Int)) ∧ ((0 : Int) ≤ z.n
      (100041 : Nat) ∧ z.n (100041 : Nat) ≤ (63 : Int)) ∧ ((0 : Int) ≤ z.n (100042 : Nat) ∧ z.n (100042 : Nat) ≤ (16777216 : Int)) ∧ ((0 : Int) ≤ z.n (100043 : Nat) ∧ z.n
      (100043 : Nat) ≤ (3 : Int)) ∧ ((0 : Int) ≤ z.n (100044 : Nat) ∧ z.n (100044 : Nat) ≤ (15 : Int)) ∧ ((0 : Int) ≤ z.n (100047 : Nat) ∧ z.n (100047 : Nat) ≤ (15 : Int)) ∧ ((0
      : Int) ≤ z.n (100050 : Nat) ∧ z.n (100050 : Nat) ≤ (7 : Int)) ∧ ((0 : Int) ≤ z.n (100086 : Nat) ∧ z.n (100086 : Nat) ≤ (1 : Int)) ∧ ((0 : Int) ≤ z.n (100088 : Nat) ∧ z.n
      (100088 : Nat) ≤ (4 : Int)) ∧ ((0 : Int) ≤ z.n (100092 : Nat) ∧ z.n (100092 : Nat) ≤ (15 : Int)) ∧ ((0 : Int) ≤ z.n (100093 : Nat) ∧ z.n (100093 : Nat) ≤ (7 : Int)) ∧
      True) ∧ S = S) ∧ KS.mk (z.n (100000 : Nat)) (z.n (100002 : Nat)) (z.n (100014 : Nat)) (z.n (100008 : Nat)) (z.n (100020 : Nat)) (z.n (100051 : Nat)) (z.b (100001 : Nat))
      (z.b (100013 : Nat)) (z.b (100025 : Nat)) (z.b (100037 : Nat)) (z.b (100003 : Nat)) (z.b (100015 : Nat)) = KS.mk (z.n (100000 : Nat)) (z.n (100002 : Nat)) (z.n (100014 :
      Nat)) (z.n (100008 : Nat)) (z.n (100020 : Nat)) (z.n (100051 : Nat)) (z.b (100001 : Nat)) (z.b (100013 : Nat)) (z.b (100025 : Nat)) (z.b (100037 : Nat)) (z.b (100003 :
      Nat)) (z.b (100015 : Nat))) ∧ (z.b (100021 : Nat) = false → True ∧ (M = M ∧ (50 : Nat) = (50 : Nat) ∧ (((0 : Int) ≤ z.n (100000 : Nat) ∧ z.n (100000 : Nat) ≤
      (2199023255552 : Int)) ∧ ((0 : Int) ≤ z.n (100004 : Nat) ∧ z.n (100004 : Nat) ≤ (2047 : Int)) ∧ ((0 : Int) ≤ z.n (100005 : Nat) ∧ z.n (100005 : Nat) ≤ (63 : Int)) ∧ ((0 :
      Int) ≤ z.n (100006 : Nat) ∧ z.n (100006 : Nat) ≤ (16777216 : Int)) ∧ ((0 : Int) ≤ z.n (100007 : Nat) ∧ z.n (100007 : Nat) ≤ (3 : Int)) ∧ ((0 : Int) ≤ z.n (100008 : Nat) ∧
      z.n (100008 : Nat) ≤ (15 : Int)) ∧ ((0 : Int) ≤ z.n (100011 : Nat) ∧ z.n (100011 : Nat) ≤ (15 : Int)) ∧ ((0 : Int) ≤ z.n (100016 : Nat) ∧ z.n (100016 : Nat) ≤ (2047 :
      Int)) ∧ ((0 : Int) ≤ z.n (100017 : Nat) ∧ z.n (100017 : Nat) ≤ (63 : Int)) ∧ ((0 : Int) ≤ z.n (100018 : Nat) ∧ z.n (100018 : Nat) ≤ (16777216 : Int)) ∧ ((0 : Int) ≤ z.n
      (100019 : Nat) ∧ z.n (100019 : Nat) ≤ (3 : Int)) ∧ ((0 : Int) ≤ z.n (100020 : Nat) ∧ z.n (100020 : Nat) ≤ (15 : Int)) ∧ (((0 : Int) ≤ if (0 : Int) > IntKind.i64.wrap (z.n
      (100023 : Nat) - (1 : Int)) then (0 : Int) else IntKind.i64.wrap (z.n (100023 : Nat) - (1 : Int))) ∧ (if (0 : Int) > IntKind.i64.wrap (z.n (100023 : Nat) - (1 : Int)) then
      (0 : Int) else IntKind.i64.wrap (z.n (100023 : Nat) - (1 : Int))) ≤ (15 : Int)) ∧ ((0 : Int) ≤ z.n (100028 : Nat) ∧ z.n (100028 : Nat) ≤ (2047 : Int)) ∧ ((0 : Int) ≤ z.n
      (100029 : Nat) ∧ z.n (100029 : Nat) ≤ (63 : Int)) ∧ ((0 : Int) ≤ z.n (100030 : Nat) ∧ z.n (100030 : Nat) ≤ (16777216 : Int)) ∧ ((0 : Int) ≤ z.n (100031 : Nat) ∧ z.n
      (100031 : Nat) ≤ (3 : Int)) ∧ ((0 : Int) ≤ z.n (100032 : Nat) ∧ z.n (100032 : Nat) ≤ (15 : Int)) ∧ ((0 : Int) ≤ z.n (100035 : Nat) ∧ z.n (100035 : Nat) ≤ (15 : Int)) ∧ ((0
      : Int) ≤ z.n (100040 : Nat) ∧ z.n (100040 : Nat) ≤ (2047 : Int)) ∧ ((0 : Int) ≤ z.n (100041 : Nat) ∧ z.n (100041 : Nat) ≤ (63 : Int)) ∧ ((0 : Int) ≤ z.n (100042 : Nat) ∧
      z.n (100042 : Nat) ≤ (16777216 : Int)) ∧ ((0 : Int) ≤ z.n (100043 : Nat) ∧ z.n (100043 : Nat) ≤ (3 : Int)) ∧ ((0 : Int) ≤ z.n (100044 : Nat) ∧ z.n (100044 : Nat) ≤ (15 :
      Int)) ∧ ((0 : Int) ≤ z.n (100047 : Nat) ∧ z.n (100047 : Nat) ≤ (15 : Int)) ∧ ((0 : Int) ≤ z.n (100050 : Nat) ∧ z.n (100050 : Nat) ≤ (7 : Int)) ∧ ((0 : Int) ≤ z.n (100086 :
      Nat) ∧ z.n (100086 : Nat) ≤ (1 : Int)) ∧ ((0 : Int) ≤ z.n (100088 : Nat) ∧ z.n (100088 : Nat) ≤ (4 : Int)) ∧ ((0 : Int) ≤ z.n (100092 : Nat) ∧ z.n (100092 : Nat) ≤ (15 :
      Int)) ∧ ((0 : Int) ≤ z.n (100093 : Nat) ∧ z.n (100093 : Nat) ≤ (7 : Int)) ∧ True) ∧ S = S) ∧ KS.mk (z.n (100000 : Nat)) (z.n (100002 : Nat)) (z.n (100014 : Nat)) (z.n
      (100008 : Nat)) (z.n (100020 : Nat)) (z.n (100051 : Nat)) (z.b (100001 : Nat)) (z.b (100013 : Nat)) (z.b (100025 : Nat)) (z.b (100037 : Nat)) (z.b (100003 : Nat)) (z.b
      (100015 : Nat)) = KS.mk (z.n (100000 : Nat)) (z.n (100002 : Nat)) (z.n (100014 : Nat)) (z.n (100008 : Nat)) (z.n (100020 : Nat)) (z.n (100051 : Nat)) (z.b (100001 : Nat))
      (z.b (100013 : Nat)) (z.b (100025 : Nat)) (z.b (100037 : Nat)) (z.b (100003 : Nat)) (z.b (100015 : Nat)))))) := by kernel_rfl
theorem swe1_c (E : World) (M : Bl) (S : SW)  (z : PX) (hz : rgM z (uM M) 0) (hp : (fun _ => True) z) : HC (pe E) 28 [.c (.p 1 13)] (uM M) S (.t []) (fun z y => (KS.mk (y.n 100000) (y.n 100002) (y.n 100014) (y.n 100008) (y.n 100020) (y.n 100051) (y.b 100001) (y.b 100013) (y.b 100025) (y.b 100037) (y.b 100003) (y.b 100015)) = (KS.mk (z.n 100000) (z.n 100002) (z.n 100014) (z.n 100008) (z.n 100020) (z.n 100051) (z.b 100001) (z.b 100013) (z.b 100025) (z.b 100037) (z.b 100003) (z.b 100015))) z := by
  refine HC.mk false (by rfl) (by rfl) (by rfl) (by rfl) (fnTree_sound (P := pe E) orcA_ok tab_ok tab_sz mixed 20000 Try.func28 (by decide) [.c (.p 1 13)] _) ⟨?_⟩
  rw [swe1_p]
  obtain ⟨h0, h4, h5, h6, h7, h8, h11, h16, h17, h18, h19, h20, h23, h28, h29, h30, h31, h32, h35, h40, h41, h42, h43, h44, h47, h50, h86, h88, h92, h93, _⟩ := rg_u hz
  (repeat' (first | assumption | exact trivial | exact rfl | apply And.intro | intro _)) <;> first | omega | (simp_all [sh0, sh1, off2, off3, swz]; done) | ((try simp only [wi64, wu16, Bool.not_eq_true', Bool.not_eq_false', Bool.and_eq_true, Bool.or_eq_true, beq_iff_eq, bne_iff_ne, ne_eq, beq_eq_false_iff_ne, bne_eq_false_iff_eq, decide_eq_true_eq, decide_eq_false_iff_not] at *) <;> (repeat' split) <;> omega)
theorem swe3_p (E : World) (M : Bl) (S : SW) (z : PX)  :
    (hoP false (uM M) S (.t []) (fun z y => (KS.mk (y.n 100000) (y.n 100002) (y.n 100014) (y.n 100008) (y.n 100020) (y.n 100051) (y.b 100001) (y.b 100013) (y.b 100025) (y.b 100037) (y.b 100003) (y.b 100015)) = (KS.mk (z.n 100000) (z.n 100002) (z.n 100014) (z.n 100008) (z.n 100020) (z.n 100051) (z.b 100001) (z.b 100013) (z.b 100025) (z.b 100037) (z.b 100003) (z.b 100015))) z (fnTree (pe E) (orcA E) (tabL fns) 20000 Try.f28 [.c (.p 1 37)] (mkM z S (uM M) 0))) =
    (((bif !z.b (100037 : Nat) then true else z.n (100046 : Nat) == (0 : Int)) = true → True ∧ (M = M ∧ (50 : Nat) = (50 : Nat) ∧ (RG z) ∧ S = S) ∧ KS.mk (z.n (100000 : Nat))
      (z.n (100002 : Nat)) (z.n (100014 : Nat)) (z.n (100008 : Nat)) (z.n (100020 : Nat)) (z.n (100051 : Nat)) (z.b (100001 : Nat)) (z.b (100013 : Nat)) (z.b (100025 : Nat))
      (z.b (100037 : Nat)) (z.b (100003 : Nat)) (z.b (100015 : Nat)) = KS.mk (z.n (100000 : Nat)) (z.n (100002 : Nat)) (z.n (100014 : Nat)) (z.n (100008 : Nat)) (z.n (100020 :
      Nat)) (z.n (100051 : Nat)) (z.b (100001 : Nat)) (z.b (100013 : Nat)) (z.b (100025 : Nat)) (z.b (100037 : Nat)) (z.b (100003 : Nat)) (z.b (100015 : Nat))) ∧ ((bif !z.b
      (100037 : Nat) then true else z.n (100046 : Nat) == (0 : Int)) = false → ((IntKind.i64.wrap (z.n (100048 : Nat) - (1 : Int)) != (0 : Int)) = true → True ∧ (M = M ∧ (50 :
      Nat) = (50 : Nat) ∧ (RG z) ∧ S = S) ∧ KS.mk (z.n (100000 : Nat)) (z.n (100002 : Nat)) (z.n (100014 : Nat)) (z.n (100008 : Nat)) (z.n (100020 : Nat)) (z.n (100051 : Nat))
      (z.b (100001 : Nat)) (z.b (100013 : Nat)) (z.b (100025 : Nat)) (z.b (100037 : Nat)) (z.b (100003 : Nat)) (z.b (100015 : Nat)) = KS.mk (z.n (100000 : Nat)) (z.n (100002 :
      Nat)) (z.n (100014 : Nat)) (z.n (100008 : Nat)) (z.n (100020 : Nat)) (z.n (100051 : Nat)) (z.b (100001 : Nat)) (z.b (100013 : Nat)) (z.b (100025 : Nat)) (z.b (100037 :
      Nat)) (z.b (100003 : Nat)) (z.b (100015 : Nat))) ∧ ((IntKind.i64.wrap (z.n (100048 : Nat) - (1 : Int)) != (0 : Int)) = false → (z.b (100045 : Nat) = true → True ∧ (M = M ∧
      (50 : Nat) = (50 : Nat) ∧ (((0 : Int) ≤ z.n (100000 : Nat) ∧ z.n (100000 : Nat) ≤ (2199023255552 : Int)) ∧ ((0 : Int) ≤ z.n (100004 : Nat) ∧ z.n (100004 : Nat) ≤ (2047 :
      Int)) ∧ ((0 : Int) ≤ z.n (100005 : Nat) ∧ z.n (100005 : Nat) ≤ (63 : Int)) ∧ ((0 : Int) ≤ z.n (100006 : Nat) ∧ z.n (100006 : Nat) ≤ (16777216 : Int)) ∧ ((0 : Int) ≤ z.n
      (100007 : Nat) ∧ z.n (100007 : Nat) ≤ (3 : Int)) ∧ ((0 : Int) ≤ z.n (100008 : Nat) ∧ z.n (100008 : Nat) ≤ (15 : Int)) ∧ ((0 : Int) ≤ z.n (100011 : Nat) ∧ z.n (100011 :
      Nat) ≤ (15 : Int)) ∧ ((0 : Int) ≤ z.n (100016 : Nat) ∧ z.n (100016 : Nat) ≤ (2047 : Int)) ∧ ((0 : Int) ≤ z.n (100017 : Nat) ∧ z.n (100017 : Nat) ≤ (63 : Int)) ∧ ((0 : Int)
      ≤ z.n (100018 : Nat) ∧ z.n (100018 : Nat) ≤ (16777216 : Int)) ∧ ((0 : Int) ≤ z.n (100019 : Nat) ∧ z.n (100019 : Nat) ≤ (3 : Int)) ∧ ((0 : Int) ≤ z.n (100020 : Nat) ∧ z.n
      (100020 : Nat) ≤ (15 : Int)) ∧ ((0 : Int) ≤ z.n (100023 : Nat) ∧ z.n (100023 : Nat) ≤ (15 : Int)) ∧ ((0 : Int) ≤ z.n (100028 : Nat) ∧ z.n (100028 : Nat) ≤ (2047 : Int)) ∧
      ((0 : Int) ≤ z.n (100029 : Nat) ∧ z.n (100029 : Nat) ≤ (63 : Int)) ∧ ((0 : Int) ≤ z.n (100030 : Nat) ∧ z.n (100030 : Nat) ≤ (16777216 : Int)) ∧ ((0 : Int) ≤ z.n (100031 :
      Nat) ∧ z.n (100031 : Nat) ≤ (3 : Int)) ∧ ((0 : Int) ≤ z.n (100032 : Nat) ∧ z.n (100032 : Nat) ≤ (15 : Int)) ∧ ((0 : Int) ≤ z.n (100035 : Nat) ∧ z.n (100035 : Nat) ≤ (15 :
      Int)) ∧ ((0 : Int) ≤ z.n (100040 : Nat) ∧ z.n (100040 : Nat) ≤ (2047 : Int)) ∧ ((0 : Int) ≤ z.n (100041 : Nat) ∧ z.n (100041 : Nat) ≤ (63 : Int)) ∧ ((0 : Int) ≤ z.n
      (100042 : Nat) ∧ z.n (100042 : Nat) ≤ (16777216 : Int)) ∧ ((0 : Int) ≤ z.n (100043 : Nat) ∧ z.n (100043 : Nat) ≤ (3 : Int)) ∧ ((0 : Int) ≤ z.n (100044 : Nat) ∧ z.n (100044
      : Nat) ≤ (15 : Int)) ∧ (((0 : Int) ≤ if (15 : Int) < IntKind.i64.wrap (z.n (100047 : Nat) + (1 : Int)) then (15 : Int) else IntKind.i64.wrap (z.n (100047 : Nat) + (1 :
      Int))) ∧ (if (15 : Int) < IntKind.i64.wrap (z.n (100047 : Nat) + (1 : Int)) then (15 : Int) else IntKind.i64.wrap (z.n (100047 : Nat) + (1 : Int))) ≤ (15 : Int)) ∧ ((0 :
      Int) ≤ z.n (100050 : Nat) ∧ z.n (100050 : Nat) ≤ (7 : Int)) ∧ ((0 : Int) ≤ z.n (100086 : Nat) ∧ z.n (100086 : Nat) ≤ (1 : Int)) ∧ ((0 : Int) ≤ z.n (100088 : Nat) ∧ z.n
      (100088 : Nat) ≤ (4 : Int)) ∧ ((0 : Int) ≤ z.n (100092 : Nat) ∧ z.n (100092 : Nat) ≤ (15 : Int)) ∧ ((0 : Int) ≤ z.n (100093 : Nat) ∧ z.n (100093 : Nat) ≤ (7 : Int)) ∧
      True) ∧ S = S) ∧ KS.mk (z.n (100000 : Nat)) (z.n (100002 : Nat)) (z.n (100014 : Nat)) (z.n (100008 : Nat)) (z.n (100020 : Nat)) (z.n (100051 : Nat)) (z.b (100001 : Nat))
      (z.b (100013 : Nat)) (z.b (100025 : Nat)) (z.b (100037 : Nat)) (z.b (100003 : Nat)) (z.b (100015 : Nat)) = KS.mk (z.n (100000 : Nat)) (z.n (100002 : Nat)) (z.n (100014 :
      Nat)) (z.n (100008 : Nat)) (z.n (100020 : Nat)) (z.n (100051 : Nat)) (z.b (100001 : Nat)) (z.b (100013 : Nat)) (z.b (100025 : Nat)) (z.b (100037 : Nat)) (z.b (100003 :
      Nat)) (z.b (100015 : Nat))) ∧ (z.b (100045 : Nat) = false → True ∧ (M = M ∧ (50 : Nat) = (50 : Nat) ∧ (((0 : Int) ≤ z.n (100000 : Nat) ∧ z.n (100000 : Nat) ≤
      (2199023255552 : Int)) ∧ ((0 : Int) ≤ z.n (100004 : Nat) ∧ z.n (100004 : Nat) ≤ (2047 : Int)) ∧ ((0 : Int) ≤ z.n (100005 : Nat) ∧ z.n (100005 : Nat) ≤ (63 : Int)) ∧ ((0 :
      Int) ≤ z.n (100006 : Nat) ∧ z.n (100006 : Nat) ≤ (16777216 : Int)) ∧ ((0 : Int) ≤ z.n (100007 : Nat) ∧ z.n (100007 : Nat) ≤ (3 : Int)) ∧ ((0 : Int) ≤ z.n (100008 : Nat) ∧
      z.n (100008 : Nat) ≤ (15 : Int)) ∧ ((0 : Int) ≤ z.n (100011 : Nat) ∧ z.n (100011 : Nat) ≤ (15 : Int)) ∧ ((0 : Int) ≤ z.n (100016 : Nat) ∧ z.n (100016 : Nat) ≤ (2047 :
      Int)) ∧ ((0 : Int) ≤ z.n (100017 : Nat) ∧ z.n (100017 : Nat) ≤ (63 : Int)) ∧ ((0 : Int) ≤ z.n (100018 : Nat) ∧ z.n (100018 : Nat) ≤ (16777216 : Int)) ∧ ((0 : Int) ≤ z.n
      (100019 : Nat) ∧ z.n (100019 : Nat) ≤ (3 : Int)) ∧ ((0 : Int) ≤ z.n (100020 : Nat) ∧ z.n (100020 : Nat) ≤ (15 : Int)) ∧ ((0 : Int) ≤ z.n (100023 : Nat) ∧ z.n (100023 :
      Nat) ≤ (15 : Int)) ∧ ((0 : Int) ≤ z.n (100028 : Nat) ∧ z.n (100028 : Nat) ≤ (2047 : Int)) ∧ ((0 : Int) ≤ z.n (100029 : Nat) ∧ z.n (100029 : Nat) ≤ (63 : Int)) ∧ ((0 : Int)
      ≤ z.n (100030 : Nat) ∧ z.n (100030 : Nat) ≤ (16777216 : Int)) ∧ ((0 : Int) ≤ z.n (100031 : Nat) ∧ z.n (100031 : Nat) ≤ (3 : Int)) ∧ ((0 : Int) ≤ z.n (100032 : Nat) ∧ z.n
      (100032 : Nat) ≤ (15 : Int)) ∧ ((0 : Int) ≤ z.n (100035 : Nat) ∧ z.n (100035 : Nat) ≤ (15 : Int)) ∧ ((0 : Int) ≤ z.n (100040 : Nat) ∧ z.n (100040 : Nat) ≤ (2047 : Int)) ∧
      ((0 : Int) ≤ z.n (100041 : Nat) ∧ z.n (100041 : Nat) ≤ (63 : Int)) ∧ ((0 : Int) ≤ z.n (100042 : Nat) ∧ z.n (100042 : Nat) ≤ (16777216 : Int)) ∧ ((0 : Int) ≤ z.n (100043 :
      Nat) ∧ z.n (100043 : Nat) ≤ (3 : Int)) ∧ ((0 : Int) ≤ z.n (100044 : Nat) ∧ z.n (100044 : Nat) ≤ (15 : Int)) ∧ (((0 : Int) ≤ if (0 : Int) > IntKind.i64.wrap (z.n (100047 :
      Nat) - (1 : Int)) then (0 : Int) else IntKind.i64.wrap (z.n (100047 : Nat) - (1 : Int))) ∧ (if (0 : Int) > IntKind.i64.wrap (z.n (100047 : Nat) - (1 : Int)) then (0 : Int)
      else IntKind.i64.wrap (z.n (100047 : Nat) - (1 : Int))) ≤ (15 : Int)) ∧ ((0 : Int) ≤ z.n (100050 : Nat) ∧ z.n (100050 : Nat) ≤ (7 : Int)) ∧ ((0 : Int) ≤ z.n (100086 : Nat)
      ∧ z.n (100086 : Nat) ≤ (1 : Int)) ∧ ((0 : Int) ≤ z.n (100088 : Nat) ∧ z.n (100088 : Nat) ≤ (4 : Int)) ∧ ((0 : Int) ≤ z.n (100092 : Nat) ∧ z.n (100092 : Nat) ≤ (15 : Int))
      ∧ ((0 : Int) ≤ z.n (100093 : Nat) ∧ z.n (100093 : Nat) ≤ (7 : Int)) ∧ True) ∧ S = S) ∧ KS.mk (z.n (100000 : Nat)) (z.n (100002 : Nat)) (z.n (100014 : Nat)) (z.n (100008 :
      Nat)) (z.n (100020 : Nat)) (z.n (100051 : Nat)) (z.b (100001 : Nat)) (z.b (100013 : Nat)) (z.b (100025 : Nat)) (z.b (100037 : Nat)) (z.b (100003 : Nat)) (z.b (100015 :
      Nat)) = KS.mk (z.n (100000 : Nat)) (z.n (100002 : Nat)) (z.n (100014 : Nat)) (z.n (100008 : Nat)) (z.n (100020 : Nat)) (z.n (100051 : Nat)) (z.b (100001 : Nat)) (z.b
      (100013 : Nat)) (z.b (100025 : Nat)) (z.b (100037 : Nat)) (z.b (100003 : Nat)) (z.b (100015 : Nat)))))) := by kernel_rfl
theorem swe3_c (E : World) (M : Bl) (S : SW)  (z : PX) (hz : rgM z (uM M) 0) (hp : (fun _ => True) z) : HC (pe E) 28 [.c (.p 1 37)] (uM M) S (.t []) (fun z y => (KS.mk (y.n 100000) (y.n 100002) (y.n 100014) (y.n 100008) (y.n 100020) (y.n 100051) (y.b 100001) (y.b 100013) (y.b 100025) (y.b 100037) (y.b 100003) (y.b 100015)) = (KS.mk (z.n 100000) (z.n 100002) (z.n 100014) (z.n 100008) (z.n 100020) (z.n 100051) (z.b 100001) (z.b 100013) (z.b 100025) (z.b 100037) (z.b 100003) (z.b 100015))) z := by
  refine HC.mk false (by rfl) (by rfl) (by rfl) (by rfl) (fnTree_sound (P := pe E) orcA_ok tab_ok tab_sz mixed 20000 Try.func28 (by decide) [.c (.p 1 37)] _) ⟨?_⟩
  rw [swe3_p]
  obtain ⟨h0, h4, h5, h6, h7, h8, h11, h16, h17, h18, h19, h20, h23, h28, h29, h30, h31, h32, h35, h40, h41, h42, h43, h44, h47, h50, h86, h88, h92, h93, _⟩ := rg_u hz
  (repeat' (first | assumption | exact trivial | exact rfl | apply And.intro | intro _)) <;> first | omega | (simp_all [sh0, sh1, off2, off3, swz]; done) | ((try simp only [wi64, wu16, Bool.not_eq_true', Bool.not_eq_false', Bool.and_eq_true, Bool.or_eq_true, beq_iff_eq, bne_iff_ne, ne_eq, beq_eq_false_iff_ne, bne_eq_false_iff_eq, decide_eq_true_eq, decide_eq_false_iff_not] at *) <;> (repeat' split) <;> omega)
theorem sli_p (E : World) (M : Bl) (S : SW) (z : PX)  :
    (hoP false (uM M) S (.t []) (fun z y => (KS.mk (y.n 100000) (y.n 100002) (y.n 100014) (y.n 100008) (y.n 100020) (y.n 100051) (y.b 100001) (y.b 100013) (y.b 100025) (y.b 100037) (y.b 100003) (y.b 100015)) = (KS.mk (z.n 100000) (z.n 100002) (z.n 100014) (z.n 100008) (z.n 100020) (z.n 100051) (z.b 100001) (z.b 100013) (z.b 100025) (z.b 100037) (z.b 100003) (z.b 100015))) z (fnTree (pe E) (orcA E) (tabL fns) 20000 Try.f27 [.c (.p 1 0)] (mkM z S (uM M) 0))) =
    (((bif !z.b (100001 : Nat) then true else z.n (100051 : Nat) == (0 : Int)) = true → True ∧ (M = M ∧ (50 : Nat) = (50 : Nat) ∧ (RG z) ∧ S = S) ∧ KS.mk (z.n (100000 : Nat))
      (z.n (100002 : Nat)) (z.n (100014 : Nat)) (z.n (100008 : Nat)) (z.n (100020 : Nat)) (z.n (100051 : Nat)) (z.b (100001 : Nat)) (z.b (100013 : Nat)) (z.b (100025 : Nat))
      (z.b (100037 : Nat)) (z.b (100003 : Nat)) (z.b (100015 : Nat)) = KS.mk (z.n (100000 : Nat)) (z.n (100002 : Nat)) (z.n (100014 : Nat)) (z.n (100008 : Nat)) (z.n (100020 :
      Nat)) (z.n (100051 : Nat)) (z.b (100001 : Nat)) (z.b (100013 : Nat)) (z.b (100025 : Nat)) (z.b (100037 : Nat)) (z.b (100003 : Nat)) (z.b (100015 : Nat))) ∧ ((bif !z.b
      (100001 : Nat) then true else z.n (100051 : Nat) == (0 : Int)) = false → (decide (IntKind.i64.wrap (z.n (100053 : Nat) - (1 : Int)) > (0 : Int)) = true → True ∧ (M = M ∧
      (50 : Nat) = (50 : Nat) ∧ (RG z) ∧ S = S) ∧ KS.mk (z.n (100000 : Nat)) (z.n (100002 : Nat)) (z.n (100014 : Nat)) (z.n (100008 : Nat)) (z.n (100020 : Nat)) (z.n (100051 :
      Nat)) (z.b (100001 : Nat)) (z.b (100013 : Nat)) (z.b (100025 : Nat)) (z.b (100037 : Nat)) (z.b (100003 : Nat)) (z.b (100015 : Nat)) = KS.mk (z.n (100000 : Nat)) (z.n
      (100002 : Nat)) (z.n (100014 : Nat)) (z.n (100008 : Nat)) (z.n (100020 : Nat)) (z.n (100051 : Nat)) (z.b (100001 : Nat)) (z.b (100013 : Nat)) (z.b (100025 : Nat)) (z.b
      (100037 : Nat)) (z.b (100003 : Nat)) (z.b (100015 : Nat))) ∧ (decide (IntKind.i64.wrap (z.n (100053 : Nat) - (1 : Int)) > (0 : Int)) = false → decide ((0 : Int) ≤ z.n
      (100050 : Nat)) = true ∧ (decide (IntKind.i64.wrap (z.n (100004 : Nat) + bif z.b (100052 : Nat) then IntKind.i64.wrap ((0 : Int) - (z.n (100004 : Nat)).fdiv ((2 : Int) ^
      min (z.n (100050 : Nat)).toNat (64 : Nat))) else (z.n (100004 : Nat)).fdiv ((2 : Int) ^ min (z.n (100050 : Nat)).toNat (64 : Nat))) > (2047 : Int)) = true → True ∧ (M = M
      ∧ (50 : Nat) = (50 : Nat) ∧ (RG z) ∧ S = S) ∧ KS.mk (z.n (100000 : Nat)) (z.n (100002 : Nat)) (z.n (100014 : Nat)) (z.n (100008 : Nat)) (z.n (100020 : Nat)) (z.n (100051 :
      Nat)) false (z.b (100013 : Nat)) (z.b (100025 : Nat)) (z.b (100037 : Nat)) (z.b (100003 : Nat)) (z.b (100015 : Nat)) = KS.mk (z.n (100000 : Nat)) (z.n (100002 : Nat)) (z.n
      (100014 : Nat)) (z.n (100008 : Nat)) (z.n (100020 : Nat)) (z.n (100051 : Nat)) (z.b (100001 : Nat)) (z.b (100013 : Nat)) (z.b (100025 : Nat)) (z.b (100037 : Nat)) (z.b
      (100003 : Nat)) (z.b (100015 : Nat))) ∧ (decide (IntKind.i64.wrap (z.n (100004 : Nat) + bif z.b (100052 : Nat) then IntKind.i64.wrap ((0 : Int) - (z.n (100004 : Nat)).fdiv
      ((2 : Int) ^ min (z.n (100050 : Nat)).toNat (64 : Nat))) else (z.n (100004 : Nat)).fdiv ((2 : Int) ^ min (z.n (100050 : Nat)).toNat (64 : Nat))) > (2047 : Int)) = false →
      ((z.n (100050 : Nat) != (0 : Int)) = true → True ∧ (M = M ∧ (50 : Nat) = (50 : Nat) ∧ (((0 : Int) ≤ z.n (100000 : Nat) ∧ z.n (100000 : Nat) ≤ (2199023255552 : Int)) ∧ ((0
      : Int) ≤ IntKind.i64.wrap (z.n (100004 : Nat) + bif z.b (100052 : Nat) then IntKind.i64.wrap ((0 : Int) - (z.n (100004 : Nat)).fdiv ((2 : Int) ^ min (z.n (100050 :
      Nat)).toNat (64 : Nat))) else (z.n (100004 : Nat)).fdiv ((2 : Int) ^ min (z.n (100050 : Nat)).toNat (64 : Nat))) ∧ IntKind.i64.wrap (z.n (100004 : Nat) + bif z.b (100052 :
      Nat) then IntKind.i64.wrap ((0 : Int) - (z.n (100004 : Nat)).fdiv ((2 : Int) ^ min (z.n (100050 : Nat)).toNat (64 : Nat))) else (z.n (100004 : Nat)).fdiv ((2 : Int) ^ min
      (z.n (100050 : Nat)).toNat (64 : Nat))) ≤ (2047 : Int)) ∧ ((0 : Int) ≤ z.n (100005 : Nat) ∧ z.n (100005 : Nat) ≤ (63 : Int)) ∧ ((0 : Int) ≤ z.n (100006 : Nat) ∧ z.n
      (100006 : Nat) ≤ (16777216 : Int)) ∧ ((0 : Int) ≤ z.n (100007 : Nat) ∧ z.n (100007 : Nat) ≤ (3 : Int)) ∧ ((0 : Int) ≤ z.n (100008 : Nat) ∧ z.n (100008 : Nat) ≤ (15 : Int))
      ∧ ((0 : Int) ≤ z.n (100011 : Nat) ∧ z.n (100011 : Nat) ≤ (15 : Int)) ∧ ((0 : Int) ≤ z.n (100016 : Nat) ∧ z.n (100016 : Nat) ≤ (2047 : Int)) ∧ ((0 : Int) ≤ z.n (100017 :
      Nat) ∧ z.n (100017 : Nat) ≤ (63 : Int)) ∧ ((0 : Int) ≤ z.n (100018 : Nat) ∧ z.n (100018 : Nat) ≤ (16777216 : Int)) ∧ ((0 : Int) ≤ z.n (100019 : Nat) ∧ z.n (100019 : Nat) ≤
      (3 : Int)) ∧ ((0 : Int) ≤ z.n (100020 : Nat) ∧ z.n (100020 : Nat) ≤ (15 : Int)) ∧ ((0 : Int) ≤ z.n (100023 : Nat) ∧ z.n (100023 : Nat) ≤ (15 : Int)) ∧ ((0 : Int) ≤ z.n
      (100028 : Nat) ∧ z.n (100028 : Nat) ≤ (2047 : Int)) ∧ ((0 : Int) ≤ z.n (100029 : Nat) ∧ z.n (100029 : Nat) ≤ (63 : Int)) ∧ ((0 : Int) ≤ z.n (100030 : Nat) ∧ z.n (100030 :
      Nat) ≤ (16777216 : Int)) ∧ ((0 : Int) ≤ z.n (100031 : Nat) ∧ z.n (100031 : Nat) ≤ (3 : Int)) ∧ ((0 : Int) ≤ z.n (100032 : Nat) ∧ z.n (100032 : Nat) ≤ (15 : Int)) ∧ ((0 :
      Int) ≤ z.n (100035 : Nat) ∧ z.n (100035 : Nat) ≤ (15 : Int)) ∧ ((0 : Int) ≤ z.n (100040 : Nat) ∧ z.n (100040 : Nat) ≤ (2047 : Int)) ∧ ((0 : Int) ≤ z.n (100041 : Nat) ∧ z.n
      (100041 : Nat) ≤ (63 : Int)) ∧ ((0 : Int) ≤ z.n (100042 : Nat) ∧ z.n (100042 : Nat) ≤ (16777216 : Int)) ∧ ((0 : Int) ≤ z.n (100043 : Nat) ∧ z.n (100043 : Nat) ≤ (3 : Int))
      ∧ ((0 : Int) ≤ z.n (100044 : Nat) ∧ z.n (100044 : Nat) ≤ (15 : Int)) ∧ ((0 : Int) ≤ z.n (100047 : Nat) ∧ z.n (100047 : Nat) ≤ (15 : Int)) ∧ ((0 : Int) ≤ z.n (100050 : Nat)
      ∧ z.n (100050 : Nat) ≤ (7 : Int)) ∧ ((0 : Int) ≤ z.n (100086 : Nat) ∧ z.n (100086 : Nat) ≤ (1 : Int)) ∧ ((0 : Int) ≤ z.n (100088 : Nat) ∧ z.n (100088 : Nat) ≤ (4 : Int)) ∧
      ((0 : Int) ≤ z.n (100092 : Nat) ∧ z.n (100092 : Nat) ≤ (15 : Int)) ∧ ((0 : Int) ≤ z.n (100093 : Nat) ∧ z.n (100093 : Nat) ≤ (7 : Int)) ∧ True) ∧ S = S) ∧ KS.mk (z.n
      (100000 : Nat)) (z.n (100002 : Nat)) (z.n (100014 : Nat)) (z.n (100008 : Nat)) (z.n (100020 : Nat)) (z.n (100051 : Nat)) (z.b (100001 : Nat)) (z.b (100013 : Nat)) (z.b
      (100025 : Nat)) (z.b (100037 : Nat)) (z.b (100003 : Nat)) (z.b (100015 : Nat)) = KS.mk (z.n (100000 : Nat)) (z.n (100002 : Nat)) (z.n (100014 : Nat)) (z.n (100008 : Nat))
      (z.n (100020 : Nat)) (z.n (100051 : Nat)) (z.b (100001 : Nat)) (z.b (100013 : Nat)) (z.b (100025 : Nat)) (z.b (100037 : Nat)) (z.b (100003 : Nat)) (z.b (100015 : Nat))) ∧
      ((z.n (100050 : Nat) != (0 : Int)) = false → True ∧ (M = M ∧ (50 : Nat) = (50 : Nat) ∧ (RG z) ∧ S = S) ∧ KS.mk (z.n (100000 : Nat)) (z.n (100002 : Nat)) (z.n (100014 :
      Nat)) (z.n (100008 : Nat)) (z.n (100020 : Nat)) (z.n (100051 : Nat)) (z.b (100001 : Nat)) (z.b (100013 : Nat)) (z.b (100025 : Nat)) (z.b (100037 : Nat)) (z.b (100003 :
      Nat)) (z.b (100015 : Nat)) = KS.mk (z.n (100000 : Nat)) (z.n (100002 : Nat)) (z.n (100014 : Nat)) (z.n (100008 : Nat)) (z.n (100020 : Nat)) (z.n (100051 : Nat)) (z.b
      (100001 : Nat)) (z.b (100013 : Nat)) (z.b (100025 : Nat)) (z.b (100037 : Nat)) (z.b (100003 : Nat)) (z.b (100015 : Nat))))))) := by kernel_rfl
theorem sli_c (E : World) (M : Bl) (S : SW)  (z : PX) (hz : rgM z (uM M) 0) (hp : (fun z => swz (KS.mk (z.n 100000) (z.n 100002) (z.n 100014) (z.n 100008) (z.n 100020) (z.n 100051) (z.b 100001) (z.b 100013) (z.b 100025) (z.b 100037) (z.b 100003) (z.b 100015))) z) : HC (pe E) 27 [.c (.p 1 0)] (uM M) S (.t []) (fun z y => (KS.mk (y.n 100000) (y.n 100002) (y.n 100014) (y.n 100008) (y.n 100020) (y.n 100051) (y.b 100001) (y.b 100013) (y.b 100025) (y.b 100037) (y.b 100003) (y.b 100015)) = (KS.mk (z.n 100000) (z.n 100002) (z.n 100014) (z.n 100008) (z.n 100020) (z.n 100051) (z.b 100001) (z.b 100013) (z.b 100025) (z.b 100037) (z.b 100003) (z.b 100015))) z := by
  refine HC.mk false (by rfl) (by rfl) (by rfl) (by rfl) (fnTree_sound (P := pe E) orcA_ok tab_ok tab_sz mixed 20000 Try.func27 (by decide) [.c (.p 1 0)] _) ⟨?_⟩
  rw [sli_p]
  obtain ⟨h0, h4, h5, h6, h7, h8, h11, h16, h17, h18, h19, h20, h23, h28, h29, h30, h31, h32, h35, h40, h41, h42, h43, h44, h47, h50, h86, h88, h92, h93, _⟩ := rg_u hz
  have h0 : (z.n 100051 == 0) = true := by have hp : z.n 100051 = 0 := hp; simp; exact hp
  have hs := fdiv_bd (z.n 100004) (min (z.n 100050).toNat 64) h4.1
  generalize (z.n 100004).fdiv (2 ^ min (z.n 100050).toNat 64) = c at hs ⊢
  (try simp only [h0, cond_true, Bool.true_eq_false, false_implies, true_implies, and_true, true_and])
  (repeat' (first | assumption | exact trivial | exact rfl | apply And.intro | intro _)) <;> first | omega | (simp_all [sh0, sh1, off2, off3, swz]; done) | ((try simp only [wi64, wu16, Bool.not_eq_true', Bool.not_eq_false', Bool.and_eq_true, Bool.or_eq_true, beq_iff_eq, bne_iff_ne, ne_eq, beq_eq_false_iff_ne, bne_eq_false_iff_eq, decide_eq_true_eq, decide_eq_false_iff_not] at *) <;> (repeat' split) <;> omega)
noncomputable def orcB (E : World) : Orc := fun g vs s => match g, vs, s with
  | 26, [.c (.p 1 1)], M :: B :: S => some (hoT (pre := fun _ => True) (fun z => sho0_c E M S  z) (by rfl) (M :: B :: S))
  | 26, [.c (.p 1 13)], M :: B :: S => some (hoT (pre := fun _ => True) (fun z => sho1_c E M S  z) (by rfl) (M :: B :: S))
  | 26, [.c (.p 1 25)], M :: B :: S => some (hoT (pre := fun z => off2 (KS.mk (z.n 100000) (z.n 100002) (z.n 100014) (z.n 100008) (z.n 100020) (z.n 100051) (z.b 100001) (z.b 100013) (z.b 100025) (z.b 100037) (z.b 100003) (z.b 100015))) (fun z => sho2_c E M S  z) (by rfl) (M :: B :: S))
  | 26, [.c (.p 1 37)], M :: B :: S => some (hoT (pre := fun z => off3 (KS.mk (z.n 100000) (z.n 100002) (z.n 100014) (z.n 100008) (z.n 100020) (z.n 100051) (z.b 100001) (z.b 100013) (z.b 100025) (z.b 100037) (z.b 100003) (z.b 100015))) (fun z => sho3_c E M S  z) (by rfl) (M :: B :: S))
  | 28, [.c (.p 1 1)], M :: B :: S => some (hoT (pre := fun _ => True) (fun z => swe0_c E M S  z) (by rfl) (M :: B :: S))
  | 28, [.c (.p 1 13)], M :: B :: S => some (hoT (pre := fun _ => True) (fun z => swe1_c E M S  z) (by rfl) (M :: B :: S))
  | 28, [.c (.p 1 37)], M :: B :: S => some (hoT (pre := fun _ => True) (fun z => swe3_c E M S  z) (by rfl) (M :: B :: S))
  | 27, [.c (.p 1 0)], M :: B :: S => some (hoT (pre := fun z => swz (KS.mk (z.n 100000) (z.n 100002) (z.n 100014) (z.n 100008) (z.n 100020) (z.n 100051) (z.b 100001) (z.b 100013) (z.b 100025) (z.b 100037) (z.b 100003) (z.b 100015))) (fun z => sli_c E M S  z) (by rfl) (M :: B :: S))
  | g, vs, s => (orcA E) g vs s
theorem orcB_ok {E : World} : OrcOK (pe E) (orcB E) := by
  intro g vs s t h
  unfold orcB at h
  split at h
  · cases h; refine CallTree.args ?_ (hoT_ok _ _ _ (by first | rfl | (simp only [List.length_cons, List.length_nil, uM]; omega))); simp [simL, SV.sim, C.sim]
  · cases h; refine CallTree.args ?_ (hoT_ok _ _ _ (by first | rfl | (simp only [List.length_cons, List.length_nil, uM]; omega))); simp [simL, SV.sim, C.sim]
  · cases h; refine CallTree.args ?_ (hoT_ok _ _ _ (by first | rfl | (simp only [List.length_cons, List.length_nil, uM]; omega))); simp [simL, SV.sim, C.sim]
  · cases h; refine CallTree.args ?_ (hoT_ok _ _ _ (by first | rfl | (simp only [List.length_cons, List.length_nil, uM]; omega))); simp [simL, SV.sim, C.sim]
  · cases h; refine CallTree.args ?_ (hoT_ok _ _ _ (by first | rfl | (simp only [List.length_cons, List.length_nil, uM]; omega))); simp [simL, SV.sim, C.sim]
  · cases h; refine CallTree.args ?_ (hoT_ok _ _ _ (by first | rfl | (simp only [List.length_cons, List.length_nil, uM]; omega))); simp [simL, SV.sim, C.sim]
  · cases h; refine CallTree.args ?_ (hoT_ok _ _ _ (by first | rfl | (simp only [List.length_cons, List.length_nil, uM]; omega))); simp [simL, SV.sim, C.sim]
  · cases h; refine CallTree.args ?_ (hoT_ok _ _ _ (by first | rfl | (simp only [List.length_cons, List.length_nil, uM]; omega))); simp [simL, SV.sim, C.sim]
  · exact orcA_ok _ _ _ _ h
end Go.Proofs.Ytcegofobcjimlaa

