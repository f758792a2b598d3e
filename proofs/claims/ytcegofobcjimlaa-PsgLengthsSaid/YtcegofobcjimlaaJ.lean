import Derived.Test.YtcegofobcjimlaaI
set_option linter.unusedVariables false
set_option linter.unusedSimpArgs false
namespace Go.Proofs.Ytcegofobcjimlaa
open Go Go.Proofs Go.Proofs.Ytcegofobcjimlaa.Ev Go.Proofs.Ytcegofobcjimlaa.Ev.Ho
set_option maxRecDepth 100000

def usp2 : List Sp := [.r .i64 0 2199023255552, .b, .i .i64, .b, .r .i64 0 2047, .r .i64 0 63, .i .i64, .r .i64 0 3, .r .i64 0 15, .b, .i .i64, .r .i64 0 15, .i .i64, .b, .i .i64, .b, .r .i64 0 2047, .r .i64 0 63, .i .i64, .r .i64 0 3, .r .i64 0 15, .b, .i .i64, .r .i64 0 15, .i .i64, .b, .i .i64, .b, .r .i64 0 2047, .r .i64 0 63, .i .i64, .r .i64 0 3, .r .i64 0 15, .b, .i .i64, .r .i64 0 15, .i .i64, .b, .i .i64, .b, .r .i64 0 2047, .r .i64 0 63, .i .i64, .r .i64 0 3, .r .i64 0 15, .b, .i .i64, .r .i64 0 15, .i .i64, .c (.mp 0), .r .i64 0 7, .i .i64, .b, .i .i64, .i .u8, .i .u8, .i .u8, .i .u8, .i .u8, .i .u8, .i .u8, .i .u8, .i .u8, .i .u8, .i .u8, .i .u8, .i .u8, .i .u8, .i .u8, .i .u8, .i .u8, .i .u8, .i .u8, .i .u8, .i .u8, .i .u8, .i .u8, .i .u8, .i .u8, .i .u8, .i .u8, .i .u8, .i .u8, .i .u8, .i .u8, .i .u8, .r .i64 0 1, .b, .r .i64 0 4, .b, .i .u16, .b, .r .i64 0 15, .r .i64 0 7]
def uM2 (M : Bl) : List MB := [.f M, .o usp2 50]
theorem rg_u2 {M : Bl} {z : PX} (h : rgM z (uM2 M) 0) : (0 ≤ z.n 100000 ∧ z.n 100000 ≤ 2199023255552) ∧ (0 ≤ z.n 100004 ∧ z.n 100004 ≤ 2047) ∧ (0 ≤ z.n 100005 ∧ z.n 100005 ≤ 63) ∧ (0 ≤ z.n 100007 ∧ z.n 100007 ≤ 3) ∧ (0 ≤ z.n 100008 ∧ z.n 100008 ≤ 15) ∧ (0 ≤ z.n 100011 ∧ z.n 100011 ≤ 15) ∧ (0 ≤ z.n 100016 ∧ z.n 100016 ≤ 2047) ∧ (0 ≤ z.n 100017 ∧ z.n 100017 ≤ 63) ∧ (0 ≤ z.n 100019 ∧ z.n 100019 ≤ 3) ∧ (0 ≤ z.n 100020 ∧ z.n 100020 ≤ 15) ∧ (0 ≤ z.n 100023 ∧ z.n 100023 ≤ 15) ∧ (0 ≤ z.n 100028 ∧ z.n 100028 ≤ 2047) ∧ (0 ≤ z.n 100029 ∧ z.n 100029 ≤ 63) ∧ (0 ≤ z.n 100031 ∧ z.n 100031 ≤ 3) ∧ (0 ≤ z.n 100032 ∧ z.n 100032 ≤ 15) ∧ (0 ≤ z.n 100035 ∧ z.n 100035 ≤ 15) ∧ (0 ≤ z.n 100040 ∧ z.n 100040 ≤ 2047) ∧ (0 ≤ z.n 100041 ∧ z.n 100041 ≤ 63) ∧ (0 ≤ z.n 100043 ∧ z.n 100043 ≤ 3) ∧ (0 ≤ z.n 100044 ∧ z.n 100044 ≤ 15) ∧ (0 ≤ z.n 100047 ∧ z.n 100047 ≤ 15) ∧ (0 ≤ z.n 100050 ∧ z.n 100050 ≤ 7) ∧ (0 ≤ z.n 100086 ∧ z.n 100086 ≤ 1) ∧ (0 ≤ z.n 100088 ∧ z.n 100088 ≤ 4) ∧ (0 ≤ z.n 100092 ∧ z.n 100092 ≤ 15) ∧ (0 ≤ z.n 100093 ∧ z.n 100093 ≤ 7) ∧ True := h.1
theorem pow15 (s : Int) (h0 : 0 ≤ s) (h1 : s ≤ 15) : (2 : Int) ^ min s.toNat 64 = 1 ∨ (2 : Int) ^ min s.toNat 64 = 2 ∨ (2 : Int) ^ min s.toNat 64 = 4 ∨ (2 : Int) ^ min s.toNat 64 = 8 ∨ (2 : Int) ^ min s.toNat 64 = 16 ∨ (2 : Int) ^ min s.toNat 64 = 32 ∨ (2 : Int) ^ min s.toNat 64 = 64 ∨ (2 : Int) ^ min s.toNat 64 = 128 ∨ (2 : Int) ^ min s.toNat 64 = 256 ∨ (2 : Int) ^ min s.toNat 64 = 512 ∨ (2 : Int) ^ min s.toNat 64 = 1024 ∨ (2 : Int) ^ min s.toNat 64 = 2048 ∨ (2 : Int) ^ min s.toNat 64 = 4096 ∨ (2 : Int) ^ min s.toNat 64 = 8192 ∨ (2 : Int) ^ min s.toNat 64 = 16384 ∨ (2 : Int) ^ min s.toNat 64 = 32768 := by
  have : s = 0 ∨ s = 1 ∨ s = 2 ∨ s = 3 ∨ s = 4 ∨ s = 5 ∨ s = 6 ∨ s = 7 ∨ s = 8 ∨ s = 9 ∨ s = 10 ∨ s = 11 ∨ s = 12 ∨ s = 13 ∨ s = 14 ∨ s = 15 := by omega
  rcases this with rfl | rfl | rfl | rfl | rfl | rfl | rfl | rfl | rfl | rfl | rfl | rfl | rfl | rfl | rfl | rfl <;> decide
noncomputable def turn_td (E : World) : List Item := headOf (run (pe E) (orcB E) (tabL fns) 20000 (2 ^ 200 - 1) [.code (Try.f22.body.getD .skip)] ⟨Try.f22.ntmps, mkFrGo (Tr.mk 12) 0 [.c (.p 1 0), .c (.i true .i64 0)]⟩ (mkM default [] (uM ⟨[], 0⟩) 0))
noncomputable def turn_hs (E : World) (M : Bl) (S : SW) (z : PX) (k : Int) : List Head := [⟨3, anyK, (turn_td E), [(0, .c (.p 1 0)), (11, .r .i64 (-9223372036854775808) (8000000)), (12, .r .i64 (0) (8000000))], (uM M), fun y => (KS.mk (y.n 100000) (y.n 100002) (y.n 100014) (y.n 100008) (y.n 100020) (y.n 100051) (y.b 100001) (y.b 100013) (y.b 100025) (y.b 100037) (y.b 100003) (y.b 100015)) = (KS.mk (z.n 100000) (z.n 100002) (z.n 100014) (z.n 100008) (z.n 100020) (z.n 100051) (z.b 100001) (z.b 100013) (z.b 100025) (z.b 100037) (z.b 100003) (z.b 100015)), fun y => (y.n 91011 - y.n 91012).toNat⟩]
theorem turn_pro (E : World) (M : Bl) (S : SW) (z : PX) (k : Int) :
    (loopP (pe E) Try.f22 (endP false (uM M) S (.t []) (fun z y => (KS.mk (y.n 100000) (y.n 100002) (y.n 100014) (y.n 100008) (y.n 100020) (y.n 100051) (y.b 100001) (y.b 100013) (y.b 100025) (y.b 100037) (y.b 100003) (y.b 100015)) = (KS.mk (z.n 100000) (z.n 100002) (z.n 100014) (z.n 100008) (z.n 100020) (z.n 100051) (z.b 100001) (z.b 100013) (z.b 100025) (z.b 100037) (z.b 100003) (z.b 100015))) z) (headP false S Try.f22.ntmps none (turn_hs E M S z k)) (run (pe E) (orcB E) (tabL fns) 20000 (2 ^ 200 - 1) [.code (Try.f22.body.getD .skip)] ⟨Try.f22.ntmps, mkFrGo (Tr.mk 12) 0 [.c (.p 1 0), .c (.i false .i64 k)]⟩ (mkM z S (uM M) 0))) =
    (turn_td E = turn_td E ∧ (52 : Nat) = (52 : Nat) ∧ (True ∧ ((((-9223372036854775808 : Int) ≤ bif decide (k > (4161425 : Int)) then IntKind.i64.wrap ((16 : Int) +
      (IntKind.i64.wrap (k - (16 : Int))).tmod (4161409 : Int)) else k) ∧ (bif decide (k > (4161425 : Int)) then IntKind.i64.wrap ((16 : Int) + (IntKind.i64.wrap (k - (16 :
      Int))).tmod (4161409 : Int)) else k) ≤ (8000000 : Int)) ∧ True) ∧ (((0 : Int) ≤ (0 : Int) ∧ (0 : Int) ≤ (8000000 : Int)) ∧ True) ∧ True) ∧ (M = M ∧ (50 : Nat) = (50 : Nat)
      ∧ (RG z) ∧ S = S) ∧ KS.mk (z.n (100000 : Nat)) (z.n (100002 : Nat)) (z.n (100014 : Nat)) (z.n (100008 : Nat)) (z.n (100020 : Nat)) (z.n (100051 : Nat)) (z.b (100001 :
      Nat)) (z.b (100013 : Nat)) (z.b (100025 : Nat)) (z.b (100037 : Nat)) (z.b (100003 : Nat)) (z.b (100015 : Nat)) = KS.mk (z.n (100000 : Nat)) (z.n (100002 : Nat)) (z.n
      (100014 : Nat)) (z.n (100008 : Nat)) (z.n (100020 : Nat)) (z.n (100051 : Nat)) (z.b (100001 : Nat)) (z.b (100013 : Nat)) (z.b (100025 : Nat)) (z.b (100037 : Nat)) (z.b
      (100003 : Nat)) (z.b (100015 : Nat)) ∧ True) := by kernel_rfl
theorem turn_r0 (E : World) (M : Bl) (S : SW) (z : PX) (k : Int) (y : PX) :
    (loopP (pe E) Try.f22 (endP false (uM M) S (.t []) (fun z y => (KS.mk (y.n 100000) (y.n 100002) (y.n 100014) (y.n 100008) (y.n 100020) (y.n 100051) (y.b 100001) (y.b 100013) (y.b 100025) (y.b 100037) (y.b 100003) (y.b 100015)) = (KS.mk (z.n 100000) (z.n 100002) (z.n 100014) (z.n 100008) (z.n 100020) (z.n 100051) (z.b 100001) (z.b 100013) (z.b 100025) (z.b 100037) (z.b 100003) (z.b 100015))) z) (headP false S Try.f22.ntmps (some ((fun y => (y.n 91011 - y.n 91012).toNat) y)) (turn_hs E M S z k))  (run (pe E) (orcB E) (tabL fns) 20000 (2 ^ 200 - 1) (turn_td E) (mkL Try.f22.ntmps (slC y [(0, .c (.p 1 0)), (11, .r .i64 (-9223372036854775808) (8000000)), (12, .r .i64 (0) (8000000))])) (mkM y S (uM M) 0))) =
    ((decide (y.n (91012 : Nat) < y.n (91011 : Nat)) = true → (y.b (100091 : Nat) = true → turn_td E = turn_td E ∧ (52 : Nat) = (52 : Nat) ∧ (True ∧ (((-9223372036854775808 :
      Int) ≤ y.n (91011 : Nat) ∧ y.n (91011 : Nat) ≤ (8000000 : Int)) ∧ True) ∧ (((0 : Int) ≤ IntKind.i64.wrap (y.n (91012 : Nat) + (1 : Int)) ∧ IntKind.i64.wrap (y.n (91012 :
      Nat) + (1 : Int)) ≤ (8000000 : Int)) ∧ True) ∧ True) ∧ (M = M ∧ (50 : Nat) = (50 : Nat) ∧ (RG y) ∧ S = S) ∧ KS.mk (y.n (100000 : Nat)) (y.n (100002 : Nat)) (y.n (100014 :
      Nat)) (y.n (100008 : Nat)) (y.n (100020 : Nat)) (y.n (100051 : Nat)) (y.b (100001 : Nat)) (y.b (100013 : Nat)) (y.b (100025 : Nat)) (y.b (100037 : Nat)) (y.b (100003 :
      Nat)) (y.b (100015 : Nat)) = KS.mk (z.n (100000 : Nat)) (z.n (100002 : Nat)) (z.n (100014 : Nat)) (z.n (100008 : Nat)) (z.n (100020 : Nat)) (z.n (100051 : Nat)) (z.b
      (100001 : Nat)) (z.b (100013 : Nat)) (z.b (100025 : Nat)) (z.b (100037 : Nat)) (z.b (100003 : Nat)) (z.b (100015 : Nat)) ∧ (y.n (91011 : Nat) - IntKind.i64.wrap (y.n
      (91012 : Nat) + (1 : Int))).toNat < (y.n (91011 : Nat) - y.n (91012 : Nat)).toNat ∧ True) ∧ (y.b (100091 : Nat) = false → turn_td E = turn_td E ∧ (52 : Nat) = (52 : Nat) ∧
      (True ∧ (((-9223372036854775808 : Int) ≤ y.n (91011 : Nat) ∧ y.n (91011 : Nat) ≤ (8000000 : Int)) ∧ True) ∧ (((0 : Int) ≤ IntKind.i64.wrap (y.n (91012 : Nat) + (1 : Int))
      ∧ IntKind.i64.wrap (y.n (91012 : Nat) + (1 : Int)) ≤ (8000000 : Int)) ∧ True) ∧ True) ∧ (M = M ∧ (50 : Nat) = (50 : Nat) ∧ (RG y) ∧ S = S) ∧ KS.mk (y.n (100000 : Nat))
      (y.n (100002 : Nat)) (y.n (100014 : Nat)) (y.n (100008 : Nat)) (y.n (100020 : Nat)) (y.n (100051 : Nat)) (y.b (100001 : Nat)) (y.b (100013 : Nat)) (y.b (100025 : Nat))
      (y.b (100037 : Nat)) (y.b (100003 : Nat)) (y.b (100015 : Nat)) = KS.mk (z.n (100000 : Nat)) (z.n (100002 : Nat)) (z.n (100014 : Nat)) (z.n (100008 : Nat)) (z.n (100020 :
      Nat)) (z.n (100051 : Nat)) (z.b (100001 : Nat)) (z.b (100013 : Nat)) (z.b (100025 : Nat)) (z.b (100037 : Nat)) (z.b (100003 : Nat)) (z.b (100015 : Nat)) ∧ (y.n (91011 :
      Nat) - IntKind.i64.wrap (y.n (91012 : Nat) + (1 : Int))).toNat < (y.n (91011 : Nat) - y.n (91012 : Nat)).toNat ∧ True)) ∧ (decide (y.n (91012 : Nat) < y.n (91011 : Nat)) =
      false → True ∧ (M = M ∧ (50 : Nat) = (50 : Nat) ∧ (RG y) ∧ S = S) ∧ KS.mk (y.n (100000 : Nat)) (y.n (100002 : Nat)) (y.n (100014 : Nat)) (y.n (100008 : Nat)) (y.n (100020
      : Nat)) (y.n (100051 : Nat)) (y.b (100001 : Nat)) (y.b (100013 : Nat)) (y.b (100025 : Nat)) (y.b (100037 : Nat)) (y.b (100003 : Nat)) (y.b (100015 : Nat)) = KS.mk (z.n
      (100000 : Nat)) (z.n (100002 : Nat)) (z.n (100014 : Nat)) (z.n (100008 : Nat)) (z.n (100020 : Nat)) (z.n (100051 : Nat)) (z.b (100001 : Nat)) (z.b (100013 : Nat)) (z.b
      (100025 : Nat)) (z.b (100037 : Nat)) (z.b (100003 : Nat)) (z.b (100015 : Nat)))) := by kernel_rfl
set_option maxHeartbeats 8000000 in
theorem turn_c (E : World) (M : Bl) (S : SW) (k : Int) (z : PX) (hz : rgM z (uM M) 0) (hp : (fun _ => -9223372036854775808 ≤ k ∧ k ≤ 9223372036854775807) z) : HC (pe E) 22 [.c (.p 1 0), .c (.i false .i64 k)] (uM M) S (.t []) (fun z y => (KS.mk (y.n 100000) (y.n 100002) (y.n 100014) (y.n 100008) (y.n 100020) (y.n 100051) (y.b 100001) (y.b 100013) (y.b 100025) (y.b 100037) (y.b 100003) (y.b 100015)) = (KS.mk (z.n 100000) (z.n 100002) (z.n 100014) (z.n 100008) (z.n 100020) (z.n 100051) (z.b 100001) (z.b 100013) (z.b 100025) (z.b 100037) (z.b 100003) (z.b 100015))) z := by
  refine HC.loop (P := pe E) orcB_ok tab_ok tab_sz mixed Try.func22 (c := Try.f22.body.getD .skip) rfl (by decide) (Nat.le_of_ble_eq_true rfl) false (by rfl) (by rfl) (by rfl) (by rfl) 20000 (2 ^ 200 - 1) (turn_hs E M S z k) (by rfl) ?_ (loopP_lfH ⟨?_⟩) ?_
  · intro h hmem
    simp only [turn_hs, List.mem_cons, List.not_mem_nil, or_false] at hmem
    rcases hmem with hmem
    all_goals (subst hmem; exact ⟨by rfl, Nat.le_of_ble_eq_true rfl, fun y hk => okSW_M (by rfl) hk⟩)
  · rw [turn_pro]
    obtain ⟨h0, h4, h5, h6, h7, h8, h11, h16, h17, h18, h19, h20, h23, h28, h29, h30, h31, h32, h35, h40, h41, h42, h43, h44, h47, h50, h86, h88, h92, h93, _⟩ := rg_u hz
    have hm : k > 4161425 → (IntKind.i64.wrap (k - 16)).tmod 4161409 = (k - 16) % 4161409 := fun h => by
      rw [wi64, show (k - 16 + 9223372036854775808) % 18446744073709551616 - 9223372036854775808 = k - 16 by omega, Int.tmod_eq_emod_of_nonneg (by omega)]
    obtain ⟨p1, p2⟩ := hp
    have key : ∃ m : Int, (bif decide (k > 4161425) then IntKind.i64.wrap (16 + (IntKind.i64.wrap (k - 16)).tmod 4161409) else k) = m ∧ -9223372036854775808 ≤ m ∧ m ≤ 8000000 := by
      refine ⟨_, rfl, ?_⟩
      by_cases h : k > 4161425
      · rw [decide_eq_true h, cond_true, hm h, wi64]; omega
      · rw [decide_eq_false h, cond_false]; omega
    obtain ⟨m, hm1, m1, m2⟩ := key
    rw [hm1]
    (repeat' (first | assumption | exact trivial | exact rfl | apply And.intro | intro _)) <;> ((try simp only [wi64, wu16, Bool.not_eq_true', Bool.not_eq_false', Bool.and_eq_true, Bool.or_eq_true, beq_iff_eq, bne_iff_ne, ne_eq, beq_eq_false_iff_ne, bne_eq_false_iff_eq, decide_eq_true_eq, decide_eq_false_iff_not] at *) <;> (repeat' split) <;> omega)
  · intro h hmem y hy1 hy2 hy3
    simp only [turn_hs, List.mem_cons, List.not_mem_nil, or_false] at hmem
    rcases hmem with hmem
    · have e1 : h.td = (turn_td E) := by rw [hmem]
      have e2 : h.fs = [(0, .c (.p 1 0)), (11, .r .i64 (-9223372036854775808) (8000000)), (12, .r .i64 (0) (8000000))] := by rw [hmem]
      have e3 : h.ms = (uM M) := by rw [hmem]
      have e4 : h.mu = (fun y => (y.n 91011 - y.n 91012).toNat) := by rw [hmem]
      have e5 : h.H = (fun y => (KS.mk (y.n 100000) (y.n 100002) (y.n 100014) (y.n 100008) (y.n 100020) (y.n 100051) (y.b 100001) (y.b 100013) (y.b 100025) (y.b 100037) (y.b 100003) (y.b 100015)) = (KS.mk (z.n 100000) (z.n 100002) (z.n 100014) (z.n 100008) (z.n 100020) (z.n 100051) (z.b 100001) (z.b 100013) (z.b 100025) (z.b 100037) (z.b 100003) (z.b 100015))) := by rw [hmem]
      rw [e3] at hy1
      rw [e2] at hy2
      rw [e5] at hy3
      rw [e1, e2, e3, e4]
      refine loopP_lfH ⟨?_⟩
      rw [turn_r0]
      clear e1 e2 e3 e4 e5 hmem
      have hf : True ∧ (((-9223372036854775808) ≤ y.n 91011 ∧ y.n 91011 ≤ (8000000)) ∧ True) ∧ (((0) ≤ y.n 91012 ∧ y.n 91012 ≤ (8000000)) ∧ True) ∧ True := hy2
      obtain ⟨_, ⟨g11, _⟩, ⟨g12, _⟩, _⟩ := hf
      obtain ⟨h0, h4, h5, h6, h7, h8, h11, h16, h17, h18, h19, h20, h23, h28, h29, h30, h31, h32, h35, h40, h41, h42, h43, h44, h47, h50, h86, h88, h92, h93, _⟩ := rg_u hy1
      (repeat' (first | assumption | exact trivial | exact rfl | apply And.intro | intro _)) <;> ((try simp only [wi64, wu16, Bool.not_eq_true', Bool.not_eq_false', Bool.and_eq_true, Bool.or_eq_true, beq_iff_eq, bne_iff_ne, ne_eq, beq_eq_false_iff_ne, bne_eq_false_iff_eq, decide_eq_true_eq, decide_eq_false_iff_not] at *) <;> (repeat' split) <;> omega)
theorem stc0_p (E : World) (M : Bl) (S : SW) (z : PX)  :
    (hoPr false (uM2 M) S (.c (.r .i64 1 16777216)) (fun _ _ => True) z (fnTree (pe E) (orcB E) (tabL fns) 20000 Try.f25 [.c (.p 1 0), .c (.i true .i64 0)] (mkM z S (uM2 M) 0))) =
    ((((1 : Int) ≤ IntKind.i64.wrap ((16 : Int) * IntKind.i64.wrap ((2048 : Int) - z.n (100004 : Nat))) ∧ IntKind.i64.wrap ((16 : Int) * IntKind.i64.wrap ((2048 : Int) - z.n
      (100004 : Nat))) ≤ (16777216 : Int)) ∧ True) ∧ mkM z S (uM2 M) (0 : Nat) = mkM z S (uM2 M) (0 : Nat) ∧ True) := by kernel_rfl
theorem stc0_c (E : World) (M : Bl) (S : SW)  (z : PX) (hz : rgM z (uM2 M) 0) (hp : (fun _ => True) z) : HR (pe E) 25 [.c (.p 1 0), .c (.i true .i64 0)] (uM2 M) S (.c (.r .i64 1 16777216)) (fun _ _ => True) z := by
  refine HR.mk false (by rfl) (by rfl) (fnTree_sound (P := pe E) orcB_ok tab_ok tab_sz mixed 20000 Try.func25 (by decide) [.c (.p 1 0), .c (.i true .i64 0)] _) ⟨?_⟩
  rw [stc0_p]
  obtain ⟨h0, h4, h5, h7, h8, h11, h16, h17, h19, h20, h23, h28, h29, h31, h32, h35, h40, h41, h43, h44, h47, h50, h86, h88, h92, h93, _⟩ := rg_u2 hz
  (repeat' (first | assumption | exact trivial | exact rfl | apply And.intro | intro _)) <;> ((try simp only [wi64, wu16, Bool.not_eq_true', Bool.not_eq_false', Bool.and_eq_true, Bool.or_eq_true, beq_iff_eq, bne_iff_ne, ne_eq, beq_eq_false_iff_ne, bne_eq_false_iff_eq, decide_eq_true_eq, decide_eq_false_iff_not] at *) <;> (repeat' split) <;> omega)
theorem stc1_p (E : World) (M : Bl) (S : SW) (z : PX)  :
    (hoPr false (uM2 M) S (.c (.r .i64 1 16777216)) (fun _ _ => True) z (fnTree (pe E) (orcB E) (tabL fns) 20000 Try.f25 [.c (.p 1 0), .c (.i true .i64 1)] (mkM z S (uM2 M) 0))) =
    ((((1 : Int) ≤ IntKind.i64.wrap ((16 : Int) * IntKind.i64.wrap ((2048 : Int) - z.n (100016 : Nat))) ∧ IntKind.i64.wrap ((16 : Int) * IntKind.i64.wrap ((2048 : Int) - z.n
      (100016 : Nat))) ≤ (16777216 : Int)) ∧ True) ∧ mkM z S (uM2 M) (0 : Nat) = mkM z S (uM2 M) (0 : Nat) ∧ True) := by kernel_rfl
theorem stc1_c (E : World) (M : Bl) (S : SW)  (z : PX) (hz : rgM z (uM2 M) 0) (hp : (fun _ => True) z) : HR (pe E) 25 [.c (.p 1 0), .c (.i true .i64 1)] (uM2 M) S (.c (.r .i64 1 16777216)) (fun _ _ => True) z := by
  refine HR.mk false (by rfl) (by rfl) (fnTree_sound (P := pe E) orcB_ok tab_ok tab_sz mixed 20000 Try.func25 (by decide) [.c (.p 1 0), .c (.i true .i64 1)] _) ⟨?_⟩
  rw [stc1_p]
  obtain ⟨h0, h4, h5, h7, h8, h11, h16, h17, h19, h20, h23, h28, h29, h31, h32, h35, h40, h41, h43, h44, h47, h50, h86, h88, h92, h93, _⟩ := rg_u2 hz
  (repeat' (first | assumption | exact trivial | exact rfl | apply And.intro | intro _)) <;> ((try simp only [wi64, wu16, Bool.not_eq_true', Bool.not_eq_false', Bool.and_eq_true, Bool.or_eq_true, beq_iff_eq, bne_iff_ne, ne_eq, beq_eq_false_iff_ne, bne_eq_false_iff_eq, decide_eq_true_eq, decide_eq_false_iff_not] at *) <;> (repeat' split) <;> omega)
theorem stc2_p (E : World) (M : Bl) (S : SW) (z : PX)  :
    (hoPr false (uM2 M) S (.c (.r .i64 1 16777216)) (fun _ _ => True) z (fnTree (pe E) (orcB E) (tabL fns) 20000 Try.f25 [.c (.p 1 0), .c (.i true .i64 2)] (mkM z S (uM2 M) 0))) =
    ((((1 : Int) ≤ IntKind.i64.wrap ((8 : Int) * IntKind.i64.wrap ((2048 : Int) - z.n (100028 : Nat))) ∧ IntKind.i64.wrap ((8 : Int) * IntKind.i64.wrap ((2048 : Int) - z.n
      (100028 : Nat))) ≤ (16777216 : Int)) ∧ True) ∧ mkM z S (uM2 M) (0 : Nat) = mkM z S (uM2 M) (0 : Nat) ∧ True) := by kernel_rfl
theorem stc2_c (E : World) (M : Bl) (S : SW)  (z : PX) (hz : rgM z (uM2 M) 0) (hp : (fun _ => True) z) : HR (pe E) 25 [.c (.p 1 0), .c (.i true .i64 2)] (uM2 M) S (.c (.r .i64 1 16777216)) (fun _ _ => True) z := by
  refine HR.mk false (by rfl) (by rfl) (fnTree_sound (P := pe E) orcB_ok tab_ok tab_sz mixed 20000 Try.func25 (by decide) [.c (.p 1 0), .c (.i true .i64 2)] _) ⟨?_⟩
  rw [stc2_p]
  obtain ⟨h0, h4, h5, h7, h8, h11, h16, h17, h19, h20, h23, h28, h29, h31, h32, h35, h40, h41, h43, h44, h47, h50, h86, h88, h92, h93, _⟩ := rg_u2 hz
  (repeat' (first | assumption | exact trivial | exact rfl | apply And.intro | intro _)) <;> ((try simp only [wi64, wu16, Bool.not_eq_true', Bool.not_eq_false', Bool.and_eq_true, Bool.or_eq_true, beq_iff_eq, bne_iff_ne, ne_eq, beq_eq_false_iff_ne, bne_eq_false_iff_eq, decide_eq_true_eq, decide_eq_false_iff_not] at *) <;> (repeat' split) <;> omega)
theorem stc3_p (E : World) (M : Bl) (S : SW) (z : PX)  :
    (hoPr false (uM2 M) S (.c (.r .i64 1 16777216)) (fun _ _ => True) z (fnTree (pe E) (orcB E) (tabL fns) 20000 Try.f25 [.c (.p 1 0), .c (.i true .i64 3)] (mkM z S (uM2 M) 0))) =
    (decide ((0 : Int) ≤ z.n (100092 : Nat)) = true ∧ (((1 : Int) ≤ IntKind.i64.wrap ((if (32 : Int) > IntKind.i64.wrap ((64 : Int) * z.n (100093 : Nat)) then (32 : Int) else
      IntKind.i64.wrap ((64 : Int) * z.n (100093 : Nat))) * (2 : Int) ^ min (z.n (100092 : Nat)).toNat (64 : Nat)) ∧ IntKind.i64.wrap ((if (32 : Int) > IntKind.i64.wrap ((64 :
      Int) * z.n (100093 : Nat)) then (32 : Int) else IntKind.i64.wrap ((64 : Int) * z.n (100093 : Nat))) * (2 : Int) ^ min (z.n (100092 : Nat)).toNat (64 : Nat)) ≤ (16777216 :
      Int)) ∧ True) ∧ mkM z S (uM2 M) (0 : Nat) = mkM z S (uM2 M) (0 : Nat) ∧ True) := by kernel_rfl
theorem stc3_c (E : World) (M : Bl) (S : SW)  (z : PX) (hz : rgM z (uM2 M) 0) (hp : (fun _ => True) z) : HR (pe E) 25 [.c (.p 1 0), .c (.i true .i64 3)] (uM2 M) S (.c (.r .i64 1 16777216)) (fun _ _ => True) z := by
  refine HR.mk false (by rfl) (by rfl) (fnTree_sound (P := pe E) orcB_ok tab_ok tab_sz mixed 20000 Try.func25 (by decide) [.c (.p 1 0), .c (.i true .i64 3)] _) ⟨?_⟩
  rw [stc3_p]
  obtain ⟨h0, h4, h5, h7, h8, h11, h16, h17, h19, h20, h23, h28, h29, h31, h32, h35, h40, h41, h43, h44, h47, h50, h86, h88, h92, h93, _⟩ := rg_u2 hz
  have he := pow15 (z.n 100092) h92.1 h92.2
  generalize (2 : Int) ^ min (z.n 100092).toNat 64 = e at he ⊢
  rcases he with rfl | rfl | rfl | rfl | rfl | rfl | rfl | rfl | rfl | rfl | rfl | rfl | rfl | rfl | rfl | rfl <;> ((repeat' (first | assumption | exact trivial | exact rfl | apply And.intro | intro _)) <;> ((try simp only [wi64, wu16, Bool.not_eq_true', Bool.not_eq_false', Bool.and_eq_true, Bool.or_eq_true, beq_iff_eq, bne_iff_ne, ne_eq, beq_eq_false_iff_ne, bne_eq_false_iff_eq, decide_eq_true_eq, decide_eq_false_iff_not] at *) <;> (repeat' split) <;> omega))
noncomputable def orcD (E : World) : Orc := fun g vs s => match g, vs, s with
  | 25, [.c (.p 1 0), .c (.i true .i64 0)], M :: B :: S => some (hoTr (pre := fun _ => True) (fun z => stc0_c E M S  z) (by rfl) (M :: B :: S))
  | 25, [.c (.p 1 0), .c (.i true .i64 1)], M :: B :: S => some (hoTr (pre := fun _ => True) (fun z => stc1_c E M S  z) (by rfl) (M :: B :: S))
  | 25, [.c (.p 1 0), .c (.i true .i64 2)], M :: B :: S => some (hoTr (pre := fun _ => True) (fun z => stc2_c E M S  z) (by rfl) (M :: B :: S))
  | 25, [.c (.p 1 0), .c (.i true .i64 3)], M :: B :: S => some (hoTr (pre := fun _ => True) (fun z => stc3_c E M S  z) (by rfl) (M :: B :: S))
  | g, vs, s => (orcB E) g vs s
theorem orcD_ok {E : World} : OrcOK (pe E) (orcD E) := by
  intro g vs s t h
  unfold orcD at h
  split at h
  · cases h; refine CallTree.args ?_ (hoTr_ok _ _ _ (by first | rfl | (simp only [List.length_cons, List.length_nil, uM2]; omega)) (by rfl)); simp [simL, SV.sim, C.sim]
  · cases h; refine CallTree.args ?_ (hoTr_ok _ _ _ (by first | rfl | (simp only [List.length_cons, List.length_nil, uM2]; omega)) (by rfl)); simp [simL, SV.sim, C.sim]
  · cases h; refine CallTree.args ?_ (hoTr_ok _ _ _ (by first | rfl | (simp only [List.length_cons, List.length_nil, uM2]; omega)) (by rfl)); simp [simL, SV.sim, C.sim]
  · cases h; refine CallTree.args ?_ (hoTr_ok _ _ _ (by first | rfl | (simp only [List.length_cons, List.length_nil, uM2]; omega)) (by rfl)); simp [simL, SV.sim, C.sim]
  · exact orcB_ok _ _ _ _ h
noncomputable def orcC (E : World) : Orc := fun g vs s => match g, vs, s with
  | 22, [.c (.p 1 0), .c (.i _ .i64 k)], M :: B :: S => some (hoT (pre := fun _ => -9223372036854775808 ≤ k ∧ k ≤ 9223372036854775807) (fun z => turn_c E M S k z) (by rfl) (M :: B :: S))
  | g, vs, s => (orcD E) g vs s
theorem orcC_ok {E : World} : OrcOK (pe E) (orcC E) := by
  intro g vs s t h
  unfold orcC at h
  split at h
  · cases h; refine CallTree.args ?_ (hoT_ok _ _ _ (by first | rfl | (simp only [List.length_cons, List.length_nil, uM]; omega))); simp [simL, SV.sim, C.sim]
  · exact orcD_ok _ _ _ _ h
end Go.Proofs.Ytcegofobcjimlaa

