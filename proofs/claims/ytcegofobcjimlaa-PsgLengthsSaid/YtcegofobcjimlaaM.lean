import Derived.Test.YtcegofobcjimlaaK
set_option linter.unusedVariables false
set_option linter.unusedSimpArgs false
namespace Go.Proofs.Ytcegofobcjimlaa
open Go Go.Proofs Go.Proofs.Ytcegofobcjimlaa.Ev Go.Proofs.Ytcegofobcjimlaa.Ev.Ho
set_option maxRecDepth 100000

def bt (n : Int) (k : KS) : KS := if n.tmod 2 = 0 then sh1 (sh0 k) else k
def quiet (k : KS) : Prop := k.sw = 0 ∧ k.o2 = false ∧ k.o3 = false
theorem sh0_sw (k : KS) : (sh0 k).sw = k.sw := by unfold sh0; split <;> rfl
theorem sh1_sw (k : KS) : (sh1 k).sw = k.sw := by unfold sh1; split <;> rfl
theorem sh0_o2 (k : KS) : (sh0 k).o2 = k.o2 := by unfold sh0; split <;> rfl
theorem sh1_o2 (k : KS) : (sh1 k).o2 = k.o2 := by unfold sh1; split <;> rfl
theorem sh0_o3 (k : KS) : (sh0 k).o3 = k.o3 := by unfold sh0; split <;> rfl
theorem sh1_o3 (k : KS) : (sh1 k).o3 = k.o3 := by unfold sh1; split <;> rfl
theorem q_o2 {k : KS} (h : quiet k) : off2 (sh1 (sh0 k)) := by unfold off2; rw [sh1_o2, sh0_o2]; exact h.2.1
theorem q_o3 {k : KS} (h : quiet k) : off3 (sh1 (sh0 k)) := by unfold off3; rw [sh1_o3, sh0_o3]; exact h.2.2
theorem q_sw {k : KS} (h : quiet k) : swz (sh1 (sh0 k)) := by unfold swz; rw [sh1_sw, sh0_sw]; exact h.1
theorem q_sw0 {k : KS} (h : quiet k) : swz k := h.1
theorem bt_t {n : Int} {k : KS} (h : (n.tmod 2 == 0) = true) : sh1 (sh0 k) = bt n k := by unfold bt; rw [if_pos (by simpa using h)]
theorem bt_f {n : Int} {k : KS} (h : (n.tmod 2 == 0) = false) : k = bt n k := by unfold bt; rw [if_neg (by simpa using h)]
theorem beat_p (E : World) (M : Bl) (S : SW) (z : PX) (k : Int) :
    (hoP false (uM M) S (.t []) (fun z y => (KS.mk (y.n 100000) (y.n 100002) (y.n 100014) (y.n 100008) (y.n 100020) (y.n 100051) (y.b 100001) (y.b 100013) (y.b 100025) (y.b 100037) (y.b 100003) (y.b 100015)) = bt k (KS.mk (z.n 100000) (z.n 100002) (z.n 100014) (z.n 100008) (z.n 100020) (z.n 100051) (z.b 100001) (z.b 100013) (z.b 100025) (z.b 100037) (z.b 100003) (z.b 100015))) z (fnTree (pe E) (orcC E) (tabL fns) 20000 Try.f21 [.c (.p 1 0), .c (.i false .i64 k)] (mkM z S (uM M) 0))) =
    (((k.tmod (2 : Int) == (0 : Int)) = true → ((M = M ∧ (50 : Nat) = (50 : Nat) ∧ (RG z) ∧ S = S) ∧ True) ∧ ∀ (y : PX), ((RG y) ∧ True) ∧ True ∧ KS.mk (y.n (100000 : Nat))
      (y.n (100002 : Nat)) (y.n (100014 : Nat)) (y.n (100008 : Nat)) (y.n (100020 : Nat)) (y.n (100051 : Nat)) (y.b (100001 : Nat)) (y.b (100013 : Nat)) (y.b (100025 : Nat))
      (y.b (100037 : Nat)) (y.b (100003 : Nat)) (y.b (100015 : Nat)) = sh0 (KS.mk (z.n (100000 : Nat)) (z.n (100002 : Nat)) (z.n (100014 : Nat)) (z.n (100008 : Nat)) (z.n
      (100020 : Nat)) (z.n (100051 : Nat)) (z.b (100001 : Nat)) (z.b (100013 : Nat)) (z.b (100025 : Nat)) (z.b (100037 : Nat)) (z.b (100003 : Nat)) (z.b (100015 : Nat))) → ((M =
      M ∧ (50 : Nat) = (50 : Nat) ∧ (RG y) ∧ S = S) ∧ True) ∧ ∀ (y_1 : PX), ((RG y_1) ∧ True) ∧ True ∧ KS.mk (y_1.n (100000 : Nat)) (y_1.n (100002 : Nat)) (y_1.n (100014 : Nat))
      (y_1.n (100008 : Nat)) (y_1.n (100020 : Nat)) (y_1.n (100051 : Nat)) (y_1.b (100001 : Nat)) (y_1.b (100013 : Nat)) (y_1.b (100025 : Nat)) (y_1.b (100037 : Nat)) (y_1.b
      (100003 : Nat)) (y_1.b (100015 : Nat)) = sh1 (KS.mk (y.n (100000 : Nat)) (y.n (100002 : Nat)) (y.n (100014 : Nat)) (y.n (100008 : Nat)) (y.n (100020 : Nat)) (y.n (100051 :
      Nat)) (y.b (100001 : Nat)) (y.b (100013 : Nat)) (y.b (100025 : Nat)) (y.b (100037 : Nat)) (y.b (100003 : Nat)) (y.b (100015 : Nat))) → ((M = M ∧ (50 : Nat) = (50 : Nat) ∧
      (RG y_1) ∧ S = S) ∧ off2 (KS.mk (y_1.n (100000 : Nat)) (y_1.n (100002 : Nat)) (y_1.n (100014 : Nat)) (y_1.n (100008 : Nat)) (y_1.n (100020 : Nat)) (y_1.n (100051 : Nat))
      (y_1.b (100001 : Nat)) (y_1.b (100013 : Nat)) (y_1.b (100025 : Nat)) (y_1.b (100037 : Nat)) (y_1.b (100003 : Nat)) (y_1.b (100015 : Nat)))) ∧ ∀ (y : PX), ((RG y) ∧ True) ∧
      True ∧ KS.mk (y.n (100000 : Nat)) (y.n (100002 : Nat)) (y.n (100014 : Nat)) (y.n (100008 : Nat)) (y.n (100020 : Nat)) (y.n (100051 : Nat)) (y.b (100001 : Nat)) (y.b
      (100013 : Nat)) (y.b (100025 : Nat)) (y.b (100037 : Nat)) (y.b (100003 : Nat)) (y.b (100015 : Nat)) = KS.mk (y_1.n (100000 : Nat)) (y_1.n (100002 : Nat)) (y_1.n (100014 :
      Nat)) (y_1.n (100008 : Nat)) (y_1.n (100020 : Nat)) (y_1.n (100051 : Nat)) (y_1.b (100001 : Nat)) (y_1.b (100013 : Nat)) (y_1.b (100025 : Nat)) (y_1.b (100037 : Nat))
      (y_1.b (100003 : Nat)) (y_1.b (100015 : Nat)) → ((M = M ∧ (50 : Nat) = (50 : Nat) ∧ (RG y) ∧ S = S) ∧ off3 (KS.mk (y.n (100000 : Nat)) (y.n (100002 : Nat)) (y.n (100014 :
      Nat)) (y.n (100008 : Nat)) (y.n (100020 : Nat)) (y.n (100051 : Nat)) (y.b (100001 : Nat)) (y.b (100013 : Nat)) (y.b (100025 : Nat)) (y.b (100037 : Nat)) (y.b (100003 :
      Nat)) (y.b (100015 : Nat)))) ∧ ∀ (y_2 : PX), ((RG y_2) ∧ True) ∧ True ∧ KS.mk (y_2.n (100000 : Nat)) (y_2.n (100002 : Nat)) (y_2.n (100014 : Nat)) (y_2.n (100008 : Nat))
      (y_2.n (100020 : Nat)) (y_2.n (100051 : Nat)) (y_2.b (100001 : Nat)) (y_2.b (100013 : Nat)) (y_2.b (100025 : Nat)) (y_2.b (100037 : Nat)) (y_2.b (100003 : Nat)) (y_2.b
      (100015 : Nat)) = KS.mk (y.n (100000 : Nat)) (y.n (100002 : Nat)) (y.n (100014 : Nat)) (y.n (100008 : Nat)) (y.n (100020 : Nat)) (y.n (100051 : Nat)) (y.b (100001 : Nat))
      (y.b (100013 : Nat)) (y.b (100025 : Nat)) (y.b (100037 : Nat)) (y.b (100003 : Nat)) (y.b (100015 : Nat)) → ((k.tmod (4 : Int) == (0 : Int)) = true → ((M = M ∧ (50 : Nat) =
      (50 : Nat) ∧ (RG y_2) ∧ S = S) ∧ swz (KS.mk (y_2.n (100000 : Nat)) (y_2.n (100002 : Nat)) (y_2.n (100014 : Nat)) (y_2.n (100008 : Nat)) (y_2.n (100020 : Nat)) (y_2.n
      (100051 : Nat)) (y_2.b (100001 : Nat)) (y_2.b (100013 : Nat)) (y_2.b (100025 : Nat)) (y_2.b (100037 : Nat)) (y_2.b (100003 : Nat)) (y_2.b (100015 : Nat)))) ∧ ∀ (y : PX),
      ((RG y) ∧ True) ∧ True ∧ KS.mk (y.n (100000 : Nat)) (y.n (100002 : Nat)) (y.n (100014 : Nat)) (y.n (100008 : Nat)) (y.n (100020 : Nat)) (y.n (100051 : Nat)) (y.b (100001 :
      Nat)) (y.b (100013 : Nat)) (y.b (100025 : Nat)) (y.b (100037 : Nat)) (y.b (100003 : Nat)) (y.b (100015 : Nat)) = KS.mk (y_2.n (100000 : Nat)) (y_2.n (100002 : Nat)) (y_2.n
      (100014 : Nat)) (y_2.n (100008 : Nat)) (y_2.n (100020 : Nat)) (y_2.n (100051 : Nat)) (y_2.b (100001 : Nat)) (y_2.b (100013 : Nat)) (y_2.b (100025 : Nat)) (y_2.b (100037 :
      Nat)) (y_2.b (100003 : Nat)) (y_2.b (100015 : Nat)) → ((k.tmod (8 : Int) == (0 : Int)) = true → ((M = M ∧ (50 : Nat) = (50 : Nat) ∧ (RG y) ∧ S = S) ∧ True) ∧ ∀ (y_3 : PX),
      ((RG y_3) ∧ True) ∧ True ∧ KS.mk (y_3.n (100000 : Nat)) (y_3.n (100002 : Nat)) (y_3.n (100014 : Nat)) (y_3.n (100008 : Nat)) (y_3.n (100020 : Nat)) (y_3.n (100051 : Nat))
      (y_3.b (100001 : Nat)) (y_3.b (100013 : Nat)) (y_3.b (100025 : Nat)) (y_3.b (100037 : Nat)) (y_3.b (100003 : Nat)) (y_3.b (100015 : Nat)) = KS.mk (y.n (100000 : Nat)) (y.n
      (100002 : Nat)) (y.n (100014 : Nat)) (y.n (100008 : Nat)) (y.n (100020 : Nat)) (y.n (100051 : Nat)) (y.b (100001 : Nat)) (y.b (100013 : Nat)) (y.b (100025 : Nat)) (y.b
      (100037 : Nat)) (y.b (100003 : Nat)) (y.b (100015 : Nat)) → ((M = M ∧ (50 : Nat) = (50 : Nat) ∧ (RG y_3) ∧ S = S) ∧ True) ∧ ∀ (y : PX), ((RG y) ∧ True) ∧ True ∧ KS.mk (y.n
      (100000 : Nat)) (y.n (100002 : Nat)) (y.n (100014 : Nat)) (y.n (100008 : Nat)) (y.n (100020 : Nat)) (y.n (100051 : Nat)) (y.b (100001 : Nat)) (y.b (100013 : Nat)) (y.b
      (100025 : Nat)) (y.b (100037 : Nat)) (y.b (100003 : Nat)) (y.b (100015 : Nat)) = KS.mk (y_3.n (100000 : Nat)) (y_3.n (100002 : Nat)) (y_3.n (100014 : Nat)) (y_3.n (100008
      : Nat)) (y_3.n (100020 : Nat)) (y_3.n (100051 : Nat)) (y_3.b (100001 : Nat)) (y_3.b (100013 : Nat)) (y_3.b (100025 : Nat)) (y_3.b (100037 : Nat)) (y_3.b (100003 : Nat))
      (y_3.b (100015 : Nat)) → ((M = M ∧ (50 : Nat) = (50 : Nat) ∧ (RG y) ∧ S = S) ∧ True) ∧ ∀ (y_4 : PX), ((RG y_4) ∧ True) ∧ True ∧ KS.mk (y_4.n (100000 : Nat)) (y_4.n (100002
      : Nat)) (y_4.n (100014 : Nat)) (y_4.n (100008 : Nat)) (y_4.n (100020 : Nat)) (y_4.n (100051 : Nat)) (y_4.b (100001 : Nat)) (y_4.b (100013 : Nat)) (y_4.b (100025 : Nat))
      (y_4.b (100037 : Nat)) (y_4.b (100003 : Nat)) (y_4.b (100015 : Nat)) = KS.mk (y.n (100000 : Nat)) (y.n (100002 : Nat)) (y.n (100014 : Nat)) (y.n (100008 : Nat)) (y.n
      (100020 : Nat)) (y.n (100051 : Nat)) (y.b (100001 : Nat)) (y.b (100013 : Nat)) (y.b (100025 : Nat)) (y.b (100037 : Nat)) (y.b (100003 : Nat)) (y.b (100015 : Nat)) → True ∧
      (M = M ∧ (50 : Nat) = (50 : Nat) ∧ (RG y_4) ∧ S = S) ∧ KS.mk (y_4.n (100000 : Nat)) (y_4.n (100002 : Nat)) (y_4.n (100014 : Nat)) (y_4.n (100008 : Nat)) (y_4.n (100020 :
      Nat)) (y_4.n (100051 : Nat)) (y_4.b (100001 : Nat)) (y_4.b (100013 : Nat)) (y_4.b (100025 : Nat)) (y_4.b (100037 : Nat)) (y_4.b (100003 : Nat)) (y_4.b (100015 : Nat)) = bt
      k (KS.mk (z.n (100000 : Nat)) (z.n (100002 : Nat)) (z.n (100014 : Nat)) (z.n (100008 : Nat)) (z.n (100020 : Nat)) (z.n (100051 : Nat)) (z.b (100001 : Nat)) (z.b (100013 :
      Nat)) (z.b (100025 : Nat)) (z.b (100037 : Nat)) (z.b (100003 : Nat)) (z.b (100015 : Nat)))) ∧ ((k.tmod (8 : Int) == (0 : Int)) = false → True ∧ (M = M ∧ (50 : Nat) = (50 :
      Nat) ∧ (RG y) ∧ S = S) ∧ KS.mk (y.n (100000 : Nat)) (y.n (100002 : Nat)) (y.n (100014 : Nat)) (y.n (100008 : Nat)) (y.n (100020 : Nat)) (y.n (100051 : Nat)) (y.b (100001 :
      Nat)) (y.b (100013 : Nat)) (y.b (100025 : Nat)) (y.b (100037 : Nat)) (y.b (100003 : Nat)) (y.b (100015 : Nat)) = bt k (KS.mk (z.n (100000 : Nat)) (z.n (100002 : Nat)) (z.n
      (100014 : Nat)) (z.n (100008 : Nat)) (z.n (100020 : Nat)) (z.n (100051 : Nat)) (z.b (100001 : Nat)) (z.b (100013 : Nat)) (z.b (100025 : Nat)) (z.b (100037 : Nat)) (z.b
      (100003 : Nat)) (z.b (100015 : Nat))))) ∧ ((k.tmod (4 : Int) == (0 : Int)) = false → ((k.tmod (8 : Int) == (0 : Int)) = true → ((M = M ∧ (50 : Nat) = (50 : Nat) ∧ (RG y_2)
      ∧ S = S) ∧ True) ∧ ∀ (y : PX), ((RG y) ∧ True) ∧ True ∧ KS.mk (y.n (100000 : Nat)) (y.n (100002 : Nat)) (y.n (100014 : Nat)) (y.n (100008 : Nat)) (y.n (100020 : Nat)) (y.n
      (100051 : Nat)) (y.b (100001 : Nat)) (y.b (100013 : Nat)) (y.b (100025 : Nat)) (y.b (100037 : Nat)) (y.b (100003 : Nat)) (y.b (100015 : Nat)) = KS.mk (y_2.n (100000 :
      Nat)) (y_2.n (100002 : Nat)) (y_2.n (100014 : Nat)) (y_2.n (100008 : Nat)) (y_2.n (100020 : Nat)) (y_2.n (100051 : Nat)) (y_2.b (100001 : Nat)) (y_2.b (100013 : Nat))
      (y_2.b (100025 : Nat)) (y_2.b (100037 : Nat)) (y_2.b (100003 : Nat)) (y_2.b (100015 : Nat)) → ((M = M ∧ (50 : Nat) = (50 : Nat) ∧ (RG y) ∧ S = S) ∧ True) ∧ ∀ (y_3 : PX),
      ((RG y_3) ∧ True) ∧ True ∧ KS.mk (y_3.n (100000 : Nat)) (y_3.n (100002 : Nat)) (y_3.n (100014 : Nat)) (y_3.n (100008 : Nat)) (y_3.n (100020 : Nat)) (y_3.n (100051 : Nat))
      (y_3.b (100001 : Nat)) (y_3.b (100013 : Nat)) (y_3.b (100025 : Nat)) (y_3.b (100037 : Nat)) (y_3.b (100003 : Nat)) (y_3.b (100015 : Nat)) = KS.mk (y.n (100000 : Nat)) (y.n
      (100002 : Nat)) (y.n (100014 : Nat)) (y.n (100008 : Nat)) (y.n (100020 : Nat)) (y.n (100051 : Nat)) (y.b (100001 : Nat)) (y.b (100013 : Nat)) (y.b (100025 : Nat)) (y.b
      (100037 : Nat)) (y.b (100003 : Nat)) (y.b (100015 : Nat)) → ((M = M ∧ (50 : Nat) = (50 : Nat) ∧ (RG y_3) ∧ S = S) ∧ True) ∧ ∀ (y : PX), ((RG y) ∧ True) ∧ True ∧ KS.mk (y.n
      (100000 : Nat)) (y.n (100002 : Nat)) (y.n (100014 : Nat)) (y.n (100008 : Nat)) (y.n (100020 : Nat)) (y.n (100051 : Nat)) (y.b (100001 : Nat)) (y.b (100013 : Nat)) (y.b
      (100025 : Nat)) (y.b (100037 : Nat)) (y.b (100003 : Nat)) (y.b (100015 : Nat)) = KS.mk (y_3.n (100000 : Nat)) (y_3.n (100002 : Nat)) (y_3.n (100014 : Nat)) (y_3.n (100008
      : Nat)) (y_3.n (100020 : Nat)) (y_3.n (100051 : Nat)) (y_3.b (100001 : Nat)) (y_3.b (100013 : Nat)) (y_3.b (100025 : Nat)) (y_3.b (100037 : Nat)) (y_3.b (100003 : Nat))
      (y_3.b (100015 : Nat)) → True ∧ (M = M ∧ (50 : Nat) = (50 : Nat) ∧ (RG y) ∧ S = S) ∧ KS.mk (y.n (100000 : Nat)) (y.n (100002 : Nat)) (y.n (100014 : Nat)) (y.n (100008 :
      Nat)) (y.n (100020 : Nat)) (y.n (100051 : Nat)) (y.b (100001 : Nat)) (y.b (100013 : Nat)) (y.b (100025 : Nat)) (y.b (100037 : Nat)) (y.b (100003 : Nat)) (y.b (100015 :
      Nat)) = bt k (KS.mk (z.n (100000 : Nat)) (z.n (100002 : Nat)) (z.n (100014 : Nat)) (z.n (100008 : Nat)) (z.n (100020 : Nat)) (z.n (100051 : Nat)) (z.b (100001 : Nat)) (z.b
      (100013 : Nat)) (z.b (100025 : Nat)) (z.b (100037 : Nat)) (z.b (100003 : Nat)) (z.b (100015 : Nat)))) ∧ ((k.tmod (8 : Int) == (0 : Int)) = false → True ∧ (M = M ∧ (50 :
      Nat) = (50 : Nat) ∧ (RG y_2) ∧ S = S) ∧ KS.mk (y_2.n (100000 : Nat)) (y_2.n (100002 : Nat)) (y_2.n (100014 : Nat)) (y_2.n (100008 : Nat)) (y_2.n (100020 : Nat)) (y_2.n
      (100051 : Nat)) (y_2.b (100001 : Nat)) (y_2.b (100013 : Nat)) (y_2.b (100025 : Nat)) (y_2.b (100037 : Nat)) (y_2.b (100003 : Nat)) (y_2.b (100015 : Nat)) = bt k (KS.mk
      (z.n (100000 : Nat)) (z.n (100002 : Nat)) (z.n (100014 : Nat)) (z.n (100008 : Nat)) (z.n (100020 : Nat)) (z.n (100051 : Nat)) (z.b (100001 : Nat)) (z.b (100013 : Nat))
      (z.b (100025 : Nat)) (z.b (100037 : Nat)) (z.b (100003 : Nat)) (z.b (100015 : Nat)))))) ∧ ((k.tmod (2 : Int) == (0 : Int)) = false → ((k.tmod (4 : Int) == (0 : Int)) =
      true → ((M = M ∧ (50 : Nat) = (50 : Nat) ∧ (RG z) ∧ S = S) ∧ swz (KS.mk (z.n (100000 : Nat)) (z.n (100002 : Nat)) (z.n (100014 : Nat)) (z.n (100008 : Nat)) (z.n (100020 :
      Nat)) (z.n (100051 : Nat)) (z.b (100001 : Nat)) (z.b (100013 : Nat)) (z.b (100025 : Nat)) (z.b (100037 : Nat)) (z.b (100003 : Nat)) (z.b (100015 : Nat)))) ∧ ∀ (y : PX),
      ((RG y) ∧ True) ∧ True ∧ KS.mk (y.n (100000 : Nat)) (y.n (100002 : Nat)) (y.n (100014 : Nat)) (y.n (100008 : Nat)) (y.n (100020 : Nat)) (y.n (100051 : Nat)) (y.b (100001 :
      Nat)) (y.b (100013 : Nat)) (y.b (100025 : Nat)) (y.b (100037 : Nat)) (y.b (100003 : Nat)) (y.b (100015 : Nat)) = KS.mk (z.n (100000 : Nat)) (z.n (100002 : Nat)) (z.n
      (100014 : Nat)) (z.n (100008 : Nat)) (z.n (100020 : Nat)) (z.n (100051 : Nat)) (z.b (100001 : Nat)) (z.b (100013 : Nat)) (z.b (100025 : Nat)) (z.b (100037 : Nat)) (z.b
      (100003 : Nat)) (z.b (100015 : Nat)) → ((k.tmod (8 : Int) == (0 : Int)) = true → ((M = M ∧ (50 : Nat) = (50 : Nat) ∧ (RG y) ∧ S = S) ∧ True) ∧ ∀ (y_1 : PX), ((RG y_1) ∧
      True) ∧ True ∧ KS.mk (y_1.n (100000 : Nat)) (y_1.n (100002 : Nat)) (y_1.n (100014 : Nat)) (y_1.n (100008 : Nat)) (y_1.n (100020 : Nat)) (y_1.n (100051 : Nat)) (y_1.b
      (100001 : Nat)) (y_1.b (100013 : Nat)) (y_1.b (100025 : Nat)) (y_1.b (100037 : Nat)) (y_1.b (100003 : Nat)) (y_1.b (100015 : Nat)) = KS.mk (y.n (100000 : Nat)) (y.n
      (100002 : Nat)) (y.n (100014 : Nat)) (y.n (100008 : Nat)) (y.n (100020 : Nat)) (y.n (100051 : Nat)) (y.b (100001 : Nat)) (y.b (100013 : Nat)) (y.b (100025 : Nat)) (y.b
      (100037 : Nat)) (y.b (100003 : Nat)) (y.b (100015 : Nat)) → ((M = M ∧ (50 : Nat) = (50 : Nat) ∧ (RG y_1) ∧ S = S) ∧ True) ∧ ∀ (y : PX), ((RG y) ∧ True) ∧ True ∧ KS.mk (y.n
      (100000 : Nat)) (y.n (100002 : Nat)) (y.n (100014 : Nat)) (y.n (100008 : Nat)) (y.n (100020 : Nat)) (y.n (100051 : Nat)) (y.b (100001 : Nat)) (y.b (100013 : Nat)) (y.b
      (100025 : Nat)) (y.b (100037 : Nat)) (y.b (100003 : Nat)) (y.b (100015 : Nat)) = KS.mk (y_1.n (100000 : Nat)) (y_1.n (100002 : Nat)) (y_1.n (100014 : Nat)) (y_1.n (100008
      : Nat)) (y_1.n (100020 : Nat)) (y_1.n (100051 : Nat)) (y_1.b (100001 : Nat)) (y_1.b (100013 : Nat)) (y_1.b (100025 : Nat)) (y_1.b (100037 : Nat)) (y_1.b (100003 : Nat))
      (y_1.b (100015 : Nat)) → ((M = M ∧ (50 : Nat) = (50 : Nat) ∧ (RG y) ∧ S = S) ∧ True) ∧ ∀ (y_2 : PX), ((RG y_2) ∧ True) ∧ True ∧ KS.mk (y_2.n (100000 : Nat)) (y_2.n (100002
      : Nat)) (y_2.n (100014 : Nat)) (y_2.n (100008 : Nat)) (y_2.n (100020 : Nat)) (y_2.n (100051 : Nat)) (y_2.b (100001 : Nat)) (y_2.b (100013 : Nat)) (y_2.b (100025 : Nat))
      (y_2.b (100037 : Nat)) (y_2.b (100003 : Nat)) (y_2.b (100015 : Nat)) = KS.mk (y.n (100000 : Nat)) (y.n (100002 : Nat)) (y.n (100014 : Nat)) (y.n (100008 : Nat)) (y.n
      (100020 : Nat)) (y.n (100051 : Nat)) (y.b (100001 : Nat)) (y.b (100013 : Nat)) (y.b (100025 : Nat)) (y.b (100037 : Nat)) (y.b (100003 : Nat)) (y.b (100015 : Nat)) → True ∧
      (M = M ∧ (50 : Nat) = (50 : Nat) ∧ (RG y_2) ∧ S = S) ∧ KS.mk (y_2.n (100000 : Nat)) (y_2.n (100002 : Nat)) (y_2.n (100014 : Nat)) (y_2.n (100008 : Nat)) (y_2.n (100020 :
      Nat)) (y_2.n (100051 : Nat)) (y_2.b (100001 : Nat)) (y_2.b (100013 : Nat)) (y_2.b (100025 : Nat)) (y_2.b (100037 : Nat)) (y_2.b (100003 : Nat)) (y_2.b (100015 : Nat)) = bt
      k (KS.mk (z.n (100000 : Nat)) (z.n (100002 : Nat)) (z.n (100014 : Nat)) (z.n (100008 : Nat)) (z.n (100020 : Nat)) (z.n (100051 : Nat)) (z.b (100001 : Nat)) (z.b (100013 :
      Nat)) (z.b (100025 : Nat)) (z.b (100037 : Nat)) (z.b (100003 : Nat)) (z.b (100015 : Nat)))) ∧ ((k.tmod (8 : Int) == (0 : Int)) = false → True ∧ (M = M ∧ (50 : Nat) = (50 :
      Nat) ∧ (RG y) ∧ S = S) ∧ KS.mk (y.n (100000 : Nat)) (y.n (100002 : Nat)) (y.n (100014 : Nat)) (y.n (100008 : Nat)) (y.n (100020 : Nat)) (y.n (100051 : Nat)) (y.b (100001 :
      Nat)) (y.b (100013 : Nat)) (y.b (100025 : Nat)) (y.b (100037 : Nat)) (y.b (100003 : Nat)) (y.b (100015 : Nat)) = bt k (KS.mk (z.n (100000 : Nat)) (z.n (100002 : Nat)) (z.n
      (100014 : Nat)) (z.n (100008 : Nat)) (z.n (100020 : Nat)) (z.n (100051 : Nat)) (z.b (100001 : Nat)) (z.b (100013 : Nat)) (z.b (100025 : Nat)) (z.b (100037 : Nat)) (z.b
      (100003 : Nat)) (z.b (100015 : Nat))))) ∧ ((k.tmod (4 : Int) == (0 : Int)) = false → ((k.tmod (8 : Int) == (0 : Int)) = true → ((M = M ∧ (50 : Nat) = (50 : Nat) ∧ (RG z) ∧
      S = S) ∧ True) ∧ ∀ (y : PX), ((RG y) ∧ True) ∧ True ∧ KS.mk (y.n (100000 : Nat)) (y.n (100002 : Nat)) (y.n (100014 : Nat)) (y.n (100008 : Nat)) (y.n (100020 : Nat)) (y.n
      (100051 : Nat)) (y.b (100001 : Nat)) (y.b (100013 : Nat)) (y.b (100025 : Nat)) (y.b (100037 : Nat)) (y.b (100003 : Nat)) (y.b (100015 : Nat)) = KS.mk (z.n (100000 : Nat))
      (z.n (100002 : Nat)) (z.n (100014 : Nat)) (z.n (100008 : Nat)) (z.n (100020 : Nat)) (z.n (100051 : Nat)) (z.b (100001 : Nat)) (z.b (100013 : Nat)) (z.b (100025 : Nat))
      (z.b (100037 : Nat)) (z.b (100003 : Nat)) (z.b (100015 : Nat)) → ((M = M ∧ (50 : Nat) = (50 : Nat) ∧ (RG y) ∧ S = S) ∧ True) ∧ ∀ (y_1 : PX), ((RG y_1) ∧ True) ∧ True ∧
      KS.mk (y_1.n (100000 : Nat)) (y_1.n (100002 : Nat)) (y_1.n (100014 : Nat)) (y_1.n (100008 : Nat)) (y_1.n (100020 : Nat)) (y_1.n (100051 : Nat)) (y_1.b (100001 : Nat))
      (y_1.b (100013 : Nat)) (y_1.b (100025 : Nat)) (y_1.b (100037 : Nat)) (y_1.b (100003 : Nat)) (y_1.b (100015 : Nat)) = KS.mk (y.n (100000 : Nat)) (y.n (100002 : Nat)) (y.n
      (100014 : Nat)) (y.n (100008 : Nat)) (y.n (100020 : Nat)) (y.n (100051 : Nat)) (y.b (100001 : Nat)) (y.b (100013 : Nat)) (y.b (100025 : Nat)) (y.b (100037 : Nat)) (y.b
      (100003 : Nat)) (y.b (100015 : Nat)) → ((M = M ∧ (50 : Nat) = (50 : Nat) ∧ (RG y_1) ∧ S = S) ∧ True) ∧ ∀ (y : PX), ((RG y) ∧ True) ∧ True ∧ KS.mk (y.n (100000 : Nat)) (y.n
      (100002 : Nat)) (y.n (100014 : Nat)) (y.n (100008 : Nat)) (y.n (100020 : Nat)) (y.n (100051 : Nat)) (y.b (100001 : Nat)) (y.b (100013 : Nat)) (y.b (100025 : Nat)) (y.b
      (100037 : Nat)) (y.b (100003 : Nat)) (y.b (100015 : Nat)) = KS.mk (y_1.n (100000 : Nat)) (y_1.n (100002 : Nat)) (y_1.n (100014 : Nat)) (y_1.n (100008 : Nat)) (y_1.n
      (100020 : Nat)) (y_1.n (100051 : Nat)) (y_1.b (100001 : Nat)) (y_1.b (100013 : Nat)) (y_1.b (100025 : Nat)) (y_1.b (100037 : Nat)) (y_1.b (100003 : Nat)) (y_1.b (100015 :
      Nat)) → True ∧ (M = M ∧ (50 : Nat) = (50 : Nat) ∧ (RG y) ∧ S = S) ∧ KS.mk (y.n (100000 : Nat)) (y.n (100002 : Nat)) (y.n (100014 : Nat)) (y.n (100008 : Nat)) (y.n (100020
      : Nat)) (y.n (100051 : Nat)) (y.b (100001 : Nat)) (y.b (100013 : Nat)) (y.b (100025 : Nat)) (y.b (100037 : Nat)) (y.b (100003 : Nat)) (y.b (100015 : Nat)) = bt k (KS.mk
      (z.n (100000 : Nat)) (z.n (100002 : Nat)) (z.n (100014 : Nat)) (z.n (100008 : Nat)) (z.n (100020 : Nat)) (z.n (100051 : Nat)) (z.b (100001 : Nat)) (z.b (100013 : Nat))
      (z.b (100025 : Nat)) (z.b (100037 : Nat)) (z.b (100003 : Nat)) (z.b (100015 : Nat)))) ∧ ((k.tmod (8 : Int) == (0 : Int)) = false → True ∧ (M = M ∧ (50 : Nat) = (50 : Nat)
      ∧ (RG z) ∧ S = S) ∧ KS.mk (z.n (100000 : Nat)) (z.n (100002 : Nat)) (z.n (100014 : Nat)) (z.n (100008 : Nat)) (z.n (100020 : Nat)) (z.n (100051 : Nat)) (z.b (100001 :
      Nat)) (z.b (100013 : Nat)) (z.b (100025 : Nat)) (z.b (100037 : Nat)) (z.b (100003 : Nat)) (z.b (100015 : Nat)) = bt k (KS.mk (z.n (100000 : Nat)) (z.n (100002 : Nat)) (z.n
      (100014 : Nat)) (z.n (100008 : Nat)) (z.n (100020 : Nat)) (z.n (100051 : Nat)) (z.b (100001 : Nat)) (z.b (100013 : Nat)) (z.b (100025 : Nat)) (z.b (100037 : Nat)) (z.b
      (100003 : Nat)) (z.b (100015 : Nat))))))) := by kernel_rfl
theorem beat_c (E : World) (M : Bl) (S : SW) (k : Int) (z : PX) (hz : rgM z (uM M) 0) (hp : (fun z => quiet (KS.mk (z.n 100000) (z.n 100002) (z.n 100014) (z.n 100008) (z.n 100020) (z.n 100051) (z.b 100001) (z.b 100013) (z.b 100025) (z.b 100037) (z.b 100003) (z.b 100015))) z) : HC (pe E) 21 [.c (.p 1 0), .c (.i false .i64 k)] (uM M) S (.t []) (fun z y => (KS.mk (y.n 100000) (y.n 100002) (y.n 100014) (y.n 100008) (y.n 100020) (y.n 100051) (y.b 100001) (y.b 100013) (y.b 100025) (y.b 100037) (y.b 100003) (y.b 100015)) = bt k (KS.mk (z.n 100000) (z.n 100002) (z.n 100014) (z.n 100008) (z.n 100020) (z.n 100051) (z.b 100001) (z.b 100013) (z.b 100025) (z.b 100037) (z.b 100003) (z.b 100015))) z := by
  refine HC.mk false (by rfl) (by rfl) (by rfl) (by rfl) (fnTree_sound (P := pe E) orcC_ok tab_ok tab_sz mixed 20000 Try.func21 (by decide) [.c (.p 1 0), .c (.i false .i64 k)] _) ⟨?_⟩
  rw [beat_p]
  obtain ⟨h0, h4, h5, h6, h7, h8, h11, h16, h17, h18, h19, h20, h23, h28, h29, h30, h31, h32, h35, h40, h41, h42, h43, h44, h47, h50, h86, h88, h92, h93, _⟩ := rg_u hz
  have hR : RG z := rg_u hz
  replace hp : quiet (KS.mk (z.n 100000) (z.n 100002) (z.n 100014) (z.n 100008) (z.n 100020) (z.n 100051) (z.b 100001) (z.b 100013) (z.b 100025) (z.b 100037) (z.b 100003) (z.b 100015)) := hp
  (repeat' (first | exact trivial | assumption | exact rfl | exact q_o2 hp | exact q_o3 hp | exact q_sw hp | exact q_sw0 hp | exact bt_t (by assumption) | exact bt_f (by assumption) | apply And.intro | (rintro y ⟨⟨hR, _⟩, _, hq⟩; (try rw [hq])) | intro _))
theorem play_p (E : World) (M : Bl) (S : SW) (z : PX)  :
    (hoPr false (uM M) S (.c (.r .i64 0 15)) (fun z y => y.n 90000 = cond (z.b 100001) 1 0 + cond (z.b 100013) 2 0 + cond (z.b 100025) 4 0 + cond (z.b 100037) 8 0) z (fnTree (pe E) (orcC E) (tabL fns) 20000 Try.f11 [.c (.p 1 0)] (mkM z S (uM M) 0))) =
    (((((0 : Int) ≤ bif z.b (100037 : Nat) then bits BinOp.or IntKind.i64 (bif z.b (100025 : Nat) then bits BinOp.or IntKind.i64 (bif z.b (100013 : Nat) then bits BinOp.or
      IntKind.i64 (bif z.b (100001 : Nat) then (1 : Int) else (0 : Int)) (2 : Int) else bif z.b (100001 : Nat) then (1 : Int) else (0 : Int)) (4 : Int) else bif z.b (100013 :
      Nat) then bits BinOp.or IntKind.i64 (bif z.b (100001 : Nat) then (1 : Int) else (0 : Int)) (2 : Int) else bif z.b (100001 : Nat) then (1 : Int) else (0 : Int)) (8 : Int)
      else bif z.b (100025 : Nat) then bits BinOp.or IntKind.i64 (bif z.b (100013 : Nat) then bits BinOp.or IntKind.i64 (bif z.b (100001 : Nat) then (1 : Int) else (0 : Int)) (2
      : Int) else bif z.b (100001 : Nat) then (1 : Int) else (0 : Int)) (4 : Int) else bif z.b (100013 : Nat) then bits BinOp.or IntKind.i64 (bif z.b (100001 : Nat) then (1 :
      Int) else (0 : Int)) (2 : Int) else bif z.b (100001 : Nat) then (1 : Int) else (0 : Int)) ∧ (bif z.b (100037 : Nat) then bits BinOp.or IntKind.i64 (bif z.b (100025 : Nat)
      then bits BinOp.or IntKind.i64 (bif z.b (100013 : Nat) then bits BinOp.or IntKind.i64 (bif z.b (100001 : Nat) then (1 : Int) else (0 : Int)) (2 : Int) else bif z.b (100001
      : Nat) then (1 : Int) else (0 : Int)) (4 : Int) else bif z.b (100013 : Nat) then bits BinOp.or IntKind.i64 (bif z.b (100001 : Nat) then (1 : Int) else (0 : Int)) (2 : Int)
      else bif z.b (100001 : Nat) then (1 : Int) else (0 : Int)) (8 : Int) else bif z.b (100025 : Nat) then bits BinOp.or IntKind.i64 (bif z.b (100013 : Nat) then bits BinOp.or
      IntKind.i64 (bif z.b (100001 : Nat) then (1 : Int) else (0 : Int)) (2 : Int) else bif z.b (100001 : Nat) then (1 : Int) else (0 : Int)) (4 : Int) else bif z.b (100013 :
      Nat) then bits BinOp.or IntKind.i64 (bif z.b (100001 : Nat) then (1 : Int) else (0 : Int)) (2 : Int) else bif z.b (100001 : Nat) then (1 : Int) else (0 : Int)) ≤ (15 :
      Int)) ∧ True) ∧ mkM z S (uM M) (0 : Nat) = mkM z S (uM M) (0 : Nat) ∧ (bif z.b (100037 : Nat) then bits BinOp.or IntKind.i64 (bif z.b (100025 : Nat) then bits BinOp.or
      IntKind.i64 (bif z.b (100013 : Nat) then bits BinOp.or IntKind.i64 (bif z.b (100001 : Nat) then (1 : Int) else (0 : Int)) (2 : Int) else bif z.b (100001 : Nat) then (1 :
      Int) else (0 : Int)) (4 : Int) else bif z.b (100013 : Nat) then bits BinOp.or IntKind.i64 (bif z.b (100001 : Nat) then (1 : Int) else (0 : Int)) (2 : Int) else bif z.b
      (100001 : Nat) then (1 : Int) else (0 : Int)) (8 : Int) else bif z.b (100025 : Nat) then bits BinOp.or IntKind.i64 (bif z.b (100013 : Nat) then bits BinOp.or IntKind.i64
      (bif z.b (100001 : Nat) then (1 : Int) else (0 : Int)) (2 : Int) else bif z.b (100001 : Nat) then (1 : Int) else (0 : Int)) (4 : Int) else bif z.b (100013 : Nat) then bits
      BinOp.or IntKind.i64 (bif z.b (100001 : Nat) then (1 : Int) else (0 : Int)) (2 : Int) else bif z.b (100001 : Nat) then (1 : Int) else (0 : Int)) = (((bif z.b (100001 :
      Nat) then (1 : Int) else (0 : Int)) + bif z.b (100013 : Nat) then (2 : Int) else (0 : Int)) + bif z.b (100025 : Nat) then (4 : Int) else (0 : Int)) + bif z.b (100037 :
      Nat) then (8 : Int) else (0 : Int)) := by kernel_rfl
theorem play_c (E : World) (M : Bl) (S : SW)  (z : PX) (hz : rgM z (uM M) 0) (hp : (fun _ => True) z) : HR (pe E) 11 [.c (.p 1 0)] (uM M) S (.c (.r .i64 0 15)) (fun z y => y.n 90000 = cond (z.b 100001) 1 0 + cond (z.b 100013) 2 0 + cond (z.b 100025) 4 0 + cond (z.b 100037) 8 0) z := by
  refine HR.mk false (by rfl) (by rfl) (fnTree_sound (P := pe E) orcC_ok tab_ok tab_sz mixed 20000 Try.func11 (by decide) [.c (.p 1 0)] _) ⟨?_⟩
  rw [play_p]
  obtain ⟨h0, h4, h5, h6, h7, h8, h11, h16, h17, h18, h19, h20, h23, h28, h29, h30, h31, h32, h35, h40, h41, h42, h43, h44, h47, h50, h86, h88, h92, h93, _⟩ := rg_u hz
  cases z.b 100001 <;> cases z.b 100013 <;> cases z.b 100025 <;> cases z.b 100037 <;> simp <;> decide +kernel
noncomputable def orcR (E : World) : Orc := fun g vs s => match g, vs, s with
  | 22, [.c (.p 1 0), .c (.i _ .i64 k)], M :: B :: S => some (hoT (pre := fun _ => -9223372036854775808 ≤ k ∧ k ≤ 9223372036854775807) (fun z => turn_c E M S k z) (by rfl) (M :: B :: S))
  | 20, [.c (.p 1 0), .c (.i _ .i64 k)], M :: B :: S => some (hoT (pre := fun _ => 0 ≤ k ∧ k ≤ 32768) (fun z => pass_c E M S k z) (by rfl) (M :: B :: S))
  | 21, [.c (.p 1 0), .c (.i _ .i64 k)], M :: B :: S => some (hoT (pre := fun z => quiet (KS.mk (z.n 100000) (z.n 100002) (z.n 100014) (z.n 100008) (z.n 100020) (z.n 100051) (z.b 100001) (z.b 100013) (z.b 100025) (z.b 100037) (z.b 100003) (z.b 100015))) (fun z => beat_c E M S k z) (by rfl) (M :: B :: S))
  | 11, [.c (.p 1 0)], M :: B :: S => some (hoTr (pre := fun _ => True) (fun z => play_c E M S  z) (by rfl) (M :: B :: S))
  | g, vs, s => (orcC E) g vs s
theorem orcR_ok {E : World} : OrcOK (pe E) (orcR E) := by
  intro g vs s t h
  unfold orcR at h
  split at h
  · cases h; refine CallTree.args ?_ (hoT_ok _ _ _ (by first | rfl | (simp only [List.length_cons, List.length_nil, uM]; omega))); simp [simL, SV.sim, C.sim]
  · cases h; refine CallTree.args ?_ (hoT_ok _ _ _ (by first | rfl | (simp only [List.length_cons, List.length_nil, uM]; omega))); simp [simL, SV.sim, C.sim]
  · cases h; refine CallTree.args ?_ (hoT_ok _ _ _ (by first | rfl | (simp only [List.length_cons, List.length_nil, uM]; omega))); simp [simL, SV.sim, C.sim]
  · cases h; refine CallTree.args ?_ (hoTr_ok _ _ _ (by first | rfl | (simp only [List.length_cons, List.length_nil, uM]; omega)) (by rfl)); simp [simL, SV.sim, C.sim]
  · exact orcC_ok _ _ _ _ h
end Go.Proofs.Ytcegofobcjimlaa

