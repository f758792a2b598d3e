import Derived.Test.YtdomhmajoclpeaaC
set_option linter.unusedVariables false
set_option linter.unusedSimpArgs false
namespace Go.Proofs.Ytdomhmajoclpeaa
open Go Go.Proofs Go.Proofs.Ytdomhmajoclpeaa.Ev Go.Proofs.Ytdomhmajoclpeaa.Ev.Ho Go.IntKind
set_option maxRecDepth 100000
theorem visE_p (E : World) (z : PX) (a1 : Option Addr) (n1 m1 : Nat) (a2 : Option Addr) (n2 m2 : Nat) (a3 : Option Addr) (n3 m3 : Nat) (n : Int) :
    (hoPr true [mL, mE a1 n1 m1 a2 n2 m2 a3 n3 m3] [] (.c (.r .u16 0 32768)) (fun z y => y.n 90000 = visF (Sc.mk (z.n 100000) [(z.n 100001), (z.n 100002), (z.n 100003), (z.n 100004)] [(z.n 100005), (z.n 100006), (z.n 100007), (z.n 100008)] [(z.n 100009), (z.n 100010), (z.n 100011), (z.n 100012)] [(z.n 100013), (z.n 100014), (z.n 100015), (z.n 100016), (z.n 100017), (z.n 100018), (z.n 100019), (z.n 100020)] [(z.n 100021), (z.n 100022), (z.n 100023), (z.n 100024)] (z.n 100025) (bE E a1 n1) n1 (bE E a2 n2) n2) n) z (fnTree (pe E) (orcCE E a1 n1 m1 a2 n2 m2 a3 n3 m3) (tabL fns) 20000 Try.f38 [.c (.p 0 0), .c (.i false .i64 n)] (mkM z [] [mL, mE a1 n1 m1 a2 n2 m2 a3 n3 m3] 0))) =
    (((n == 0) = true → (((0 : Int) ≤ (32768 : Int) ∧ (32768 : Int) ≤ 32768) ∧ True) ∧ mkM z [] [mL, mE a1 n1 m1 a2 n2 m2 a3 n3 m3] (0 : Nat) = mkM z [] [mL, mE a1 n1 m1 a2 n2 m2 a3 n3 m3] (0 : Nat) ∧ 32768 = visF (Sc.mk (z.n 100000) [z.n 100001, z.n 100002, z.n 100003, z.n 100004] [z.n 100005, z.n 100006, z.n 100007, z.n 100008] [z.n 100009, z.n 100010, z.n 100011, z.n 100012] [z.n 100013, z.n 100014, z.n 100015, z.n 100016, z.n 100017, z.n 100018, z.n 100019, z.n 100020] [z.n 100021, z.n 100022, z.n 100023, z.n 100024] (z.n 100025) (bE E a1 n1) n1 (bE E a2 n2) n2) n) ∧ ((n == 0) = false → ((31 = 31 ∧ (rgS z 100000 (C.es a1 n1 m1 = C.es a1 n1 m1 ∧ C.es a2 n2 m2 = C.es a2 n2 m2 ∧ C.es a3 n3 m3 = C.es a3 n3 m3 ∧ True)) ∧ ([] : SW) = []) ∧ (EOk E a1 n1 ∧ EOk E a2 n2) ∧ 0 ≤ n ∧ n ≤ 1000000) ∧ ∀ (y : PX), ((0 ≤ y.n 90000 ∧ y.n 90000 ≤ 32767) ∧ True) ∧ y.n 90000 = colF (bE E a2 n2) n2 n → ((0 ≤ y.n 90000 ∧ y.n 90000 ≤ 32768) ∧ True) ∧ mkM z [] [mL, mE a1 n1 m1 a2 n2 m2 a3 n3 m3] (0 : Nat) = mkM z [] [mL, mE a1 n1 m1 a2 n2 m2 a3 n3 m3] (0 : Nat) ∧ y.n 90000 = visF (Sc.mk (z.n 100000) [z.n 100001, z.n 100002, z.n 100003, z.n 100004] [z.n 100005, z.n 100006, z.n 100007, z.n 100008] [z.n 100009, z.n 100010, z.n 100011, z.n 100012] [z.n 100013, z.n 100014, z.n 100015, z.n 100016, z.n 100017, z.n 100018, z.n 100019, z.n 100020] [z.n 100021, z.n 100022, z.n 100023, z.n 100024] (z.n 100025) (bE E a1 n1) n1 (bE E a2 n2) n2) n)) := by kernel_rfl
theorem visE_c (E : World) (a1 : Option Addr) (n1 m1 : Nat) (a2 : Option Addr) (n2 m2 : Nat) (a3 : Option Addr) (n3 m3 : Nat) (n : Int) (z : PX) (hz : rgM z [mL, mE a1 n1 m1 a2 n2 m2 a3 n3 m3] 0) (hp : (fun z => (EOk E a1 n1 ∧ EOk E a2 n2) ∧ 0 ≤ n ∧ n ≤ 255) z) : HR (pe E) 38 [.c (.p 0 0), .c (.i false .i64 n)] [mL, mE a1 n1 m1 a2 n2 m2 a3 n3 m3] [] (.c (.r .u16 0 32768)) (fun z y => y.n 90000 = visF (Sc.mk (z.n 100000) [(z.n 100001), (z.n 100002), (z.n 100003), (z.n 100004)] [(z.n 100005), (z.n 100006), (z.n 100007), (z.n 100008)] [(z.n 100009), (z.n 100010), (z.n 100011), (z.n 100012)] [(z.n 100013), (z.n 100014), (z.n 100015), (z.n 100016), (z.n 100017), (z.n 100018), (z.n 100019), (z.n 100020)] [(z.n 100021), (z.n 100022), (z.n 100023), (z.n 100024)] (z.n 100025) (bE E a1 n1) n1 (bE E a2 n2) n2) n) z := by
  refine HR.mk true (by rfl) (by rfl) (fnTree_sound (P := pe E) (orcCE_ok (a1 := a1) (n1 := n1) (m1 := m1) (a2 := a2) (n2 := n2) (m2 := m2) (a3 := a3) (n3 := n3) (m3 := m3)) tab_ok tab_sz mixed 20000 Try.func38 (by decide) [.c (.p 0 0), .c (.i false .i64 n)] _) ⟨?_⟩
  rw [visE_p]
  obtain ⟨⟨hK1, hK2⟩, h0, h1⟩ := hp
  obtain ⟨q1, q2, q3, q4, _⟩ := hz.1
  replace q1 : 0 ≤ z.n 1 ∧ z.n 1 ≤ 3 := q1
  replace q2 : 0 ≤ z.n 2 ∧ z.n 2 ≤ 65535 := q2
  replace q3 : 0 ≤ z.n 3 ∧ z.n 3 ≤ 159 := q3
  replace q4 : 0 ≤ z.n 4 ∧ z.n 4 ≤ 15 := q4
  obtain ⟨r0, r1, r2, r3, r4, r5, r6, r7, r8, r9, r10, r11, r12, r13, r14, r15, r16, r17, r18, r19, r20, r21, r22, r23, r24, r25, _⟩ := hz.2.1
  refine ⟨fun h => ?_, fun h => ⟨by (repeat' (first | exact trivial | with_reducible rfl | exact decide_eq_true rfl | exact decide_eq_true trivial | exact sameB_self _ | with_reducible assumption | apply And.intro)) <;> (first | omega | done), ?_⟩⟩
  · have h : n = 0 := by simpa using h
    unfold visF
    rw [if_pos h]
    (repeat' (first | exact trivial | with_reducible rfl | exact decide_eq_true rfl | exact decide_eq_true trivial | exact sameB_self _ | with_reducible assumption | apply And.intro)) <;> (first | omega | done)
  · have h : n ≠ 0 := by simpa using h
    rintro y ⟨⟨hy, _⟩, hq⟩
    unfold visF
    rw [if_neg h]
    (repeat' (first | exact trivial | with_reducible rfl | exact decide_eq_true rfl | exact decide_eq_true trivial | exact sameB_self _ | with_reducible assumption | apply And.intro)) <;> (first | omega | done)
theorem tileE_p (E : World) (z : PX) (a1 : Option Addr) (n1 m1 : Nat) (a2 : Option Addr) (n2 m2 : Nat) (a3 : Option Addr) (n3 m3 : Nat) (n : Int) :
    (hoPr true [mL, mE a1 n1 m1 a2 n2 m2 a3 n3 m3] [] (.c (.r .u8 0 255)) (fun z y => y.n 90000 = tileF (Sc.mk (z.n 100000) [(z.n 100001), (z.n 100002), (z.n 100003), (z.n 100004)] [(z.n 100005), (z.n 100006), (z.n 100007), (z.n 100008)] [(z.n 100009), (z.n 100010), (z.n 100011), (z.n 100012)] [(z.n 100013), (z.n 100014), (z.n 100015), (z.n 100016), (z.n 100017), (z.n 100018), (z.n 100019), (z.n 100020)] [(z.n 100021), (z.n 100022), (z.n 100023), (z.n 100024)] (z.n 100025) (bE E a1 n1) n1 (bE E a2 n2) n2) n) z (fnTree (pe E) (orcCE E a1 n1 m1 a2 n2 m2 a3 n3 m3) (tabL fns) 20000 Try.f42 [.c (.p 0 0), .c (.i false .i64 n)] (mkM z [] [mL, mE a1 n1 m1 a2 n2 m2 a3 n3 m3] 0))) =
    ((decide (n ≥ 65536) = true → (((0 : Int) ≤ (0 : Int) ∧ (0 : Int) ≤ 255) ∧ True) ∧ mkM z [] [mL, mE a1 n1 m1 a2 n2 m2 a3 n3 m3] (0 : Nat) = mkM z [] [mL, mE a1 n1 m1 a2 n2 m2 a3 n3 m3] (0 : Nat) ∧ 0 = tileF (Sc.mk (z.n 100000) [z.n 100001, z.n 100002, z.n 100003, z.n 100004] [z.n 100005, z.n 100006, z.n 100007, z.n 100008] [z.n 100009, z.n 100010, z.n 100011, z.n 100012] [z.n 100013, z.n 100014, z.n 100015, z.n 100016, z.n 100017, z.n 100018, z.n 100019, z.n 100020] [z.n 100021, z.n 100022, z.n 100023, z.n 100024] (z.n 100025) (bE E a1 n1) n1 (bE E a2 n2) n2) n) ∧ (decide (n ≥ 65536) = false → (([] : SW) = [] ∧ EOk E a1 n1 ∧ (-1000000000) ≤ n ∧ n ≤ 1000000000) ∧ ∀ (y : PX), ((0 ≤ y.n 90000 ∧ y.n 90000 ≤ 255) ∧ True) ∧ y.n 90000 = bE E a1 n1 n → ((0 ≤ y.n 90000 ∧ y.n 90000 ≤ 255) ∧ True) ∧ mkM z [] [mL, mE a1 n1 m1 a2 n2 m2 a3 n3 m3] (0 : Nat) = mkM z [] [mL, mE a1 n1 m1 a2 n2 m2 a3 n3 m3] (0 : Nat) ∧ y.n 90000 = tileF (Sc.mk (z.n 100000) [z.n 100001, z.n 100002, z.n 100003, z.n 100004] [z.n 100005, z.n 100006, z.n 100007, z.n 100008] [z.n 100009, z.n 100010, z.n 100011, z.n 100012] [z.n 100013, z.n 100014, z.n 100015, z.n 100016, z.n 100017, z.n 100018, z.n 100019, z.n 100020] [z.n 100021, z.n 100022, z.n 100023, z.n 100024] (z.n 100025) (bE E a1 n1) n1 (bE E a2 n2) n2) n)) := by kernel_rfl
theorem tileE_c (E : World) (a1 : Option Addr) (n1 m1 : Nat) (a2 : Option Addr) (n2 m2 : Nat) (a3 : Option Addr) (n3 m3 : Nat) (n : Int) (z : PX) (hz : rgM z [mL, mE a1 n1 m1 a2 n2 m2 a3 n3 m3] 0) (hp : (fun z => (EOk E a1 n1 ∧ EOk E a2 n2) ∧ 0 ≤ n ∧ n ≤ 1000000) z) : HR (pe E) 42 [.c (.p 0 0), .c (.i false .i64 n)] [mL, mE a1 n1 m1 a2 n2 m2 a3 n3 m3] [] (.c (.r .u8 0 255)) (fun z y => y.n 90000 = tileF (Sc.mk (z.n 100000) [(z.n 100001), (z.n 100002), (z.n 100003), (z.n 100004)] [(z.n 100005), (z.n 100006), (z.n 100007), (z.n 100008)] [(z.n 100009), (z.n 100010), (z.n 100011), (z.n 100012)] [(z.n 100013), (z.n 100014), (z.n 100015), (z.n 100016), (z.n 100017), (z.n 100018), (z.n 100019), (z.n 100020)] [(z.n 100021), (z.n 100022), (z.n 100023), (z.n 100024)] (z.n 100025) (bE E a1 n1) n1 (bE E a2 n2) n2) n) z := by
  refine HR.mk true (by rfl) (by rfl) (fnTree_sound (P := pe E) (orcCE_ok (a1 := a1) (n1 := n1) (m1 := m1) (a2 := a2) (n2 := n2) (m2 := m2) (a3 := a3) (n3 := n3) (m3 := m3)) tab_ok tab_sz mixed 20000 Try.func42 (by decide) [.c (.p 0 0), .c (.i false .i64 n)] _) ⟨?_⟩
  rw [tileE_p]
  obtain ⟨⟨hK1, hK2⟩, h0, h1⟩ := hp
  obtain ⟨q1, q2, q3, q4, _⟩ := hz.1
  replace q1 : 0 ≤ z.n 1 ∧ z.n 1 ≤ 3 := q1
  replace q2 : 0 ≤ z.n 2 ∧ z.n 2 ≤ 65535 := q2
  replace q3 : 0 ≤ z.n 3 ∧ z.n 3 ≤ 159 := q3
  replace q4 : 0 ≤ z.n 4 ∧ z.n 4 ≤ 15 := q4
  obtain ⟨r0, r1, r2, r3, r4, r5, r6, r7, r8, r9, r10, r11, r12, r13, r14, r15, r16, r17, r18, r19, r20, r21, r22, r23, r24, r25, _⟩ := hz.2.1
  simp only [decide_eq_true_eq, decide_eq_false_iff_not]
  refine ⟨fun h => ?_, fun h => ⟨by (repeat' (first | exact trivial | with_reducible rfl | exact decide_eq_true rfl | exact decide_eq_true trivial | exact sameB_self _ | with_reducible assumption | apply And.intro)) <;> (first | omega | done), ?_⟩⟩
  · unfold tileF
    rw [if_neg (by omega)]
    (repeat' (first | exact trivial | with_reducible rfl | exact decide_eq_true rfl | exact decide_eq_true trivial | exact sameB_self _ | with_reducible assumption | apply And.intro)) <;> (first | omega | done)
  · rintro y ⟨⟨hy, _⟩, hq⟩
    unfold tileF
    rw [if_pos (by omega)]
    (repeat' (first | exact trivial | with_reducible rfl | exact decide_eq_true rfl | exact decide_eq_true trivial | exact sameB_self _ | with_reducible assumption | apply And.intro)) <;> (first | omega | done)
theorem tabE_p (E : World) (z : PX) (a1 : Option Addr) (n1 m1 : Nat) (a2 : Option Addr) (n2 m2 : Nat) (a3 : Option Addr) (n3 m3 : Nat)  :
    (hoPr true [mL, mE a1 n1 m1 a2 n2 m2 a3 n3 m3] [] (.c (.r .i64 0 63488)) (fun z y => y.n 90000 = 2048 * (z.n 2 / 256 % 32)) z (fnTree (pe E) (orcCE E a1 n1 m1 a2 n2 m2 a3 n3 m3) (tabL fns) 20000 Try.f41 [.c (.p 0 0)] (mkM z [] [mL, mE a1 n1 m1 a2 n2 m2 a3 n3 m3] 0))) =
    (((0 ≤ i64.wrap (2048 * i64.wrap (bits BinOp.and u16 ((z.n 2).fdiv 256) 31)) ∧ i64.wrap (2048 * i64.wrap (bits BinOp.and u16 ((z.n 2).fdiv 256) 31)) ≤ 63488) ∧ True) ∧ mkM z [] [mL, mE a1 n1 m1 a2 n2 m2 a3 n3 m3] (0 : Nat) = mkM z [] [mL, mE a1 n1 m1 a2 n2 m2 a3 n3 m3] (0 : Nat) ∧ i64.wrap (2048 * i64.wrap (bits BinOp.and u16 ((z.n 2).fdiv 256) 31)) = 2048 * (z.n 2 / (256 : Int) % 32)) := by kernel_rfl
theorem tabE_c (E : World) (a1 : Option Addr) (n1 m1 : Nat) (a2 : Option Addr) (n2 m2 : Nat) (a3 : Option Addr) (n3 m3 : Nat)  (z : PX) (hz : rgM z [mL, mE a1 n1 m1 a2 n2 m2 a3 n3 m3] 0) (hp : (fun z => (EOk E a1 n1 ∧ EOk E a2 n2)) z) : HR (pe E) 41 [.c (.p 0 0)] [mL, mE a1 n1 m1 a2 n2 m2 a3 n3 m3] [] (.c (.r .i64 0 63488)) (fun z y => y.n 90000 = 2048 * (z.n 2 / 256 % 32)) z := by
  refine HR.mk true (by rfl) (by rfl) (fnTree_sound (P := pe E) (orcCE_ok (a1 := a1) (n1 := n1) (m1 := m1) (a2 := a2) (n2 := n2) (m2 := m2) (a3 := a3) (n3 := n3) (m3 := m3)) tab_ok tab_sz mixed 20000 Try.func41 (by decide) [.c (.p 0 0)] _) ⟨?_⟩
  rw [tabE_p]
  obtain ⟨hK1, hK2⟩ := hp
  obtain ⟨q1, q2, q3, q4, _⟩ := hz.1
  replace q1 : 0 ≤ z.n 1 ∧ z.n 1 ≤ 3 := q1
  replace q2 : 0 ≤ z.n 2 ∧ z.n 2 ≤ 65535 := q2
  replace q3 : 0 ≤ z.n 3 ∧ z.n 3 ≤ 159 := q3
  replace q4 : 0 ≤ z.n 4 ∧ z.n 4 ≤ 15 := q4
  obtain ⟨r0, r1, r2, r3, r4, r5, r6, r7, r8, r9, r10, r11, r12, r13, r14, r15, r16, r17, r18, r19, r20, r21, r22, r23, r24, r25, _⟩ := hz.2.1
  rw [tbE _ q2]
  (repeat' (first | exact trivial | with_reducible rfl | exact decide_eq_true rfl | exact decide_eq_true trivial | exact sameB_self _ | with_reducible assumption | apply And.intro)) <;> (first | omega | done)
theorem tlsE_p (E : World) (z : PX) (a1 : Option Addr) (n1 m1 : Nat) (a2 : Option Addr) (n2 m2 : Nat) (a3 : Option Addr) (n3 m3 : Nat)  :
    (hoPr true [mL, mE a1 n1 m1 a2 n2 m2 a3 n3 m3] [] (.c (.r .i64 0 49152)) (fun z y => y.n 90000 = 16384 * (z.n 2 / 4 % 4)) z (fnTree (pe E) (orcCE E a1 n1 m1 a2 n2 m2 a3 n3 m3) (tabL fns) 20000 Try.f43 [.c (.p 0 0)] (mkM z [] [mL, mE a1 n1 m1 a2 n2 m2 a3 n3 m3] 0))) =
    (((0 ≤ i64.wrap (16384 * i64.wrap (bits BinOp.and u16 ((z.n 2).fdiv 4) 3)) ∧ i64.wrap (16384 * i64.wrap (bits BinOp.and u16 ((z.n 2).fdiv 4) 3)) ≤ 49152) ∧ True) ∧ mkM z [] [mL, mE a1 n1 m1 a2 n2 m2 a3 n3 m3] (0 : Nat) = mkM z [] [mL, mE a1 n1 m1 a2 n2 m2 a3 n3 m3] (0 : Nat) ∧ i64.wrap (16384 * i64.wrap (bits BinOp.and u16 ((z.n 2).fdiv 4) 3)) = 16384 * (z.n 2 / (4 : Int) % 4)) := by kernel_rfl
theorem tlsE_c (E : World) (a1 : Option Addr) (n1 m1 : Nat) (a2 : Option Addr) (n2 m2 : Nat) (a3 : Option Addr) (n3 m3 : Nat)  (z : PX) (hz : rgM z [mL, mE a1 n1 m1 a2 n2 m2 a3 n3 m3] 0) (hp : (fun z => (EOk E a1 n1 ∧ EOk E a2 n2)) z) : HR (pe E) 43 [.c (.p 0 0)] [mL, mE a1 n1 m1 a2 n2 m2 a3 n3 m3] [] (.c (.r .i64 0 49152)) (fun z y => y.n 90000 = 16384 * (z.n 2 / 4 % 4)) z := by
  refine HR.mk true (by rfl) (by rfl) (fnTree_sound (P := pe E) (orcCE_ok (a1 := a1) (n1 := n1) (m1 := m1) (a2 := a2) (n2 := n2) (m2 := m2) (a3 := a3) (n3 := n3) (m3 := m3)) tab_ok tab_sz mixed 20000 Try.func43 (by decide) [.c (.p 0 0)] _) ⟨?_⟩
  rw [tlsE_p]
  obtain ⟨hK1, hK2⟩ := hp
  obtain ⟨q1, q2, q3, q4, _⟩ := hz.1
  replace q1 : 0 ≤ z.n 1 ∧ z.n 1 ≤ 3 := q1
  replace q2 : 0 ≤ z.n 2 ∧ z.n 2 ≤ 65535 := q2
  replace q3 : 0 ≤ z.n 3 ∧ z.n 3 ≤ 159 := q3
  replace q4 : 0 ≤ z.n 4 ∧ z.n 4 ≤ 15 := q4
  obtain ⟨r0, r1, r2, r3, r4, r5, r6, r7, r8, r9, r10, r11, r12, r13, r14, r15, r16, r17, r18, r19, r20, r21, r22, r23, r24, r25, _⟩ := hz.2.1
  rw [tlE _ q2]
  (repeat' (first | exact trivial | with_reducible rfl | exact decide_eq_true rfl | exact decide_eq_true trivial | exact sameB_self _ | with_reducible assumption | apply And.intro)) <;> (first | omega | done)
theorem bmpE_p (E : World) (z : PX) (a1 : Option Addr) (n1 m1 : Nat) (a2 : Option Addr) (n2 m2 : Nat) (a3 : Option Addr) (n3 m3 : Nat)  :
    (hoPr true [mL, mE a1 n1 m1 a2 n2 m2 a3 n3 m3] [] (.c (.r .i64 0 40960)) (fun z y => y.n 90000 = othF (z.n 100000)) z (fnTree (pe E) (orcCE E a1 n1 m1 a2 n2 m2 a3 n3 m3) (tabL fns) 20000 Try.f40 [.c (.p 0 0)] (mkM z [] [mL, mE a1 n1 m1 a2 n2 m2 a3 n3 m3] 0))) =
    (((bits BinOp.and u16 (z.n 100000) (16 : Int) != 0) = true → (((0 : Int) ≤ (40960 : Int) ∧ (40960 : Int) ≤ 40960) ∧ True) ∧ mkM z [] [mL, mE a1 n1 m1 a2 n2 m2 a3 n3 m3] (0 : Nat) = mkM z [] [mL, mE a1 n1 m1 a2 n2 m2 a3 n3 m3] (0 : Nat) ∧ 40960 = othF (z.n 100000)) ∧ ((bits BinOp.and u16 (z.n 100000) (16 : Int) != 0) = false → (((0 : Int) ≤ (0 : Int) ∧ (0 : Int) ≤ 40960) ∧ True) ∧ mkM z [] [mL, mE a1 n1 m1 a2 n2 m2 a3 n3 m3] (0 : Nat) = mkM z [] [mL, mE a1 n1 m1 a2 n2 m2 a3 n3 m3] (0 : Nat) ∧ 0 = othF (z.n 100000))) := by kernel_rfl
theorem bmpE_c (E : World) (a1 : Option Addr) (n1 m1 : Nat) (a2 : Option Addr) (n2 m2 : Nat) (a3 : Option Addr) (n3 m3 : Nat)  (z : PX) (hz : rgM z [mL, mE a1 n1 m1 a2 n2 m2 a3 n3 m3] 0) (hp : (fun z => (EOk E a1 n1 ∧ EOk E a2 n2)) z) : HR (pe E) 40 [.c (.p 0 0)] [mL, mE a1 n1 m1 a2 n2 m2 a3 n3 m3] [] (.c (.r .i64 0 40960)) (fun z y => y.n 90000 = othF (z.n 100000)) z := by
  refine HR.mk true (by rfl) (by rfl) (fnTree_sound (P := pe E) (orcCE_ok (a1 := a1) (n1 := n1) (m1 := m1) (a2 := a2) (n2 := n2) (m2 := m2) (a3 := a3) (n3 := n3) (m3 := m3)) tab_ok tab_sz mixed 20000 Try.func40 (by decide) [.c (.p 0 0)] _) ⟨?_⟩
  rw [bmpE_p]
  obtain ⟨hK1, hK2⟩ := hp
  obtain ⟨q1, q2, q3, q4, _⟩ := hz.1
  replace q1 : 0 ≤ z.n 1 ∧ z.n 1 ≤ 3 := q1
  replace q2 : 0 ≤ z.n 2 ∧ z.n 2 ≤ 65535 := q2
  replace q3 : 0 ≤ z.n 3 ∧ z.n 3 ≤ 159 := q3
  replace q4 : 0 ≤ z.n 4 ∧ z.n 4 ≤ 15 := q4
  obtain ⟨r0, r1, r2, r3, r4, r5, r6, r7, r8, r9, r10, r11, r12, r13, r14, r15, r16, r17, r18, r19, r20, r21, r22, r23, r24, r25, _⟩ := hz.2.1
  rw [ab16 _ r0]
  unfold othF
  simp only [decide_eq_true_eq, decide_eq_false_iff_not]
  refine ⟨fun h => ?_, fun h => ?_⟩
  · rw [if_pos h]
    (repeat' (first | exact trivial | with_reducible rfl | exact decide_eq_true rfl | exact decide_eq_true trivial | exact sameB_self _ | with_reducible assumption | apply And.intro)) <;> (first | omega | done)
  · rw [if_neg h]
    (repeat' (first | exact trivial | with_reducible rfl | exact decide_eq_true rfl | exact decide_eq_true trivial | exact sameB_self _ | with_reducible assumption | apply And.intro)) <;> (first | omega | done)
noncomputable def orcVE (E : World) (a1 : Option Addr) (n1 m1 : Nat) (a2 : Option Addr) (n2 m2 : Nat) (a3 : Option Addr) (n3 m3 : Nat) : Orc := fun g vs s => match g with
  | 38 => (match frGo [mL, mE a1 n1 m1 a2 n2 m2 a3 n3 m3] vs s (fun vs0 π s1 s0 => match vs0 with
      | [.c (.p 0 0), .c (.i l2 .i64 n)] => some (hrG (pre := fun z => (EOk E a1 n1 ∧ EOk E a2 n2) ∧ 0 ≤ n ∧ n ≤ 255) (fun z hz hp => HR.args (vs := [.c (.p 0 0), .c (.i l2 .i64 n)]) (by simp [simL, SV.sim, C.sim]) (visE_c E a1 n1 m1 a2 n2 m2 a3 n3 m3 n z hz hp)) (by rfl) π s1 s0)
      | _ => none) with
    | some t => some t
    | none => (orcCE E a1 n1 m1 a2 n2 m2 a3 n3 m3) g vs s)
  | 42 => (match frGo [mL, mE a1 n1 m1 a2 n2 m2 a3 n3 m3] vs s (fun vs0 π s1 s0 => match vs0 with
      | [.c (.p 0 0), .c (.i l2 .i64 n)] => some (hrG (pre := fun z => (EOk E a1 n1 ∧ EOk E a2 n2) ∧ 0 ≤ n ∧ n ≤ 1000000) (fun z hz hp => HR.args (vs := [.c (.p 0 0), .c (.i l2 .i64 n)]) (by simp [simL, SV.sim, C.sim]) (tileE_c E a1 n1 m1 a2 n2 m2 a3 n3 m3 n z hz hp)) (by rfl) π s1 s0)
      | _ => none) with
    | some t => some t
    | none => (orcCE E a1 n1 m1 a2 n2 m2 a3 n3 m3) g vs s)
  | 41 => (match frGo [mL, mE a1 n1 m1 a2 n2 m2 a3 n3 m3] vs s (fun vs0 π s1 s0 => match vs0 with
      | [.c (.p 0 0)] => some (hrG (pre := fun z => (EOk E a1 n1 ∧ EOk E a2 n2)) (fun z hz hp => HR.args (vs := [.c (.p 0 0)]) (by simp [simL, SV.sim, C.sim]) (tabE_c E a1 n1 m1 a2 n2 m2 a3 n3 m3  z hz hp)) (by rfl) π s1 s0)
      | _ => none) with
    | some t => some t
    | none => (orcCE E a1 n1 m1 a2 n2 m2 a3 n3 m3) g vs s)
  | 43 => (match frGo [mL, mE a1 n1 m1 a2 n2 m2 a3 n3 m3] vs s (fun vs0 π s1 s0 => match vs0 with
      | [.c (.p 0 0)] => some (hrG (pre := fun z => (EOk E a1 n1 ∧ EOk E a2 n2)) (fun z hz hp => HR.args (vs := [.c (.p 0 0)]) (by simp [simL, SV.sim, C.sim]) (tlsE_c E a1 n1 m1 a2 n2 m2 a3 n3 m3  z hz hp)) (by rfl) π s1 s0)
      | _ => none) with
    | some t => some t
    | none => (orcCE E a1 n1 m1 a2 n2 m2 a3 n3 m3) g vs s)
  | 40 => (match frGo [mL, mE a1 n1 m1 a2 n2 m2 a3 n3 m3] vs s (fun vs0 π s1 s0 => match vs0 with
      | [.c (.p 0 0)] => some (hrG (pre := fun z => (EOk E a1 n1 ∧ EOk E a2 n2)) (fun z hz hp => HR.args (vs := [.c (.p 0 0)]) (by simp [simL, SV.sim, C.sim]) (bmpE_c E a1 n1 m1 a2 n2 m2 a3 n3 m3  z hz hp)) (by rfl) π s1 s0)
      | _ => none) with
    | some t => some t
    | none => (orcCE E a1 n1 m1 a2 n2 m2 a3 n3 m3) g vs s)
  | g => (orcCE E a1 n1 m1 a2 n2 m2 a3 n3 m3) g vs s
theorem orcVE_ok {E : World} {a1 : Option Addr} {n1 m1 : Nat} {a2 : Option Addr} {n2 m2 : Nat} {a3 : Option Addr} {n3 m3 : Nat} : OrcOK (pe E) (orcVE E a1 n1 m1 a2 n2 m2 a3 n3 m3) := by
  intro g vs s t h
  unfold orcVE at h
  split at h
  · split at h
    · rename_i hfr; cases h
      obtain ⟨π, s1, hq, hK, hv, hok, hpd⟩ := frGo_spec (P := pe E) hfr
      split at hK
      · rename_i heq; cases hK
        rw [heq] at hv hok
        exact hpd _ _ (hrG_ok _ _ (by rfl) π s1 hq hv hok)
      · cases hK
    · exact orcCE_ok _ _ _ _ h
  · split at h
    · rename_i hfr; cases h
      obtain ⟨π, s1, hq, hK, hv, hok, hpd⟩ := frGo_spec (P := pe E) hfr
      split at hK
      · rename_i heq; cases hK
        rw [heq] at hv hok
        exact hpd _ _ (hrG_ok _ _ (by rfl) π s1 hq hv hok)
      · cases hK
    · exact orcCE_ok _ _ _ _ h
  · split at h
    · rename_i hfr; cases h
      obtain ⟨π, s1, hq, hK, hv, hok, hpd⟩ := frGo_spec (P := pe E) hfr
      split at hK
      · rename_i heq; cases hK
        rw [heq] at hv hok
        exact hpd _ _ (hrG_ok _ _ (by rfl) π s1 hq hv hok)
      · cases hK
    · exact orcCE_ok _ _ _ _ h
  · split at h
    · rename_i hfr; cases h
      obtain ⟨π, s1, hq, hK, hv, hok, hpd⟩ := frGo_spec (P := pe E) hfr
      split at hK
      · rename_i heq; cases hK
        rw [heq] at hv hok
        exact hpd _ _ (hrG_ok _ _ (by rfl) π s1 hq hv hok)
      · cases hK
    · exact orcCE_ok _ _ _ _ h
  · split at h
    · rename_i hfr; cases h
      obtain ⟨π, s1, hq, hK, hv, hok, hpd⟩ := frGo_spec (P := pe E) hfr
      split at hK
      · rename_i heq; cases hK
        rw [heq] at hv hok
        exact hpd _ _ (hrG_ok _ _ (by rfl) π s1 hq hv hok)
      · cases hK
    · exact orcCE_ok _ _ _ _ h
  · exact orcCE_ok _ _ _ _ h
end Go.Proofs.Ytdomhmajoclpeaa

