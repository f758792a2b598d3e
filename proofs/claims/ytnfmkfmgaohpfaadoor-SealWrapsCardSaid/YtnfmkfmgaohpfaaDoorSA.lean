import Derived.Test.YtnfmkfmgaohpfaaDoorB
set_option linter.unusedVariables false
set_option linter.unusedSimpArgs false
namespace Go.Proofs.YtnfmkfmgaohpfaaDoor
open Go Go.Proofs Go.Proofs.YtnfmkfmgaohpfaaDoor.Ev Go.Proofs.YtnfmkfmgaohpfaaDoor.Ev.Ho
set_option maxRecDepth 100000
noncomputable def gA : Option Addr := some ⟨0, 0, none⟩
structure GOK (E : World) : Prop where
  ok : ∀ i : Nat, i < 16 → eOk E gA i (.i .u32) = true
noncomputable def hf (E : World) (c : Int) : Int := bits .xor .u32 (c.fdiv 16) (eI E (some (Addr.mk 0 0 none)) ((bits .and .u32 c 15).toNat * 1 + 0))
noncomputable def stp (E : World) (c : Int) (b : Int) : Int := hf E (hf E (bits .xor .u32 c (IntKind.u32.wrap b)))
noncomputable def cF (E : World) (s : ByteArray) : Nat → Int
  | 0 => 4294967295
  | n + 1 => stp E (cF E s n) (strB s n)
theorem sumF_ex (E : World) (s : ByteArray) : ∃ x : Int, x = bits .xor .u32 4294967295 (cF E s s.size) := ⟨_, rfl⟩
noncomputable def sumF (E : World) (s : ByteArray) : Int := Classical.choose (sumF_ex E s)
theorem sumF_eq (E : World) (s : ByteArray) : sumF E s = bits .xor .u32 4294967295 (cF E s s.size) := Classical.choose_spec (sumF_ex E s)
noncomputable def s14_td (E : World) : List Item := headOf (run (pe E) (orcL E) (tabL fns) 20000 (2 ^ 200 - 1) [.code (Tryd.f14.body.getD .skip)] ⟨Tryd.f14.ntmps, mkFrGo (Tr.mk 12) 0 [.c (.str false default)]⟩ [])
structure CH (E : World) (s : ByteArray) (c i : Int) : Prop where
  e : c = cF E s i.toNat
  l : i ≤ s.size
theorem slen (E : World) :
    ((s14_td E).length = 1000) =
    ((4 : Nat) = (1000 : Nat)) := by kernel_rfl
theorem bits_rg (op : BinOp) (x y : Int) : 0 ≤ bits op .u32 x y ∧ bits op .u32 x y ≤ 4294967295 := by
  unfold bits
  try simp only []
  rw [wu32]; omega
theorem m15 (x : Int) : bits .and .u32 x 15 = x % 16 := by
  have am := and_mask .u32 x 4 (.inl (by decide))
  have e : (2 : Int) ^ 4 = 16 := rfl
  have e1 : (16 : Int) - 1 = 15 := rfl
  rw [e, e1] at am; exact am
theorem GOK.row {E : World} (h : GOK E) (x : Int) : eRow E (some (Addr.mk 0 0 none)) ((bits .and .u32 x 15).toNat * 1 + 0) [EK.i .u32] = true := by
  have hm := m15 x
  simp only [eRow, Bool.and_true]
  exact h.ok _ (by rw [hm]; omega)
theorem in16 (x : Int) : inB (bits .and .u32 x 15) 16 = true := by
  have hm := m15 x
  rw [hm]
  simp only [inB, Bool.and_eq_true, decide_eq_true_eq]; omega
noncomputable def sum_h0 (E : World) (s : ByteArray) (z : PX) : Hd := ⟨4, anyH, (s14_td E), [(0, .q (.str false s)), (3, .r .u32 (0) (4294967295)), (4, .r .i64 (0) (4611686018427387904))], [], fun y => CH E s (y.n 91003) (y.n 91004), fun y => ((s.size : Int) - y.n 91004).toNat⟩
noncomputable def sum_hs (E : World) (s : ByteArray) (z : PX) : List Hd := [sum_h0 E s z]
theorem sum_pro (E : World) (s : ByteArray) (z : PX) :
    (loopP (pe E) Tryd.f14 (endR ([] : List MB).length [] (.c (.r .u32 0 4294967295)) (fun z y => y.n 90000 = sumF E s) z) (headR ([] : List MB).length Tryd.f14.ntmps none (sum_hs E s z)) (run (pe E) (orcL E) (tabL fns) 20000 (2 ^ 200 - 1) [.code (Tryd.f14.body.getD .skip)] ⟨Tryd.f14.ntmps, mkFrGo (Tr.mk 12) 0 [.c (.str false s)]⟩ (mkM z [] [] 0))) =
    (s14_td E = s14_td E ∧ (33 : Nat) = (33 : Nat) ∧ ((renC (posN []) (C.str false s) = C.str false s ∧ True) ∧ (((0 : Int) ≤ (4294967295 : Int) ∧ (4294967295 : Int) ≤
      (4294967295 : Int)) ∧ True) ∧ (((0 : Int) ≤ (0 : Int) ∧ (0 : Int) ≤ (4611686018427387904 : Int)) ∧ True) ∧ True) ∧ ([] : SW) = [] ∧ CH E s (4294967295 : Int) (0 : Int) ∧
      True) := by kernel_rfl
theorem sum_r0 (E : World) (s : ByteArray) (z : PX) (y : PX) :
    (loopP (pe E) Tryd.f14 (endR ([] : List MB).length [] (.c (.r .u32 0 4294967295)) (fun z y => y.n 90000 = sumF E s) z) (headR ([] : List MB).length Tryd.f14.ntmps (some ((fun y => ((s.size : Int) - y.n 91004).toNat) y)) (sum_hs E s z))  (run (pe E) (orcL E) (tabL fns) 20000 (2 ^ 200 - 1) (s14_td E) (mkL Tryd.f14.ntmps (slC y [(0, .q (.str false s)), (3, .r .u32 (0) (4294967295)), (4, .r .i64 (0) (4611686018427387904))])) (mkM y [] [] 0))) =
    ((decide (y.n (91004 : Nat) < (↑s.size : Int)) = true → inB (y.n (91004 : Nat)) s.size = true ∧ inB (bits BinOp.and IntKind.u32 (bits BinOp.xor IntKind.u32 (y.n (91003 :
      Nat)) (IntKind.u32.wrap (strB s (y.n (91004 : Nat))))) (15 : Int)) (16 : Nat) = true ∧ (some (Addr.mk (0 : Nat) (0 : Nat) none)).isSome = true ∧ eRow E (some (Addr.mk (0 :
      Nat) (0 : Nat) none)) ((bits BinOp.and IntKind.u32 (bits BinOp.xor IntKind.u32 (y.n (91003 : Nat)) (IntKind.u32.wrap (strB s (y.n (91004 : Nat))))) (15 : Int)).toNat * (1
      : Nat) + (0 : Nat)) [EK.i IntKind.u32] = true ∧ inB (bits BinOp.and IntKind.u32 (bits BinOp.xor IntKind.u32 ((bits BinOp.xor IntKind.u32 (y.n (91003 : Nat))
      (IntKind.u32.wrap (strB s (y.n (91004 : Nat))))).fdiv (16 : Int)) (eI E (some (Addr.mk (0 : Nat) (0 : Nat) none)) ((bits BinOp.and IntKind.u32 (bits BinOp.xor IntKind.u32
      (y.n (91003 : Nat)) (IntKind.u32.wrap (strB s (y.n (91004 : Nat))))) (15 : Int)).toNat * (1 : Nat) + (0 : Nat)))) (15 : Int)) (16 : Nat) = true ∧ (some (Addr.mk (0 : Nat)
      (0 : Nat) none)).isSome = true ∧ eRow E (some (Addr.mk (0 : Nat) (0 : Nat) none)) ((bits BinOp.and IntKind.u32 (bits BinOp.xor IntKind.u32 ((bits BinOp.xor IntKind.u32
      (y.n (91003 : Nat)) (IntKind.u32.wrap (strB s (y.n (91004 : Nat))))).fdiv (16 : Int)) (eI E (some (Addr.mk (0 : Nat) (0 : Nat) none)) ((bits BinOp.and IntKind.u32 (bits
      BinOp.xor IntKind.u32 (y.n (91003 : Nat)) (IntKind.u32.wrap (strB s (y.n (91004 : Nat))))) (15 : Int)).toNat * (1 : Nat) + (0 : Nat)))) (15 : Int)).toNat * (1 : Nat) + (0
      : Nat)) [EK.i IntKind.u32] = true ∧ s14_td E = s14_td E ∧ (33 : Nat) = (33 : Nat) ∧ ((renC (posN []) (C.str false s) = C.str false s ∧ True) ∧ (((0 : Int) ≤ bits BinOp.xor
      IntKind.u32 ((bits BinOp.xor IntKind.u32 ((bits BinOp.xor IntKind.u32 (y.n (91003 : Nat)) (IntKind.u32.wrap (strB s (y.n (91004 : Nat))))).fdiv (16 : Int)) (eI E (some
      (Addr.mk (0 : Nat) (0 : Nat) none)) ((bits BinOp.and IntKind.u32 (bits BinOp.xor IntKind.u32 (y.n (91003 : Nat)) (IntKind.u32.wrap (strB s (y.n (91004 : Nat))))) (15 :
      Int)).toNat * (1 : Nat) + (0 : Nat)))).fdiv (16 : Int)) (eI E (some (Addr.mk (0 : Nat) (0 : Nat) none)) ((bits BinOp.and IntKind.u32 (bits BinOp.xor IntKind.u32 ((bits
      BinOp.xor IntKind.u32 (y.n (91003 : Nat)) (IntKind.u32.wrap (strB s (y.n (91004 : Nat))))).fdiv (16 : Int)) (eI E (some (Addr.mk (0 : Nat) (0 : Nat) none)) ((bits
      BinOp.and IntKind.u32 (bits BinOp.xor IntKind.u32 (y.n (91003 : Nat)) (IntKind.u32.wrap (strB s (y.n (91004 : Nat))))) (15 : Int)).toNat * (1 : Nat) + (0 : Nat)))) (15 :
      Int)).toNat * (1 : Nat) + (0 : Nat))) ∧ bits BinOp.xor IntKind.u32 ((bits BinOp.xor IntKind.u32 ((bits BinOp.xor IntKind.u32 (y.n (91003 : Nat)) (IntKind.u32.wrap (strB s
      (y.n (91004 : Nat))))).fdiv (16 : Int)) (eI E (some (Addr.mk (0 : Nat) (0 : Nat) none)) ((bits BinOp.and IntKind.u32 (bits BinOp.xor IntKind.u32 (y.n (91003 : Nat))
      (IntKind.u32.wrap (strB s (y.n (91004 : Nat))))) (15 : Int)).toNat * (1 : Nat) + (0 : Nat)))).fdiv (16 : Int)) (eI E (some (Addr.mk (0 : Nat) (0 : Nat) none)) ((bits
      BinOp.and IntKind.u32 (bits BinOp.xor IntKind.u32 ((bits BinOp.xor IntKind.u32 (y.n (91003 : Nat)) (IntKind.u32.wrap (strB s (y.n (91004 : Nat))))).fdiv (16 : Int)) (eI E
      (some (Addr.mk (0 : Nat) (0 : Nat) none)) ((bits BinOp.and IntKind.u32 (bits BinOp.xor IntKind.u32 (y.n (91003 : Nat)) (IntKind.u32.wrap (strB s (y.n (91004 : Nat))))) (15
      : Int)).toNat * (1 : Nat) + (0 : Nat)))) (15 : Int)).toNat * (1 : Nat) + (0 : Nat))) ≤ (4294967295 : Int)) ∧ True) ∧ (((0 : Int) ≤ IntKind.i64.wrap (y.n (91004 : Nat) + (1
      : Int)) ∧ IntKind.i64.wrap (y.n (91004 : Nat) + (1 : Int)) ≤ (4611686018427387904 : Int)) ∧ True) ∧ True) ∧ ([] : SW) = [] ∧ CH E s (bits BinOp.xor IntKind.u32 ((bits
      BinOp.xor IntKind.u32 ((bits BinOp.xor IntKind.u32 (y.n (91003 : Nat)) (IntKind.u32.wrap (strB s (y.n (91004 : Nat))))).fdiv (16 : Int)) (eI E (some (Addr.mk (0 : Nat) (0
      : Nat) none)) ((bits BinOp.and IntKind.u32 (bits BinOp.xor IntKind.u32 (y.n (91003 : Nat)) (IntKind.u32.wrap (strB s (y.n (91004 : Nat))))) (15 : Int)).toNat * (1 : Nat) +
      (0 : Nat)))).fdiv (16 : Int)) (eI E (some (Addr.mk (0 : Nat) (0 : Nat) none)) ((bits BinOp.and IntKind.u32 (bits BinOp.xor IntKind.u32 ((bits BinOp.xor IntKind.u32 (y.n
      (91003 : Nat)) (IntKind.u32.wrap (strB s (y.n (91004 : Nat))))).fdiv (16 : Int)) (eI E (some (Addr.mk (0 : Nat) (0 : Nat) none)) ((bits BinOp.and IntKind.u32 (bits
      BinOp.xor IntKind.u32 (y.n (91003 : Nat)) (IntKind.u32.wrap (strB s (y.n (91004 : Nat))))) (15 : Int)).toNat * (1 : Nat) + (0 : Nat)))) (15 : Int)).toNat * (1 : Nat) + (0
      : Nat)))) (IntKind.i64.wrap (y.n (91004 : Nat) + (1 : Int))) ∧ ((↑s.size : Int) - IntKind.i64.wrap (y.n (91004 : Nat) + (1 : Int))).toNat < ((↑s.size : Int) - y.n (91004 :
      Nat)).toNat ∧ True) ∧ (decide (y.n (91004 : Nat) < (↑s.size : Int)) = false → ([] : SW) = [] ∧ (((0 : Int) ≤ bits BinOp.xor IntKind.u32 (4294967295 : Int) (y.n (91003 :
      Nat)) ∧ bits BinOp.xor IntKind.u32 (4294967295 : Int) (y.n (91003 : Nat)) ≤ (4294967295 : Int)) ∧ True) ∧ bits BinOp.xor IntKind.u32 (4294967295 : Int) (y.n (91003 : Nat))
      = sumF E s)) := by kernel_rfl
set_option maxHeartbeats 8000000 in
theorem sum_q0 (E : World) (s : ByteArray) (z : PX) (hp : (fun _ => GOK E ∧ s.size ≤ 4611686018427387904) z) (y : PX) (hy1 : rgM y [] 0) (hy2 : rgF y [(0, .q (.str false s)), (3, .r .u32 (0) (4294967295)), (4, .r .i64 (0) (4611686018427387904))]) (hy3 : (fun y => CH E s (y.n 91003) (y.n 91004)) y) : Holds ((run (pe E) (orcL E) (tabL fns) 20000 (2 ^ 200 - 1) (s14_td E) (mkL Tryd.f14.ntmps (slC y [(0, .q (.str false s)), (3, .r .u32 (0) (4294967295)), (4, .r .i64 (0) (4611686018427387904))])) (mkM y [] [] 0)).OK (lfP (pe E) Tryd.f14 (endR ([] : List MB).length [] (.c (.r .u32 0 4294967295)) (fun z y => y.n 90000 = sumF E s) z) (headR ([] : List MB).length Tryd.f14.ntmps (some ((fun y => ((s.size : Int) - y.n 91004).toNat) y)) (sum_hs E s z)))) := by
  refine loopP_lfH ⟨?_⟩
  rw [sum_r0]
  have hf : True ∧ (((0) ≤ y.n 91003 ∧ y.n 91003 ≤ (4294967295)) ∧ True) ∧ (((0) ≤ y.n 91004 ∧ y.n 91004 ≤ (4611686018427387904)) ∧ True) ∧ True := hy2
  obtain ⟨_, ⟨g3, _⟩, ⟨g4, _⟩, _⟩ := hf
  have hG := hp.1
  have hs := hp.2
  have hy : CH E s (y.n 91003) (y.n 91004) := hy3
  refine ⟨fun h => ?_, fun h => ?_⟩
  · have hi := of_decide_eq_true h
    have i1 : IntKind.i64.wrap (y.n 91004 + 1) = y.n 91004 + 1 := by rw [wi64]; omega
    have hin : inB (y.n 91004) s.size = true := by simp only [inB, Bool.and_eq_true, decide_eq_true_eq]; omega
    have hc : stp E (y.n 91003) (strB s (y.n 91004)) = cF E s (y.n 91004 + 1).toNat := by
      rw [show (y.n 91004 + 1).toNat = (y.n 91004).toNat + 1 by omega]
      simp only [cF]
      rw [← hy.e, show (((y.n 91004).toNat : Nat) : Int) = y.n 91004 by omega]
    have hrg := bits_rg
    simp only [i1]
    (repeat' (first | exact trivial | with_reducible rfl | exact (rfl : renC _ _ = _) | exact hG.row _ | exact in16 _ | with_reducible assumption | exact (hrg _ _ _).1 | exact (hrg _ _ _).2 | apply And.intro)) <;> first | exact rfl | exact ⟨hc, by omega⟩ | omega
  · have hi := of_decide_eq_false h
    have hl := hy.l
    have hrg := bits_rg
    (repeat' (first | exact trivial | with_reducible rfl | exact (hrg _ _ _).1 | exact (hrg _ _ _).2 | apply And.intro))
    rw [sumF_eq, hy.e, show (y.n 91004).toNat = s.size by omega]
set_option maxHeartbeats 8000000 in
theorem sum_c (E : World) (s : ByteArray) (z : PX) (hz : rgM z [] 0) (hp : (fun _ => GOK E ∧ s.size ≤ 4611686018427387904) z) : HD (pe E) 14 [.c (.str false s)] [] [] (.c (.r .u32 0 4294967295)) (fun z y => y.n 90000 = sumF E s) z := by
  refine HD.loop (P := pe E) orcL_ok tab_ok tab_sz mixed Tryd.func14 (c := Tryd.f14.body.getD .skip) rfl (by decide) (Nat.le_of_ble_eq_true rfl) (by rfl) 20000 (2 ^ 200 - 1) (sum_hs E s z) (by rfl) (loopP_lfH ⟨?_⟩) ?_
  · rw [sum_pro]
    (repeat' (first | exact trivial | with_reducible rfl | exact (rfl : renC _ _ = _) | apply And.intro)) <;> first | exact rfl | exact ⟨rfl, by omega⟩ | omega
  · intro h hmem y hy1 hy2 hy3
    simp only [sum_hs, List.mem_cons, List.not_mem_nil, or_false] at hmem
    rcases hmem with rfl
    · exact sum_q0 E s z hp y hy1 hy2 hy3
end Go.Proofs.YtnfmkfmgaohpfaaDoor

