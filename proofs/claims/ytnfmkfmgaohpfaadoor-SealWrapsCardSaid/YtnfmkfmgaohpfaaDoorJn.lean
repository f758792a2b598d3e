import Derived.Test.YtnfmkfmgaohpfaaDoorSh
import Derived.WalkKit
import Derived.Deep.LoopGhost
import Derived.Deep.DeepCutAuto
import Derived.Deep.DeepFit
import Derived.BigCall
import Derived.BigGuard
set_option linter.unusedVariables false
set_option linter.unusedSimpArgs false
namespace Go.Proofs
open Go.Shelf Go.RowKit
theorem Tryd.hid {p : Prop} (h : p) : Hid p := h
theorem Tryd.Builder_Write (B b : Nat) (bs : List Value) (s : ByteArray) (w : World) (h : Lib.IsBuilder 70 5 B b bs w) (hlen : bs.length + s.size ≤ 140737488355328) (hBw : B ≤ w.heap.size) :
    Calls Tryd.prog 38 #[.pointer (some ⟨b, 0, none⟩), .string s] w fun e w' => e = .returned (.tuple #[.int .i64 s.size, .nilIface]) ∧ (Lib.BuilderAt 70 5 B b (.pointer (some ⟨b, 0, none⟩)) (bs ++ Lib.strCells s) w' ∧ Below B w w') :=
  Any.Builder_WriteString { Tryd.lays105 with } Tryd.Builder_Extra_105 B b bs s w h hlen hBw
def catJ (xs : List ByteArray) : List UInt8 := (xs.map (·.data.toList)).flatten
theorem catJ_nil : catJ [] = [] := rfl
theorem catJ_cons (x : ByteArray) (xs : List ByteArray) : catJ (x :: xs) = x.data.toList ++ catJ xs := rfl
theorem catJ_take_succ (xs : List ByteArray) (k : Nat) (y : ByteArray) (h : xs[k]? = some y) : catJ (xs.take (k + 1)) = catJ (xs.take k) ++ y.data.toList := by
  unfold catJ
  rw [List.take_add_one, h]
  simp
theorem catJ_len_take (xs : List ByteArray) (k : Nat) : (catJ (xs.take k)).length ≤ (catJ xs).length := by
  have : catJ xs = catJ (xs.take k) ++ catJ (xs.drop k) := by
    unfold catJ
    rw [← List.flatten_append, ← List.map_append, List.take_append_drop]
  rw [this, List.length_append]; omega
set_option maxHeartbeats 4000000 in
set_option maxRecDepth 100000 in
theorem Tryd.join_calls (bk o c : Nat) (xs : List ByteArray) (w : World)
    (hcells : ∀ (j : Nat) x, xs[j]? = some x → w.cell? ⟨bk, o + j, none⟩ = some (.string x)) (hbk : bk < w.heap.size) (hN : xs.length ≤ 1000000) (hcap : xs.length ≤ c)
    (hlen : (catJ xs).length ≤ 140737488355328) :
    Calls Tryd.prog 26 #[.slice (some ⟨bk, o, none⟩) xs.length c] w fun e w' => e = .returned (.string ⟨(catJ xs).toArray⟩) ∧ Below w.heap.size w w' := by
  have HC := Tryd.hid hcells
  have Hlen := Tryd.hid hlen
  clear hcells hlen
  go_enter Tryd.func26, Tryd.ntmps26
  go_wp2_with fail
  go_loop [3, 11] (fun n i => ∃ k : Nat, k ≤ xs.length ∧ i = .int .i64 k ∧ n = .int .i64 (((catJ (xs.take k)).length : Nat) : Int)) (fun _ i => xs.length - (intOf i).toNat)
  case atStart => exact ⟨0, Nat.zero_le _, rfl, by simp [catJ]⟩
  case round =>
    obtain ⟨k, hk, rfl, rfl⟩ := hrel
    by_cases hkn : k < xs.length
    · obtain ⟨x, hx⟩ : ∃ x, xs[k]? = some x := ⟨xs[k], List.getElem?_eq_getElem hkn⟩
      have hc := HC.out k x hx
      have hstep : (catJ (xs.take (k + 1))).length = (catJ (xs.take k)).length + x.size := by
        rw [catJ_take_succ xs k x hx, List.length_append, ← Lib.size_eq]
      have hbound : (catJ (xs.take (k + 1))).length ≤ 140737488355328 := Nat.le_trans (catJ_len_take xs (k + 1)) Hlen.out
      generalize hA1 : (catJ (xs.take (k + 1))).length = A1 at hstep hbound
      generalize (catJ (xs.take k)).length = A0 at hstep
      have HA1 := Tryd.hid hA1
      clear hA1
      go_wp2
      exact ⟨⟨k + 1, by omega, by go_num, by rw [HA1.out]; refine congrArg _ ?_; omega⟩, by simp [intOf]; omega⟩
    · have hke : k = xs.length := by omega
      subst hke
      have hall : xs.take xs.length = xs := List.take_of_length_le (Nat.le_refl _)
      rw [hall]
      generalize hT : (catJ xs).length = T
      have hT2 : T ≤ 140737488355328 := by rw [← hT]; exact Hlen.out
      have HT := Tryd.hid hT
      clear hT hall
      go_wp2_with fail
      refine (Tryd.Builder_Grow_fresh w.heap.size w.heap.size T _ (Nat.le_refl _) (heap_alloc_new w _) (by simp) (by omega)).mono ?_
      rintro e w1 ⟨rfl, h1, hb1⟩
      have hb1' : Below w.heap.size w w1 := ((Below.refl w.heap.size w).alloc (Nat.le_refl _) _).trans hb1
      have H1 := Tryd.hid (Or.inr h1 : Lib.IsBuilder 70 5 w.heap.size w.heap.size [] w1)
      have Hb1 := Tryd.hid hb1'
      clear h1 hb1 hb1'
      go_wp2_with fail
      go_loopw [24] (fun i wr => ∃ k : Nat, k ≤ xs.length ∧ i = .int .i64 k ∧ Hid (Lib.IsBuilder 70 5 w.heap.size w.heap.size (Lib.byteCells (catJ (xs.take k))) wr) ∧ Hid (Below w.heap.size w wr)) (fun i _ => xs.length - (intOf i).toNat)
      case atStart => exact ⟨0, Nat.zero_le _, rfl, H1, Hb1⟩
      case round =>
        obtain ⟨k, hk', rfl, HB, HW⟩ := hrel
        by_cases hkr : k < xs.length
        · obtain ⟨y, hy⟩ : ∃ y, xs[k]? = some y := ⟨xs[k], List.getElem?_eq_getElem hkr⟩
          have hcy : wr.cell? ⟨bk, o + k, none⟩ = some (.string y) := by
            rw [HW.out.cell (p := ⟨bk, o + k, none⟩) hbk]
            exact HC.out k y hy
          have hBw : w.heap.size ≤ wr.heap.size := HW.out.size
          have hnext : Lib.byteCells (catJ (xs.take k)) ++ Lib.strCells y = Lib.byteCells (catJ (xs.take (k + 1))) := by
            rw [catJ_take_succ xs k y hy, Lib.strCells_eq, Lib.byteCells_append]
          have hl : (Lib.byteCells (catJ (xs.take k))).length + y.size ≤ 140737488355328 := by
            have h1 := Nat.le_trans (catJ_len_take xs (k + 1)) Hlen.out
            rw [catJ_take_succ xs k y hy, List.length_append, ← Lib.size_eq] at h1
            rw [Lib.byteCells_length]; exact h1
          have Hn := Tryd.hid hnext
          have Hl := Tryd.hid hl
          clear hnext hy hl
          go_wp2_with fail
          refine (Tryd.Builder_Write w.heap.size w.heap.size _ y wr HB.out Hl.out hBw).mono ?_
          rintro e w4 ⟨rfl, h4, hb4⟩
          rw [Hn.out] at h4
          have H4 := Tryd.hid (Or.inr h4 : Lib.IsBuilder 70 5 w.heap.size w.heap.size _ w4)
          have Hb4 := Tryd.hid (HW.out.trans hb4)
          clear h4 hb4
          go_wp2
          exact ⟨⟨k + 1, by omega, by go_num, H4, Hb4⟩, by simp [intOf]; omega⟩
        · have hke : k = xs.length := by omega
          subst hke
          have hB' := HB.out
          rw [List.take_of_length_le (Nat.le_refl _)] at hB'
          have hBw : w.heap.size ≤ wr.heap.size := HW.out.size
          go_wp2_with fail
          refine (Tryd.Builder_String_any w.heap.size w.heap.size _ wr hB' hBw).mono ?_
          rintro e w5 ⟨rfl, hb5⟩
          have Hb5 := Tryd.hid (HW.out.trans hb5)
          clear hb5 hB'
          go_wp2
          go_ret
          exact ⟨rfl, Hb5.out⟩
end Go.Proofs

