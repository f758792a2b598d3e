import Derived.Test.YtnfmkfmgaohpfaaDoorSKl
set_option linter.unusedVariables false
set_option linter.unusedSimpArgs false
namespace Go.Proofs.YtnfmkfmgaohpfaaDoor
open Go Go.Proofs Go.Proofs.YtnfmkfmgaohpfaaDoor.Ev Go.Proofs.YtnfmkfmgaohpfaaDoor.Ev.Ho
set_option maxRecDepth 100000
theorem bk_p (E : World) (z : PX) (q k a : Int) (d : ByteArray) (n : Int) :
    (hdP ([] : List MB).length [] (.c .b) (fun z y => y.b 90000 = true) z (fnTree (pe E) (orcA E) (tabL fns) 20000 Tryd.f5 [.a [.i false .u32 q, .i false .i64 k, .i false .i64 a, .str false d], .c (.i false .i64 n)] (mkM z [] [] 0))) =
    ((([] : SW) = [] ∧ GOK E) ∧ ∀ (y : PX), True ∧ True ∧ True → (([] : SW) = [] ∧ GOK E ∧ (0 : Int) ≤ q ∧ q ≤ (4294967295 : Int)) ∧ ∀ (y : PX), True ∧ True ∧ RcQ E q k a d
      (y.s (90000 : Nat)) (y.n (90001 : Nat)) → ((y.n (90001 : Nat) != (0 : Int)) = true → ((y.n (90001 : Nat) == (1 : Int)) = true → ((!vlF k a d) = true → ([] : SW) = [] ∧
      True ∧ true = true) ∧ ((!vlF k a d) = false → ([] : SW) = [] ∧ True ∧ false = true)) ∧ ((y.n (90001 : Nat) == (1 : Int)) = false → ([] : SW) = [] ∧ True ∧ false = true)) ∧
      ((y.n (90001 : Nat) != (0 : Int)) = false → (([] : SW) = [] ∧ GOK E ∧ (y.s (90000 : Nat)).size ≤ (4611686018427387904 : Nat)) ∧ ∀ (y_1 : PX), True ∧ True ∧ RdQ E (y.s
      (90000 : Nat)) (y_1.n (90000 : Nat)) (y_1.n (90001 : Nat)) (y_1.n (90002 : Nat)) (y_1.s (90003 : Nat)) (y_1.n (90004 : Nat)) → ((y_1.n (90004 : Nat) != (0 : Int)) = true →
      ([] : SW) = [] ∧ True ∧ false = true) ∧ ((y_1.n (90004 : Nat) != (0 : Int)) = false → ((true ^^ y_1.n (90000 : Nat) == q && (y_1.n (90001 : Nat) == k && (y_1.n (90002 :
      Nat) == a && (y_1.s (90003 : Nat) == d && true)) && true)) = true → ([] : SW) = [] ∧ True ∧ false = true) ∧ ((true ^^ y_1.n (90000 : Nat) == q && (y_1.n (90001 : Nat) == k
      && (y_1.n (90002 : Nat) == a && (y_1.s (90003 : Nat) == d && true)) && true)) = false → (((↑(y.s (90000 : Nat)).size : Int) != (64 : Int)) = true → ([] : SW) = [] ∧ True ∧
      false = true) ∧ (((↑(y.s (90000 : Nat)).size : Int) != (64 : Int)) = false → inB (IntKind.i64.wrap (((IntKind.i64.wrap (n.tmod (512 : Int) + (512 : Int))).tmod (512 :
      Int)).tdiv (8 : Int))) (y.s (90000 : Nat)).size = true ∧ decide ((0 : Int) ≤ ((IntKind.i64.wrap (n.tmod (512 : Int) + (512 : Int))).tmod (512 : Int)).tmod (8 : Int)) =
      true ∧ rOk (rOf (y.s (90000 : Nat))) (IntKind.i64.wrap (((IntKind.i64.wrap (n.tmod (512 : Int) + (512 : Int))).tmod (512 : Int)).tdiv (8 : Int))).toNat (EK.i IntKind.u8) =
      true ∧ inB (IntKind.i64.wrap (((IntKind.i64.wrap (n.tmod (512 : Int) + (512 : Int))).tmod (512 : Int)).tdiv (8 : Int))) (y.s (90000 : Nat)).size = true ∧ decide
      ((IntKind.i64.wrap (((IntKind.i64.wrap (n.tmod (512 : Int) + (512 : Int))).tmod (512 : Int)).tdiv (8 : Int))).toNat + (1 : Nat) ≤ (rOf (y.s (90000 : Nat))).length) = true
      ∧ rowU8 (rSet (rOf (y.s (90000 : Nat))) (IntKind.i64.wrap (((IntKind.i64.wrap (n.tmod (512 : Int) + (512 : Int))).tmod (512 : Int)).tdiv (8 : Int))).toNat [C.i false
      IntKind.u8 (bits BinOp.xor IntKind.u8 (rI (rOf (y.s (90000 : Nat))) (IntKind.i64.wrap (((IntKind.i64.wrap (n.tmod (512 : Int) + (512 : Int))).tmod (512 : Int)).tdiv (8 :
      Int))).toNat) (IntKind.u8.wrap ((1 : Int) * (2 : Int) ^ min (((IntKind.i64.wrap (n.tmod (512 : Int) + (512 : Int))).tmod (512 : Int)).tmod (8 : Int)).toNat (8 : Nat))))])
      (y.s (90000 : Nat)).size = true ∧ (([] : SW) = [] ∧ GOK E ∧ (rowT (rSet (rOf (y.s (90000 : Nat))) (IntKind.i64.wrap (((IntKind.i64.wrap (n.tmod (512 : Int) + (512 :
      Int))).tmod (512 : Int)).tdiv (8 : Int))).toNat [C.i false IntKind.u8 (bits BinOp.xor IntKind.u8 (rI (rOf (y.s (90000 : Nat))) (IntKind.i64.wrap (((IntKind.i64.wrap
      (n.tmod (512 : Int) + (512 : Int))).tmod (512 : Int)).tdiv (8 : Int))).toNat) (IntKind.u8.wrap ((1 : Int) * (2 : Int) ^ min (((IntKind.i64.wrap (n.tmod (512 : Int) + (512
      : Int))).tmod (512 : Int)).tmod (8 : Int)).toNat (8 : Nat))))]) (y.s (90000 : Nat)).size).size ≤ (4611686018427387904 : Nat)) ∧ ∀ (y_2 : PX), True ∧ True ∧ RdQ E (rowT
      (rSet (rOf (y.s (90000 : Nat))) (IntKind.i64.wrap (((IntKind.i64.wrap (n.tmod (512 : Int) + (512 : Int))).tmod (512 : Int)).tdiv (8 : Int))).toNat [C.i false IntKind.u8
      (bits BinOp.xor IntKind.u8 (rI (rOf (y.s (90000 : Nat))) (IntKind.i64.wrap (((IntKind.i64.wrap (n.tmod (512 : Int) + (512 : Int))).tmod (512 : Int)).tdiv (8 :
      Int))).toNat) (IntKind.u8.wrap ((1 : Int) * (2 : Int) ^ min (((IntKind.i64.wrap (n.tmod (512 : Int) + (512 : Int))).tmod (512 : Int)).tmod (8 : Int)).toNat (8 : Nat))))])
      (y.s (90000 : Nat)).size) (y_2.n (90000 : Nat)) (y_2.n (90001 : Nat)) (y_2.n (90002 : Nat)) (y_2.s (90003 : Nat)) (y_2.n (90004 : Nat)) → ((y_2.n (90004 : Nat) == (20 :
      Int)) = true → ([] : SW) = [] ∧ True ∧ true = true) ∧ ((y_2.n (90004 : Nat) == (20 : Int)) = false → ([] : SW) = [] ∧ True ∧ (y_2.n (90004 : Nat) == (21 : Int)) =
      true)))))) := by kernel_rfl
theorem bk_c (E : World) (q k a : Int) (d : ByteArray) (n : Int) (z : PX) (hz : rgM z [] 0) (hp : (fun _ => (GOK E ∧ HOK E) ∧ (0 ≤ q ∧ q ≤ 4294967295)) z) : HD (pe E) 5 [.a [.i false .u32 q, .i false .i64 k, .i false .i64 a, .str false d], .c (.i false .i64 n)] [] [] (.c .b) (fun z y => y.b 90000 = true) z := by
  refine HD.mk (by rfl) (fnTree_sound (P := pe E) orcA_ok tab_ok tab_sz mixed 20000 Tryd.func5 (by decide) [.a [.i false .u32 q, .i false .i64 k, .i false .i64 a, .str false d], .c (.i false .i64 n)] _) ⟨?_⟩
  rw [bk_p]
  obtain ⟨⟨hG, hH⟩, hq⟩ := hp
  refine ⟨⟨rfl, hG⟩, fun y0 _ => ⟨⟨rfl, hG, hq⟩, fun y hy => ?_⟩⟩
  have hr := hy.2.2
  by_cases hv : vlF k a d = true
  · obtain ⟨e1, e2⟩ := hr.ok hv
    have cs := cm_size (k := k) (a := a) (d := d)
    have hd := (vl_rg hv).2.2
    have b51 : (cmT k a d).size ≤ 51 := by omega
    have z := wrap_size E q _ b51
    rw [e1, e2]
    refine ⟨fun h => by simp at h, fun _ => ⟨⟨rfl, hG, by rw [z]; omega⟩, fun y1 hy1 => ?_⟩⟩
    obtain ⟨r0, r1, r2, r3, r4⟩ := rd_wrap hv hq hy1.2.2
    rw [r0, r1, r2, r3, r4]
    have dd : (d == d) = true := beqE.2 rfl
    have m1 := Int.tmod_lt_of_pos n (show (0 : Int) < 512 by decide)
    have m2 := Int.lt_tmod_of_pos n (show (0 : Int) < 512 by decide)
    have i1 : IntKind.i64.wrap (n.tmod 512 + 512) = n.tmod 512 + 512 := by rw [wi64]; omega
    have i2 : (n.tmod 512 + 512).tmod 512 = (n.tmod 512 + 512) % 512 := Int.tmod_eq_emod_of_nonneg (by omega)
    rw [i1, i2]
    generalize hw : (n.tmod 512 + 512) % 512 = w
    have hw0 : 0 ≤ w ∧ w < 512 := by omega
    have i3 : w.tdiv 8 = w / 8 := Int.tdiv_eq_ediv_of_nonneg hw0.1
    have i4 : w.tmod 8 = w % 8 := Int.tmod_eq_emod_of_nonneg hw0.1
    have i5 : IntKind.i64.wrap (w / 8) = w / 8 := by rw [wi64]; omega
    rw [i3, i4, i5]
    obtain ⟨m, hm, m0, m8⟩ := bit_m (w % 8) (by omega) (by omega)
    rw [hm]
    have hj : (w / 8).toNat < 64 := by omega
    have hji : w / 8 = ((w / 8).toNat : Int) := by omega
    have hri := rOf_rI (wrapT E q (cmT k a d)) (w / 8).toNat (by omega)
    have hrk : rOk (rOf (wrapT E q (cmT k a d))) (w / 8).toNat (EK.i IntKind.u8) = true := by
      simp only [rOk]; rw [rOf_get _ _ (by omega)]; rfl
    have hln := rOf_len (wrapT E q (cmT k a d))
    rw [hri]
    have bd := strB_bd (wrapT E q (cmT k a d)) ((w / 8).toNat : Nat)
    generalize hB : (strB (wrapT E q (cmT k a d)) ((w / 8).toNat : Nat)).toNat = B
    have hBv : strB (wrapT E q (cmT k a d)) ((w / 8).toNat : Nat) = (B : Int) := by omega
    have hX : bits BinOp.xor IntKind.u8 (strB (wrapT E q (cmT k a d)) ((w / 8).toNat : Nat)) (m : Int) = ((B ^^^ m : Nat) : Int) := by
      rw [hBv]; exact bits_xor_n .u8 rfl _ _ (by show B < 256; omega) (by show m < 256; omega)
    rw [hX]
    have hv1 : B ^^^ m < 256 := Nat.xor_lt_two_pow (n := 8) (by omega) (by omega)
    have hv2 : B ^^^ m ≠ B := fun h => by
      have : m ^^^ B = 0 ^^^ B := by rw [Nat.xor_comm, h, Nat.zero_xor]
      exact absurd (xor_r this) (by omega)
    have hsz := set_size (wrapT E q (cmT k a d)) (w / 8).toNat ((B ^^^ m : Nat) : Int)
    have hu8 := set_u8 (wrapT E q (cmT k a d)) (w / 8).toNat ((B ^^^ m : Nat) : Int) (by omega)
    have hin : inB (w / 8) (wrapT E q (cmT k a d)).size = true := by simp only [inB, Bool.and_eq_true, decide_eq_true_eq]; omega
    have ht := turned hG hH (q := q) (b := cmT k a d) b51 (j := (w / 8).toNat) hj (v := ((B ^^^ m : Nat) : Int)) (by omega) (by omega)
    refine ⟨fun h => by simp at h, fun _ => ⟨fun h => by simp [dd] at h, fun _ => ⟨fun h => by rw [z] at h; simp at h, fun _ => ⟨hin, decide_eq_true (by omega), hrk, hin, decide_eq_true (by omega), hu8, ⟨rfl, hG, ?_⟩, fun y2 hy2 => ?_⟩⟩⟩⟩
    · show (setB (wrapT E q (cmT k a d)) (w / 8).toNat ((B ^^^ m : Nat) : Int)).size ≤ _
      omega
    · obtain ⟨n9, b9, e9, ho, hoe, _⟩ := hy2.2.2.x
      have ho : OpQ E (setB (wrapT E q (cmT k a d)) (w / 8).toNat ((B ^^^ m : Nat) : Int)) n9 b9 e9 := ho
      by_cases hp : strSl (setB (wrapT E q (cmT k a d)) (w / 8).toNat ((B ^^^ m : Nat) : Int)) 0 4 = strSl (setB (wrapT E q (cmT k a d)) (w / 8).toNat ((B ^^^ m : Nat) : Int)) 60 64
      · by_cases hs : sumF E (strSl (setB (wrapT E q (cmT k a d)) (w / 8).toNat ((B ^^^ m : Nat) : Int)) 0 56) = nmF (strSl (setB (wrapT E q (cmT k a d)) (w / 8).toNat ((B ^^^ m : Nat) : Int)) 56 64)
        · exact (ht hp hs).elim
        · have he := ho.sum (by omega) hp hs
          rw [hoe (by omega), he]
          exact ⟨fun _ => ⟨rfl, trivial, rfl⟩, fun _ => ⟨rfl, trivial, rfl⟩⟩
      · have he := ho.torn (by omega) hp
        rw [hoe (by omega), he]
        exact ⟨fun _ => ⟨rfl, trivial, rfl⟩, fun h => by simp at h⟩
  · have hv : vlF k a d = false := by cases h : vlF k a d <;> simp_all
    obtain ⟨e1, e2⟩ := hr.no hv
    rw [e1, e2, hv]
    exact ⟨fun _ => ⟨fun _ => ⟨fun _ => ⟨rfl, trivial, rfl⟩, fun h => by simp at h⟩, fun h => by simp at h⟩, fun h => by simp at h⟩
end Go.Proofs.YtnfmkfmgaohpfaaDoor

