import Derived.Test.YtpfdemmoapjjpaaU
set_option linter.unusedVariables false
set_option linter.unusedSimpArgs false
namespace Go.Proofs.Ytpfdemmoapjjpaa
open Go Go.Proofs Go.Proofs.Ytpfdemmoapjjpaa.Ev
set_option maxRecDepth 100000
def bitW (w : Int) (k : Nat) : Int := (w.fdiv (2 ^ k)).tmod 2
def fitL (w : Int) : List (Nat × Int) → Bool
  | [] => true
  | (k, v) :: r => if (bitW w k != v) = true then false else fitL w r
def hv : List Int → Int → Int
  | [], x => x
  | b :: r, x => hv r (IntKind.i64.wrap (IntKind.i64.wrap (2 * x) + IntKind.i64.wrap b))
def hn : List Int → Int → Int
  | [], x => x
  | b :: r, x => hn r (2 * x + b)
theorem hv_eq : ∀ (l : List Int) (x : Int), (∀ b ∈ l, 0 ≤ b ∧ b ≤ 1) → 0 ≤ x → (x + 1) * 2 ^ l.length ≤ 2 ^ 40 → hv l x = hn l x
  | [], _, _, _, _ => rfl
  | b :: r, x, hb, h0, h1 => by
    have hb0 := hb b List.mem_cons_self
    rw [List.length_cons, Int.pow_succ] at h1
    have hp : (1 : Int) ≤ 2 ^ r.length := Int.pow_pos (by decide)
    have h2 : (x + 1) * 2 ≤ (x + 1) * (2 ^ r.length * 2) := Int.mul_le_mul_of_nonneg_left (by omega) (by omega)
    have e : IntKind.i64.wrap (IntKind.i64.wrap (2 * x) + IntKind.i64.wrap b) = 2 * x + b := by
      rw [wi64_in (2 * x) (by omega) (by omega), wi64_in b (by omega) (by omega), wi64_in _ (by omega) (by omega)]
    rw [hv, hn, e]
    refine hv_eq r _ (fun c hc => hb c (List.mem_cons_of_mem _ hc)) (by omega) ?_
    have h3 : (2 * x + b + 1) * 2 ^ r.length ≤ ((x + 1) * 2) * 2 ^ r.length := Int.mul_le_mul_of_nonneg_right (by omega) (by omega)
    have h4 : (x + 1) * 2 * 2 ^ r.length = (x + 1) * (2 ^ r.length * 2) := by rw [Int.mul_assoc, Int.mul_comm 2]
    omega
/-- The bits of a halfword. -/
structure Bts (h b0 b1 b2 b3 b4 b5 b6 b7 b8 b9 b10 b11 b12 b13 b14 b15 : Int) : Prop where
  e : h = b0 + 2 * b1 + 4 * b2 + 8 * b3 + 16 * b4 + 32 * b5 + 64 * b6 + 128 * b7 + 256 * b8 + 512 * b9 + 1024 * b10 + 2048 * b11 + 4096 * b12 + 8192 * b13 + 16384 * b14 + 32768 * b15
  l0 : 0 ≤ b0
  u0 : b0 ≤ 1
  l1 : 0 ≤ b1
  u1 : b1 ≤ 1
  l2 : 0 ≤ b2
  u2 : b2 ≤ 1
  l3 : 0 ≤ b3
  u3 : b3 ≤ 1
  l4 : 0 ≤ b4
  u4 : b4 ≤ 1
  l5 : 0 ≤ b5
  u5 : b5 ≤ 1
  l6 : 0 ≤ b6
  u6 : b6 ≤ 1
  l7 : 0 ≤ b7
  u7 : b7 ≤ 1
  l8 : 0 ≤ b8
  u8 : b8 ≤ 1
  l9 : 0 ≤ b9
  u9 : b9 ≤ 1
  l10 : 0 ≤ b10
  u10 : b10 ≤ 1
  l11 : 0 ≤ b11
  u11 : b11 ≤ 1
  l12 : 0 ≤ b12
  u12 : b12 ≤ 1
  l13 : 0 ≤ b13
  u13 : b13 ≤ 1
  l14 : 0 ≤ b14
  u14 : b14 ≤ 1
  l15 : 0 ≤ b15
  u15 : b15 ≤ 1
theorem bitW_eq (h : Int) (k : Nat) (h0 : 0 ≤ h) : bitW h k = h / 2 ^ k % 2 := by
  unfold bitW
  rw [fdiv_pow, tmod_n]
  exact Int.ediv_nonneg h0 (Int.le_of_lt (Int.pow_pos (by decide)))
theorem wh_eq (h : Int) (h0 : 0 ≤ h) (h1 : h < 65536) : wh h = h := wu32_in h h0 (by omega)
theorem bts_of (h : Int) (h0 : 0 ≤ h) (h1 : h < 65536) : Bts h (bitW h 0) (bitW h 1) (bitW h 2) (bitW h 3) (bitW h 4) (bitW h 5) (bitW h 6) (bitW h 7) (bitW h 8) (bitW h 9) (bitW h 10) (bitW h 11) (bitW h 12) (bitW h 13) (bitW h 14) (bitW h 15) := by
  have e0 : ∀ k, bitW h k = h / 2 ^ k % 2 := fun k => bitW_eq h k h0
  have st : ∀ k : Nat, h / 2 ^ k = 2 * (h / 2 ^ (k + 1)) + h / 2 ^ k % 2 := fun k => by
    rw [Int.pow_succ, ← Int.ediv_ediv_of_nonneg (Int.le_of_lt (Int.pow_pos (by decide)))]
    omega
  have bd : ∀ k, 0 ≤ h / 2 ^ k % 2 ∧ h / 2 ^ k % 2 ≤ 1 := fun k => by omega
  have top : h / 2 ^ 16 = 0 := by omega
  constructor
  · simp only [e0]
    have s0 : h / 2 ^ 0 = h := by simp
    have s1 := st 0; have s2 := st 1; have s3 := st 2; have s4 := st 3; have s5 := st 4; have s6 := st 5; have s7 := st 6; have s8 := st 7; have s9 := st 8; have s10 := st 9; have s11 := st 10; have s12 := st 11; have s13 := st 12; have s14 := st 13; have s15 := st 14; have s16 := st 15
    simp only [Nat.reduceAdd] at *
    generalize h / 2 ^ 16 = d16 at *
    omega
  · rw [e0]; exact (bd 0).1
  · rw [e0]; exact (bd 0).2
  · rw [e0]; exact (bd 1).1
  · rw [e0]; exact (bd 1).2
  · rw [e0]; exact (bd 2).1
  · rw [e0]; exact (bd 2).2
  · rw [e0]; exact (bd 3).1
  · rw [e0]; exact (bd 3).2
  · rw [e0]; exact (bd 4).1
  · rw [e0]; exact (bd 4).2
  · rw [e0]; exact (bd 5).1
  · rw [e0]; exact (bd 5).2
  · rw [e0]; exact (bd 6).1
  · rw [e0]; exact (bd 6).2
  · rw [e0]; exact (bd 7).1
  · rw [e0]; exact (bd 7).2
  · rw [e0]; exact (bd 8).1
  · rw [e0]; exact (bd 8).2
  · rw [e0]; exact (bd 9).1
  · rw [e0]; exact (bd 9).2
  · rw [e0]; exact (bd 10).1
  · rw [e0]; exact (bd 10).2
  · rw [e0]; exact (bd 11).1
  · rw [e0]; exact (bd 11).2
  · rw [e0]; exact (bd 12).1
  · rw [e0]; exact (bd 12).2
  · rw [e0]; exact (bd 13).1
  · rw [e0]; exact (bd 13).2
  · rw [e0]; exact (bd 14).1
  · rw [e0]; exact (bd 14).2
  · rw [e0]; exact (bd 15).1
  · rw [e0]; exact (bd 15).2
theorem sz_0 : szOK pt0 = true := by kernel_rfl
theorem ft_0 (w : Int) : fits pt0 w = fitL w [(15, 0), (14, 0), (13, 0)] := by kernel_rfl
theorem fl_0_100 (w : Int) : fld pt0 w 100 = hv [bitW w 2, bitW w 1, bitW w 0] 0 := by kernel_rfl
theorem fl_0_109 (w : Int) : fld pt0 w 109 = hv [bitW w 5, bitW w 4, bitW w 3] 0 := by kernel_rfl
theorem fl_0_116 (w : Int) : fld pt0 w 116 = hv [bitW w 12, bitW w 11] 0 := by kernel_rfl
theorem fl_0_97 (w : Int) : fld pt0 w 97 = hv [bitW w 10, bitW w 9, bitW w 8, bitW w 7, bitW w 6] 0 := by kernel_rfl
theorem fl_0_108 (w : Int) : fld pt0 w 108 = hv [] 0 := by kernel_rfl
theorem fl_0_79 (w : Int) : fld pt0 w 79 = hv [] 0 := by kernel_rfl
theorem fl_0_105 (w : Int) : fld pt0 w 105 = hv [] 0 := by kernel_rfl
theorem sz_1 : szOK pt1 = true := by kernel_rfl
theorem ft_1 (w : Int) : fits pt1 w = fitL w [(15, 0), (14, 0), (13, 0), (12, 1), (11, 1)] := by kernel_rfl
theorem fl_1_100 (w : Int) : fld pt1 w 100 = hv [bitW w 2, bitW w 1, bitW w 0] 0 := by kernel_rfl
theorem fl_1_110 (w : Int) : fld pt1 w 110 = hv [bitW w 5, bitW w 4, bitW w 3] 0 := by kernel_rfl
theorem fl_1_109 (w : Int) : fld pt1 w 109 = hv [bitW w 8, bitW w 7, bitW w 6] 0 := by kernel_rfl
theorem fl_1_116 (w : Int) : fld pt1 w 116 = hv [] 0 := by kernel_rfl
theorem fl_1_108 (w : Int) : fld pt1 w 108 = hv [] 0 := by kernel_rfl
theorem fl_1_79 (w : Int) : fld pt1 w 79 = hv [bitW w 9] 0 := by kernel_rfl
theorem fl_1_105 (w : Int) : fld pt1 w 105 = hv [] 0 := by kernel_rfl
theorem fl_1_73 (w : Int) : fld pt1 w 73 = hv [bitW w 10] 0 := by kernel_rfl
theorem sz_2 : szOK pt2 = true := by kernel_rfl
theorem ft_2 (w : Int) : fits pt2 w = fitL w [(15, 0), (14, 0), (13, 0), (12, 1), (11, 1)] := by kernel_rfl
theorem fl_2_100 (w : Int) : fld pt2 w 100 = hv [bitW w 2, bitW w 1, bitW w 0] 0 := by kernel_rfl
theorem fl_2_110 (w : Int) : fld pt2 w 110 = hv [bitW w 5, bitW w 4, bitW w 3] 0 := by kernel_rfl
theorem fl_2_116 (w : Int) : fld pt2 w 116 = hv [] 0 := by kernel_rfl
theorem fl_2_108 (w : Int) : fld pt2 w 108 = hv [] 0 := by kernel_rfl
theorem fl_2_79 (w : Int) : fld pt2 w 79 = hv [bitW w 9] 0 := by kernel_rfl
theorem fl_2_105 (w : Int) : fld pt2 w 105 = hv [bitW w 8, bitW w 7, bitW w 6] 0 := by kernel_rfl
theorem fl_2_73 (w : Int) : fld pt2 w 73 = hv [bitW w 10] 0 := by kernel_rfl
theorem sz_3 : szOK pt3 = true := by kernel_rfl
theorem ft_3 (w : Int) : fits pt3 w = fitL w [(15, 0), (14, 0), (13, 1), (12, 0), (11, 0)] := by kernel_rfl
theorem fl_3_100 (w : Int) : fld pt3 w 100 = hv [bitW w 10, bitW w 9, bitW w 8] 0 := by kernel_rfl
theorem fl_3_116 (w : Int) : fld pt3 w 116 = hv [] 0 := by kernel_rfl
theorem fl_3_108 (w : Int) : fld pt3 w 108 = hv [] 0 := by kernel_rfl
theorem fl_3_79 (w : Int) : fld pt3 w 79 = hv [] 0 := by kernel_rfl
theorem fl_3_105 (w : Int) : fld pt3 w 105 = hv [bitW w 7, bitW w 6, bitW w 5, bitW w 4, bitW w 3, bitW w 2, bitW w 1, bitW w 0] 0 := by kernel_rfl
theorem sz_4 : szOK pt4 = true := by kernel_rfl
theorem ft_4 (w : Int) : fits pt4 w = fitL w [(15, 0), (14, 0), (13, 1), (12, 0), (11, 1)] := by kernel_rfl
theorem fl_4_110 (w : Int) : fld pt4 w 110 = hv [bitW w 10, bitW w 9, bitW w 8] 0 := by kernel_rfl
theorem fl_4_116 (w : Int) : fld pt4 w 116 = hv [] 0 := by kernel_rfl
theorem fl_4_108 (w : Int) : fld pt4 w 108 = hv [] 0 := by kernel_rfl
theorem fl_4_79 (w : Int) : fld pt4 w 79 = hv [] 0 := by kernel_rfl
theorem fl_4_105 (w : Int) : fld pt4 w 105 = hv [bitW w 7, bitW w 6, bitW w 5, bitW w 4, bitW w 3, bitW w 2, bitW w 1, bitW w 0] 0 := by kernel_rfl
theorem sz_5 : szOK pt5 = true := by kernel_rfl
theorem ft_5 (w : Int) : fits pt5 w = fitL w [(15, 0), (14, 0), (13, 1), (12, 1), (11, 0)] := by kernel_rfl
theorem fl_5_100 (w : Int) : fld pt5 w 100 = hv [bitW w 10, bitW w 9, bitW w 8] 0 := by kernel_rfl
theorem fl_5_116 (w : Int) : fld pt5 w 116 = hv [] 0 := by kernel_rfl
theorem fl_5_108 (w : Int) : fld pt5 w 108 = hv [] 0 := by kernel_rfl
theorem fl_5_79 (w : Int) : fld pt5 w 79 = hv [] 0 := by kernel_rfl
theorem fl_5_105 (w : Int) : fld pt5 w 105 = hv [bitW w 7, bitW w 6, bitW w 5, bitW w 4, bitW w 3, bitW w 2, bitW w 1, bitW w 0] 0 := by kernel_rfl
theorem sz_6 : szOK pt6 = true := by kernel_rfl
theorem ft_6 (w : Int) : fits pt6 w = fitL w [(15, 0), (14, 0), (13, 1), (12, 1), (11, 1)] := by kernel_rfl
theorem fl_6_100 (w : Int) : fld pt6 w 100 = hv [bitW w 10, bitW w 9, bitW w 8] 0 := by kernel_rfl
theorem fl_6_116 (w : Int) : fld pt6 w 116 = hv [] 0 := by kernel_rfl
theorem fl_6_108 (w : Int) : fld pt6 w 108 = hv [] 0 := by kernel_rfl
theorem fl_6_79 (w : Int) : fld pt6 w 79 = hv [] 0 := by kernel_rfl
theorem fl_6_105 (w : Int) : fld pt6 w 105 = hv [bitW w 7, bitW w 6, bitW w 5, bitW w 4, bitW w 3, bitW w 2, bitW w 1, bitW w 0] 0 := by kernel_rfl
theorem sz_7 : szOK pt7 = true := by kernel_rfl
theorem ft_7 (w : Int) : fits pt7 w = fitL w [(15, 0), (14, 1), (13, 0), (12, 0), (11, 0), (10, 0)] := by kernel_rfl
theorem fl_7_100 (w : Int) : fld pt7 w 100 = hv [bitW w 2, bitW w 1, bitW w 0] 0 := by kernel_rfl
theorem fl_7_109 (w : Int) : fld pt7 w 109 = hv [bitW w 5, bitW w 4, bitW w 3] 0 := by kernel_rfl
theorem fl_7_116 (w : Int) : fld pt7 w 116 = hv [] 0 := by kernel_rfl
theorem fl_7_108 (w : Int) : fld pt7 w 108 = hv [] 0 := by kernel_rfl
theorem fl_7_79 (w : Int) : fld pt7 w 79 = hv [] 0 := by kernel_rfl
theorem fl_7_105 (w : Int) : fld pt7 w 105 = hv [] 0 := by kernel_rfl
theorem fl_7_111 (w : Int) : fld pt7 w 111 = hv [bitW w 9, bitW w 8, bitW w 7, bitW w 6] 0 := by kernel_rfl
theorem sz_8 : szOK pt8 = true := by kernel_rfl
theorem ft_8 (w : Int) : fits pt8 w = fitL w [(15, 0), (14, 1), (13, 0), (12, 0), (11, 0), (10, 0)] := by kernel_rfl
theorem fl_8_100 (w : Int) : fld pt8 w 100 = hv [bitW w 2, bitW w 1, bitW w 0] 0 := by kernel_rfl
theorem fl_8_115 (w : Int) : fld pt8 w 115 = hv [bitW w 5, bitW w 4, bitW w 3] 0 := by kernel_rfl
theorem fl_8_108 (w : Int) : fld pt8 w 108 = hv [] 0 := by kernel_rfl
theorem fl_8_79 (w : Int) : fld pt8 w 79 = hv [] 0 := by kernel_rfl
theorem fl_8_105 (w : Int) : fld pt8 w 105 = hv [] 0 := by kernel_rfl
theorem fl_8_111 (w : Int) : fld pt8 w 111 = hv [bitW w 9, bitW w 8, bitW w 7, bitW w 6] 0 := by kernel_rfl
theorem sz_9 : szOK pt9 = true := by kernel_rfl
theorem ft_9 (w : Int) : fits pt9 w = fitL w [(15, 0), (14, 1), (13, 0), (12, 0), (11, 0), (10, 0)] := by kernel_rfl
theorem fl_9_110 (w : Int) : fld pt9 w 110 = hv [bitW w 2, bitW w 1, bitW w 0] 0 := by kernel_rfl
theorem fl_9_109 (w : Int) : fld pt9 w 109 = hv [bitW w 5, bitW w 4, bitW w 3] 0 := by kernel_rfl
theorem fl_9_116 (w : Int) : fld pt9 w 116 = hv [] 0 := by kernel_rfl
theorem fl_9_108 (w : Int) : fld pt9 w 108 = hv [] 0 := by kernel_rfl
theorem fl_9_79 (w : Int) : fld pt9 w 79 = hv [] 0 := by kernel_rfl
theorem fl_9_105 (w : Int) : fld pt9 w 105 = hv [] 0 := by kernel_rfl
theorem fl_9_111 (w : Int) : fld pt9 w 111 = hv [bitW w 9, bitW w 8, bitW w 7, bitW w 6] 0 := by kernel_rfl
theorem sz_10 : szOK pt10 = true := by kernel_rfl
theorem ft_10 (w : Int) : fits pt10 w = fitL w [(15, 0), (14, 1), (13, 0), (12, 0), (11, 0), (10, 0)] := by kernel_rfl
theorem fl_10_100 (w : Int) : fld pt10 w 100 = hv [bitW w 2, bitW w 1, bitW w 0] 0 := by kernel_rfl
theorem fl_10_110 (w : Int) : fld pt10 w 110 = hv [bitW w 5, bitW w 4, bitW w 3] 0 := by kernel_rfl
theorem fl_10_116 (w : Int) : fld pt10 w 116 = hv [] 0 := by kernel_rfl
theorem fl_10_108 (w : Int) : fld pt10 w 108 = hv [] 0 := by kernel_rfl
theorem fl_10_79 (w : Int) : fld pt10 w 79 = hv [] 0 := by kernel_rfl
theorem fl_10_105 (w : Int) : fld pt10 w 105 = hv [] 0 := by kernel_rfl
theorem fl_10_111 (w : Int) : fld pt10 w 111 = hv [bitW w 9, bitW w 8, bitW w 7, bitW w 6] 0 := by kernel_rfl
theorem sz_11 : szOK pt11 = true := by kernel_rfl
theorem ft_11 (w : Int) : fits pt11 w = fitL w [(15, 0), (14, 1), (13, 0), (12, 0), (11, 0), (10, 1), (9, 0), (8, 0)] := by kernel_rfl
theorem fl_11_100 (w : Int) : fld pt11 w 100 = hv [bitW w 7, bitW w 2, bitW w 1, bitW w 0] 0 := by kernel_rfl
theorem fl_11_109 (w : Int) : fld pt11 w 109 = hv [bitW w 6, bitW w 5, bitW w 4, bitW w 3] 0 := by kernel_rfl
theorem fl_11_116 (w : Int) : fld pt11 w 116 = hv [] 0 := by kernel_rfl
theorem fl_11_108 (w : Int) : fld pt11 w 108 = hv [] 0 := by kernel_rfl
theorem fl_11_79 (w : Int) : fld pt11 w 79 = hv [] 0 := by kernel_rfl
theorem fl_11_105 (w : Int) : fld pt11 w 105 = hv [] 0 := by kernel_rfl
theorem sz_12 : szOK pt12 = true := by kernel_rfl
theorem ft_12 (w : Int) : fits pt12 w = fitL w [(15, 0), (14, 1), (13, 0), (12, 0), (11, 0), (10, 1), (9, 0), (8, 1)] := by kernel_rfl
theorem fl_12_110 (w : Int) : fld pt12 w 110 = hv [bitW w 7, bitW w 2, bitW w 1, bitW w 0] 0 := by kernel_rfl
theorem fl_12_109 (w : Int) : fld pt12 w 109 = hv [bitW w 6, bitW w 5, bitW w 4, bitW w 3] 0 := by kernel_rfl
theorem fl_12_116 (w : Int) : fld pt12 w 116 = hv [] 0 := by kernel_rfl
theorem fl_12_108 (w : Int) : fld pt12 w 108 = hv [] 0 := by kernel_rfl
theorem fl_12_79 (w : Int) : fld pt12 w 79 = hv [] 0 := by kernel_rfl
theorem fl_12_105 (w : Int) : fld pt12 w 105 = hv [] 0 := by kernel_rfl
theorem sz_13 : szOK pt13 = true := by kernel_rfl
theorem ft_13 (w : Int) : fits pt13 w = fitL w [(15, 0), (14, 1), (13, 0), (12, 0), (11, 0), (10, 1), (9, 1), (8, 0)] := by kernel_rfl
theorem fl_13_100 (w : Int) : fld pt13 w 100 = hv [bitW w 7, bitW w 2, bitW w 1, bitW w 0] 0 := by kernel_rfl
theorem fl_13_109 (w : Int) : fld pt13 w 109 = hv [bitW w 6, bitW w 5, bitW w 4, bitW w 3] 0 := by kernel_rfl
theorem fl_13_116 (w : Int) : fld pt13 w 116 = hv [] 0 := by kernel_rfl
theorem fl_13_108 (w : Int) : fld pt13 w 108 = hv [] 0 := by kernel_rfl
theorem fl_13_79 (w : Int) : fld pt13 w 79 = hv [] 0 := by kernel_rfl
theorem fl_13_105 (w : Int) : fld pt13 w 105 = hv [] 0 := by kernel_rfl
theorem sz_14 : szOK pt14 = true := by kernel_rfl
theorem ft_14 (w : Int) : fits pt14 w = fitL w [(15, 0), (14, 1), (13, 0), (12, 0), (11, 0), (10, 1), (9, 1), (8, 1)] := by kernel_rfl
theorem fl_14_109 (w : Int) : fld pt14 w 109 = hv [bitW w 6, bitW w 5, bitW w 4, bitW w 3] 0 := by kernel_rfl
theorem fl_14_116 (w : Int) : fld pt14 w 116 = hv [] 0 := by kernel_rfl
theorem fl_14_108 (w : Int) : fld pt14 w 108 = hv [] 0 := by kernel_rfl
theorem fl_14_79 (w : Int) : fld pt14 w 79 = hv [] 0 := by kernel_rfl
theorem fl_14_105 (w : Int) : fld pt14 w 105 = hv [] 0 := by kernel_rfl
theorem sz_15 : szOK pt15 = true := by kernel_rfl
theorem ft_15 (w : Int) : fits pt15 w = fitL w [(15, 0), (14, 1), (13, 0), (12, 0), (11, 1)] := by kernel_rfl
theorem fl_15_100 (w : Int) : fld pt15 w 100 = hv [bitW w 10, bitW w 9, bitW w 8] 0 := by kernel_rfl
theorem fl_15_116 (w : Int) : fld pt15 w 116 = hv [] 0 := by kernel_rfl
theorem fl_15_108 (w : Int) : fld pt15 w 108 = hv [] 0 := by kernel_rfl
theorem fl_15_79 (w : Int) : fld pt15 w 79 = hv [] 0 := by kernel_rfl
theorem fl_15_105 (w : Int) : fld pt15 w 105 = hv [bitW w 7, bitW w 6, bitW w 5, bitW w 4, bitW w 3, bitW w 2, bitW w 1, bitW w 0] 0 := by kernel_rfl
theorem sz_16 : szOK pt16 = true := by kernel_rfl
theorem ft_16 (w : Int) : fits pt16 w = fitL w [(15, 0), (14, 1), (13, 0), (12, 1), (9, 0)] := by kernel_rfl
theorem fl_16_100 (w : Int) : fld pt16 w 100 = hv [bitW w 2, bitW w 1, bitW w 0] 0 := by kernel_rfl
theorem fl_16_110 (w : Int) : fld pt16 w 110 = hv [bitW w 5, bitW w 4, bitW w 3] 0 := by kernel_rfl
theorem fl_16_109 (w : Int) : fld pt16 w 109 = hv [bitW w 8, bitW w 7, bitW w 6] 0 := by kernel_rfl
theorem fl_16_116 (w : Int) : fld pt16 w 116 = hv [] 0 := by kernel_rfl
theorem fl_16_108 (w : Int) : fld pt16 w 108 = hv [] 0 := by kernel_rfl
theorem fl_16_76 (w : Int) : fld pt16 w 76 = hv [bitW w 11] 0 := by kernel_rfl
theorem fl_16_66 (w : Int) : fld pt16 w 66 = hv [bitW w 10] 0 := by kernel_rfl
theorem fl_16_79 (w : Int) : fld pt16 w 79 = hv [] 0 := by kernel_rfl
theorem fl_16_105 (w : Int) : fld pt16 w 105 = hv [] 0 := by kernel_rfl
theorem sz_17 : szOK pt17 = true := by kernel_rfl
theorem ft_17 (w : Int) : fits pt17 w = fitL w [(15, 0), (14, 1), (13, 0), (12, 1), (9, 1)] := by kernel_rfl
theorem fl_17_100 (w : Int) : fld pt17 w 100 = hv [bitW w 2, bitW w 1, bitW w 0] 0 := by kernel_rfl
theorem fl_17_110 (w : Int) : fld pt17 w 110 = hv [bitW w 5, bitW w 4, bitW w 3] 0 := by kernel_rfl
theorem fl_17_109 (w : Int) : fld pt17 w 109 = hv [bitW w 8, bitW w 7, bitW w 6] 0 := by kernel_rfl
theorem fl_17_116 (w : Int) : fld pt17 w 116 = hv [] 0 := by kernel_rfl
theorem fl_17_108 (w : Int) : fld pt17 w 108 = hv [] 0 := by kernel_rfl
theorem fl_17_79 (w : Int) : fld pt17 w 79 = hv [] 0 := by kernel_rfl
theorem fl_17_105 (w : Int) : fld pt17 w 105 = hv [] 0 := by kernel_rfl
theorem fl_17_72 (w : Int) : fld pt17 w 72 = hv [bitW w 11, bitW w 10] 0 := by kernel_rfl
theorem sz_18 : szOK pt18 = true := by kernel_rfl
theorem ft_18 (w : Int) : fits pt18 w = fitL w [(15, 0), (14, 1), (13, 1), (12, 0)] := by kernel_rfl
theorem fl_18_100 (w : Int) : fld pt18 w 100 = hv [bitW w 2, bitW w 1, bitW w 0] 0 := by kernel_rfl
theorem fl_18_110 (w : Int) : fld pt18 w 110 = hv [bitW w 5, bitW w 4, bitW w 3] 0 := by kernel_rfl
theorem fl_18_116 (w : Int) : fld pt18 w 116 = hv [] 0 := by kernel_rfl
theorem fl_18_108 (w : Int) : fld pt18 w 108 = hv [] 0 := by kernel_rfl
theorem fl_18_76 (w : Int) : fld pt18 w 76 = hv [bitW w 11] 0 := by kernel_rfl
theorem fl_18_79 (w : Int) : fld pt18 w 79 = hv [] 0 := by kernel_rfl
theorem fl_18_105 (w : Int) : fld pt18 w 105 = hv [bitW w 10, bitW w 9, bitW w 8, bitW w 7, bitW w 6] 0 := by kernel_rfl
theorem sz_19 : szOK pt19 = true := by kernel_rfl
theorem ft_19 (w : Int) : fits pt19 w = fitL w [(15, 0), (14, 1), (13, 1), (12, 1)] := by kernel_rfl
theorem fl_19_100 (w : Int) : fld pt19 w 100 = hv [bitW w 2, bitW w 1, bitW w 0] 0 := by kernel_rfl
theorem fl_19_110 (w : Int) : fld pt19 w 110 = hv [bitW w 5, bitW w 4, bitW w 3] 0 := by kernel_rfl
theorem fl_19_116 (w : Int) : fld pt19 w 116 = hv [] 0 := by kernel_rfl
theorem fl_19_108 (w : Int) : fld pt19 w 108 = hv [] 0 := by kernel_rfl
theorem fl_19_76 (w : Int) : fld pt19 w 76 = hv [bitW w 11] 0 := by kernel_rfl
theorem fl_19_79 (w : Int) : fld pt19 w 79 = hv [] 0 := by kernel_rfl
theorem fl_19_105 (w : Int) : fld pt19 w 105 = hv [bitW w 10, bitW w 9, bitW w 8, bitW w 7, bitW w 6] 0 := by kernel_rfl
theorem sz_20 : szOK pt20 = true := by kernel_rfl
theorem ft_20 (w : Int) : fits pt20 w = fitL w [(15, 1), (14, 0), (13, 0), (12, 0)] := by kernel_rfl
theorem fl_20_100 (w : Int) : fld pt20 w 100 = hv [bitW w 2, bitW w 1, bitW w 0] 0 := by kernel_rfl
theorem fl_20_110 (w : Int) : fld pt20 w 110 = hv [bitW w 5, bitW w 4, bitW w 3] 0 := by kernel_rfl
theorem fl_20_116 (w : Int) : fld pt20 w 116 = hv [] 0 := by kernel_rfl
theorem fl_20_108 (w : Int) : fld pt20 w 108 = hv [] 0 := by kernel_rfl
theorem fl_20_76 (w : Int) : fld pt20 w 76 = hv [bitW w 11] 0 := by kernel_rfl
theorem fl_20_79 (w : Int) : fld pt20 w 79 = hv [] 0 := by kernel_rfl
theorem fl_20_105 (w : Int) : fld pt20 w 105 = hv [bitW w 10, bitW w 9, bitW w 8, bitW w 7, bitW w 6] 0 := by kernel_rfl
theorem sz_21 : szOK pt21 = true := by kernel_rfl
theorem ft_21 (w : Int) : fits pt21 w = fitL w [(15, 1), (14, 0), (13, 0), (12, 1)] := by kernel_rfl
theorem fl_21_100 (w : Int) : fld pt21 w 100 = hv [bitW w 10, bitW w 9, bitW w 8] 0 := by kernel_rfl
theorem fl_21_116 (w : Int) : fld pt21 w 116 = hv [] 0 := by kernel_rfl
theorem fl_21_108 (w : Int) : fld pt21 w 108 = hv [] 0 := by kernel_rfl
theorem fl_21_76 (w : Int) : fld pt21 w 76 = hv [bitW w 11] 0 := by kernel_rfl
theorem fl_21_79 (w : Int) : fld pt21 w 79 = hv [] 0 := by kernel_rfl
theorem fl_21_105 (w : Int) : fld pt21 w 105 = hv [bitW w 7, bitW w 6, bitW w 5, bitW w 4, bitW w 3, bitW w 2, bitW w 1, bitW w 0] 0 := by kernel_rfl
theorem sz_22 : szOK pt22 = true := by kernel_rfl
theorem ft_22 (w : Int) : fits pt22 w = fitL w [(15, 1), (14, 0), (13, 1), (12, 0), (11, 0)] := by kernel_rfl
theorem fl_22_100 (w : Int) : fld pt22 w 100 = hv [bitW w 10, bitW w 9, bitW w 8] 0 := by kernel_rfl
theorem fl_22_116 (w : Int) : fld pt22 w 116 = hv [] 0 := by kernel_rfl
theorem fl_22_108 (w : Int) : fld pt22 w 108 = hv [] 0 := by kernel_rfl
theorem fl_22_79 (w : Int) : fld pt22 w 79 = hv [] 0 := by kernel_rfl
theorem fl_22_105 (w : Int) : fld pt22 w 105 = hv [bitW w 7, bitW w 6, bitW w 5, bitW w 4, bitW w 3, bitW w 2, bitW w 1, bitW w 0] 0 := by kernel_rfl
theorem sz_23 : szOK pt23 = true := by kernel_rfl
theorem ft_23 (w : Int) : fits pt23 w = fitL w [(15, 1), (14, 0), (13, 1), (12, 0), (11, 1)] := by kernel_rfl
theorem fl_23_100 (w : Int) : fld pt23 w 100 = hv [bitW w 10, bitW w 9, bitW w 8] 0 := by kernel_rfl
theorem fl_23_116 (w : Int) : fld pt23 w 116 = hv [] 0 := by kernel_rfl
theorem fl_23_108 (w : Int) : fld pt23 w 108 = hv [] 0 := by kernel_rfl
theorem fl_23_79 (w : Int) : fld pt23 w 79 = hv [] 0 := by kernel_rfl
theorem fl_23_105 (w : Int) : fld pt23 w 105 = hv [bitW w 7, bitW w 6, bitW w 5, bitW w 4, bitW w 3, bitW w 2, bitW w 1, bitW w 0] 0 := by kernel_rfl
theorem sz_24 : szOK pt24 = true := by kernel_rfl
theorem ft_24 (w : Int) : fits pt24 w = fitL w [(15, 1), (14, 0), (13, 1), (12, 1), (11, 0), (10, 0), (9, 0), (8, 0)] := by kernel_rfl
theorem fl_24_116 (w : Int) : fld pt24 w 116 = hv [] 0 := by kernel_rfl
theorem fl_24_108 (w : Int) : fld pt24 w 108 = hv [] 0 := by kernel_rfl
theorem fl_24_79 (w : Int) : fld pt24 w 79 = hv [bitW w 7] 0 := by kernel_rfl
theorem fl_24_105 (w : Int) : fld pt24 w 105 = hv [bitW w 6, bitW w 5, bitW w 4, bitW w 3, bitW w 2, bitW w 1, bitW w 0] 0 := by kernel_rfl
theorem sz_25 : szOK pt25 = true := by kernel_rfl
theorem ft_25 (w : Int) : fits pt25 w = fitL w [(15, 1), (14, 0), (13, 1), (12, 1), (11, 0), (10, 1), (9, 0), (8, 0)] := by kernel_rfl
theorem fl_25_116 (w : Int) : fld pt25 w 116 = hv [] 0 := by kernel_rfl
theorem fl_25_108 (w : Int) : fld pt25 w 108 = hv [bitW w 7, bitW w 6, bitW w 5, bitW w 4, bitW w 3, bitW w 2, bitW w 1, bitW w 0] 0 := by kernel_rfl
theorem fl_25_79 (w : Int) : fld pt25 w 79 = hv [] 0 := by kernel_rfl
theorem fl_25_105 (w : Int) : fld pt25 w 105 = hv [] 0 := by kernel_rfl
theorem sz_26 : szOK pt26 = true := by kernel_rfl
theorem ft_26 (w : Int) : fits pt26 w = fitL w [(15, 1), (14, 0), (13, 1), (12, 1), (11, 0), (10, 1), (9, 0), (8, 1)] := by kernel_rfl
theorem fl_26_116 (w : Int) : fld pt26 w 116 = hv [] 0 := by kernel_rfl
theorem fl_26_108 (w : Int) : fld pt26 w 108 = hv [bitW w 7, bitW w 6, bitW w 5, bitW w 4, bitW w 3, bitW w 2, bitW w 1, bitW w 0] 0 := by kernel_rfl
theorem fl_26_79 (w : Int) : fld pt26 w 79 = hv [] 0 := by kernel_rfl
theorem fl_26_105 (w : Int) : fld pt26 w 105 = hv [] 0 := by kernel_rfl
theorem sz_27 : szOK pt27 = true := by kernel_rfl
theorem ft_27 (w : Int) : fits pt27 w = fitL w [(15, 1), (14, 0), (13, 1), (12, 1), (11, 1), (10, 1), (9, 0), (8, 0)] := by kernel_rfl
theorem fl_27_116 (w : Int) : fld pt27 w 116 = hv [] 0 := by kernel_rfl
theorem fl_27_108 (w : Int) : fld pt27 w 108 = hv [bitW w 7, bitW w 6, bitW w 5, bitW w 4, bitW w 3, bitW w 2, bitW w 1, bitW w 0] 0 := by kernel_rfl
theorem fl_27_79 (w : Int) : fld pt27 w 79 = hv [] 0 := by kernel_rfl
theorem fl_27_105 (w : Int) : fld pt27 w 105 = hv [] 0 := by kernel_rfl
theorem sz_28 : szOK pt28 = true := by kernel_rfl
theorem ft_28 (w : Int) : fits pt28 w = fitL w [(15, 1), (14, 0), (13, 1), (12, 1), (11, 1), (10, 1), (9, 0), (8, 1)] := by kernel_rfl
theorem fl_28_116 (w : Int) : fld pt28 w 116 = hv [] 0 := by kernel_rfl
theorem fl_28_108 (w : Int) : fld pt28 w 108 = hv [bitW w 7, bitW w 6, bitW w 5, bitW w 4, bitW w 3, bitW w 2, bitW w 1, bitW w 0] 0 := by kernel_rfl
theorem fl_28_79 (w : Int) : fld pt28 w 79 = hv [] 0 := by kernel_rfl
theorem fl_28_105 (w : Int) : fld pt28 w 105 = hv [] 0 := by kernel_rfl
theorem sz_29 : szOK pt29 = true := by kernel_rfl
theorem ft_29 (w : Int) : fits pt29 w = fitL w [(15, 1), (14, 1), (13, 0), (12, 0)] := by kernel_rfl
theorem fl_29_110 (w : Int) : fld pt29 w 110 = hv [bitW w 10, bitW w 9, bitW w 8] 0 := by kernel_rfl
theorem fl_29_116 (w : Int) : fld pt29 w 116 = hv [] 0 := by kernel_rfl
theorem fl_29_108 (w : Int) : fld pt29 w 108 = hv [bitW w 7, bitW w 6, bitW w 5, bitW w 4, bitW w 3, bitW w 2, bitW w 1, bitW w 0] 0 := by kernel_rfl
theorem fl_29_76 (w : Int) : fld pt29 w 76 = hv [bitW w 11] 0 := by kernel_rfl
theorem fl_29_79 (w : Int) : fld pt29 w 79 = hv [] 0 := by kernel_rfl
theorem fl_29_105 (w : Int) : fld pt29 w 105 = hv [] 0 := by kernel_rfl
theorem sz_30 : szOK pt30 = true := by kernel_rfl
theorem ft_30 (w : Int) : fits pt30 w = fitL w [(15, 1), (14, 1), (13, 0), (12, 1)] := by kernel_rfl
theorem fl_30_116 (w : Int) : fld pt30 w 116 = hv [] 0 := by kernel_rfl
theorem fl_30_108 (w : Int) : fld pt30 w 108 = hv [] 0 := by kernel_rfl
theorem fl_30_79 (w : Int) : fld pt30 w 79 = hv [] 0 := by kernel_rfl
theorem fl_30_105 (w : Int) : fld pt30 w 105 = hv [bitW w 7, bitW w 6, bitW w 5, bitW w 4, bitW w 3, bitW w 2, bitW w 1, bitW w 0] 0 := by kernel_rfl
theorem fl_30_99 (w : Int) : fld pt30 w 99 = hv [bitW w 11, bitW w 10, bitW w 9, bitW w 8] 0 := by kernel_rfl
theorem sz_31 : szOK pt31 = true := by kernel_rfl
theorem ft_31 (w : Int) : fits pt31 w = fitL w [(15, 1), (14, 1), (13, 0), (12, 1), (11, 1), (10, 1), (9, 1), (8, 1)] := by kernel_rfl
theorem fl_31_116 (w : Int) : fld pt31 w 116 = hv [] 0 := by kernel_rfl
theorem fl_31_108 (w : Int) : fld pt31 w 108 = hv [] 0 := by kernel_rfl
theorem fl_31_79 (w : Int) : fld pt31 w 79 = hv [] 0 := by kernel_rfl
theorem fl_31_105 (w : Int) : fld pt31 w 105 = hv [bitW w 7, bitW w 6, bitW w 5, bitW w 4, bitW w 3, bitW w 2, bitW w 1, bitW w 0] 0 := by kernel_rfl
theorem sz_32 : szOK pt32 = true := by kernel_rfl
theorem ft_32 (w : Int) : fits pt32 w = fitL w [(15, 1), (14, 1), (13, 1), (12, 0), (11, 0)] := by kernel_rfl
theorem fl_32_116 (w : Int) : fld pt32 w 116 = hv [] 0 := by kernel_rfl
theorem fl_32_108 (w : Int) : fld pt32 w 108 = hv [] 0 := by kernel_rfl
theorem fl_32_79 (w : Int) : fld pt32 w 79 = hv [] 0 := by kernel_rfl
theorem fl_32_105 (w : Int) : fld pt32 w 105 = hv [bitW w 10, bitW w 9, bitW w 8, bitW w 7, bitW w 6, bitW w 5, bitW w 4, bitW w 3, bitW w 2, bitW w 1, bitW w 0] 0 := by kernel_rfl
theorem sz_33 : szOK pt33 = true := by kernel_rfl
theorem ft_33 (w : Int) : fits pt33 w = fitL w [(15, 1), (14, 1), (13, 1), (12, 1), (11, 0)] := by kernel_rfl
theorem fl_33_116 (w : Int) : fld pt33 w 116 = hv [] 0 := by kernel_rfl
theorem fl_33_108 (w : Int) : fld pt33 w 108 = hv [] 0 := by kernel_rfl
theorem fl_33_79 (w : Int) : fld pt33 w 79 = hv [] 0 := by kernel_rfl
theorem fl_33_105 (w : Int) : fld pt33 w 105 = hv [bitW w 10, bitW w 9, bitW w 8, bitW w 7, bitW w 6, bitW w 5, bitW w 4, bitW w 3, bitW w 2, bitW w 1, bitW w 0] 0 := by kernel_rfl
theorem sz_34 : szOK pt34 = true := by kernel_rfl
theorem ft_34 (w : Int) : fits pt34 w = fitL w [(15, 1), (14, 1), (13, 1), (12, 1), (11, 1)] := by kernel_rfl
theorem fl_34_116 (w : Int) : fld pt34 w 116 = hv [] 0 := by kernel_rfl
theorem fl_34_108 (w : Int) : fld pt34 w 108 = hv [] 0 := by kernel_rfl
theorem fl_34_79 (w : Int) : fld pt34 w 79 = hv [] 0 := by kernel_rfl
theorem fl_34_105 (w : Int) : fld pt34 w 105 = hv [bitW w 10, bitW w 9, bitW w 8, bitW w 7, bitW w 6, bitW w 5, bitW w 4, bitW w 3, bitW w 2, bitW w 1, bitW w 0] 0 := by kernel_rfl
end Go.Proofs.Ytpfdemmoapjjpaa

