import Derived.Test.YthgcieloijmgdaaA
set_option linter.unusedVariables false
set_option linter.unusedSimpArgs false
namespace Go.Proofs.Ythgcieloijmgdaa
open Go Go.Proofs Go.Proofs.Ythgcieloijmgdaa.Ev Go.Proofs.Ythgcieloijmgdaa.Ev.Ho
set_option maxRecDepth 100000
theorem txt_mk0 : txt (ByteArray.mk #[]) = [] := rfl
theorem sz_0 : (ByteArray.mk #[]).size = 0 := rfl
theorem sz_b {x : Int} : (bytesN [x]).size = 1 := by rw [size_bytesN]; rfl
theorem sz_1 {a : ByteArray} {x : Int} {k : Nat} (h : a.size = k) : (a ++ bytesN [x]).size = k + 1 := by rw [size_append, size_bytesN, h]; rfl
theorem sz_d {a : ByteArray} {k : Nat} (h : a.size = k) : decide (a.size = k) = true := decide_eq_true h
noncomputable abbrev cn (n K : Int) : Int := IntKind.u8.wrap (48 + IntKind.u8.wrap (bits .and .i64 (n.fdiv K) 1))
theorem cn_eq (n K : Int) (hK : 0 < K) : cn n K = 48 + n / K % 2 := by
  unfold cn
  rw [fdiv_lit _ _ (Int.le_of_lt hK), show bits .and .i64 (n / K) 1 = n / K % 2 from and_mask .i64 _ 1 (.inl (by decide)), wu8, wu8]; omega
theorem numT6_ex (n : Int) : ∃ b : ByteArray, b = ByteArray.mk #[] ++ bytesN [cn n 32] ++ bytesN [cn n 16] ++ bytesN [cn n 8] ++ bytesN [cn n 4] ++ bytesN [cn n 2] ++ bytesN [cn n 1] := ⟨_, rfl⟩
noncomputable def numT6 (n : Int) : ByteArray := Classical.choose (numT6_ex n)
theorem numT6_eq (n : Int) : numT6 n = ByteArray.mk #[] ++ bytesN [cn n 32] ++ bytesN [cn n 16] ++ bytesN [cn n 8] ++ bytesN [cn n 4] ++ bytesN [cn n 2] ++ bytesN [cn n 1] := Classical.choose_spec (numT6_ex n)
theorem numT14_ex (n : Int) : ∃ b : ByteArray, b = ByteArray.mk #[] ++ bytesN [cn n 8192] ++ bytesN [cn n 4096] ++ bytesN [cn n 2048] ++ bytesN [cn n 1024] ++ bytesN [cn n 512] ++ bytesN [cn n 256] ++ bytesN [cn n 128] ++ bytesN [cn n 64] ++ bytesN [cn n 32] ++ bytesN [cn n 16] ++ bytesN [cn n 8] ++ bytesN [cn n 4] ++ bytesN [cn n 2] ++ bytesN [cn n 1] := ⟨_, rfl⟩
noncomputable def numT14 (n : Int) : ByteArray := Classical.choose (numT14_ex n)
theorem numT14_eq (n : Int) : numT14 n = ByteArray.mk #[] ++ bytesN [cn n 8192] ++ bytesN [cn n 4096] ++ bytesN [cn n 2048] ++ bytesN [cn n 1024] ++ bytesN [cn n 512] ++ bytesN [cn n 256] ++ bytesN [cn n 128] ++ bytesN [cn n 64] ++ bytesN [cn n 32] ++ bytesN [cn n 16] ++ bytesN [cn n 8] ++ bytesN [cn n 4] ++ bytesN [cn n 2] ++ bytesN [cn n 1] := Classical.choose_spec (numT14_ex n)
theorem numT32_ex (n : Int) : ∃ b : ByteArray, b = ByteArray.mk #[] ++ bytesN [cn n 2147483648] ++ bytesN [cn n 1073741824] ++ bytesN [cn n 536870912] ++ bytesN [cn n 268435456] ++ bytesN [cn n 134217728] ++ bytesN [cn n 67108864] ++ bytesN [cn n 33554432] ++ bytesN [cn n 16777216] ++ bytesN [cn n 8388608] ++ bytesN [cn n 4194304] ++ bytesN [cn n 2097152] ++ bytesN [cn n 1048576] ++ bytesN [cn n 524288] ++ bytesN [cn n 262144] ++ bytesN [cn n 131072] ++ bytesN [cn n 65536] ++ bytesN [cn n 32768] ++ bytesN [cn n 16384] ++ bytesN [cn n 8192] ++ bytesN [cn n 4096] ++ bytesN [cn n 2048] ++ bytesN [cn n 1024] ++ bytesN [cn n 512] ++ bytesN [cn n 256] ++ bytesN [cn n 128] ++ bytesN [cn n 64] ++ bytesN [cn n 32] ++ bytesN [cn n 16] ++ bytesN [cn n 8] ++ bytesN [cn n 4] ++ bytesN [cn n 2] ++ bytesN [cn n 1] := ⟨_, rfl⟩
noncomputable def numT32 (n : Int) : ByteArray := Classical.choose (numT32_ex n)
theorem numT32_eq (n : Int) : numT32 n = ByteArray.mk #[] ++ bytesN [cn n 2147483648] ++ bytesN [cn n 1073741824] ++ bytesN [cn n 536870912] ++ bytesN [cn n 268435456] ++ bytesN [cn n 134217728] ++ bytesN [cn n 67108864] ++ bytesN [cn n 33554432] ++ bytesN [cn n 16777216] ++ bytesN [cn n 8388608] ++ bytesN [cn n 4194304] ++ bytesN [cn n 2097152] ++ bytesN [cn n 1048576] ++ bytesN [cn n 524288] ++ bytesN [cn n 262144] ++ bytesN [cn n 131072] ++ bytesN [cn n 65536] ++ bytesN [cn n 32768] ++ bytesN [cn n 16384] ++ bytesN [cn n 8192] ++ bytesN [cn n 4096] ++ bytesN [cn n 2048] ++ bytesN [cn n 1024] ++ bytesN [cn n 512] ++ bytesN [cn n 256] ++ bytesN [cn n 128] ++ bytesN [cn n 64] ++ bytesN [cn n 32] ++ bytesN [cn n 16] ++ bytesN [cn n 8] ++ bytesN [cn n 4] ++ bytesN [cn n 2] ++ bytesN [cn n 1] := Classical.choose_spec (numT32_ex n)
theorem num6_p (E : World) (n : Int) :
    (conP (.c (.strn 6 (numT6 n))) (fnTree (pe E) (orcA E) (tabL fns) 20000 Try.f16 [.c (.i false .i64 n), .c (.i true .i64 6)] [])) =
    (decide ((bytesN [cn n 32]).size = (1 : Nat)) = true ∧ decide (0 = 0) = true ∧ decide ((bytesN [cn n 32]).size = (1 : Nat)) = true ∧ decide ((ByteArray.mk #[] ++ bytesN 
      [cn n 32]).size = (1 : Nat)) = true ∧ decide ((bytesN [cn n 16]).size = (1 : Nat)) = true ∧ decide ((ByteArray.mk #[] ++ bytesN [cn n 32]).size = (1 : Nat)) = true 
      ∧ decide ((bytesN [cn n 16]).size = (1 : Nat)) = true ∧ decide ((ByteArray.mk #[] ++ bytesN [cn n 32] ++ bytesN [cn n 16]).size = (2 : Nat)) = true ∧ decide 
      ((bytesN [cn n 8]).size = (1 : Nat)) = true ∧ decide ((ByteArray.mk #[] ++ bytesN [cn n 32] ++ bytesN [cn n 16]).size = (2 : Nat)) = true ∧ decide ((bytesN [cn n 
      8]).size = (1 : Nat)) = true ∧ decide ((ByteArray.mk #[] ++ bytesN [cn n 32] ++ bytesN [cn n 16] ++ bytesN [cn n 8]).size = (3 : Nat)) = true ∧ decide ((bytesN [cn 
      n 4]).size = (1 : Nat)) = true ∧ decide ((ByteArray.mk #[] ++ bytesN [cn n 32] ++ bytesN [cn n 16] ++ bytesN [cn n 8]).size = (3 : Nat)) = true ∧ decide ((bytesN 
      [cn n 4]).size = (1 : Nat)) = true ∧ decide ((ByteArray.mk #[] ++ bytesN [cn n 32] ++ bytesN [cn n 16] ++ bytesN [cn n 8] ++ bytesN [cn n 4]).size = (4 : Nat)) = 
      true ∧ decide ((bytesN [cn n 2]).size = (1 : Nat)) = true ∧ decide ((ByteArray.mk #[] ++ bytesN [cn n 32] ++ bytesN [cn n 16] ++ bytesN [cn n 8] ++ bytesN [cn n 
      4]).size = (4 : Nat)) = true ∧ decide ((bytesN [cn n 2]).size = (1 : Nat)) = true ∧ decide ((ByteArray.mk #[] ++ bytesN [cn n 32] ++ bytesN [cn n 16] ++ bytesN [cn 
      n 8] ++ bytesN [cn n 4] ++ bytesN [cn n 2]).size = (5 : Nat)) = true ∧ decide ((bytesN [cn n 1]).size = (1 : Nat)) = true ∧ decide ((ByteArray.mk #[] ++ bytesN [cn 
      n 32] ++ bytesN [cn n 16] ++ bytesN [cn n 8] ++ bytesN [cn n 4] ++ bytesN [cn n 2]).size = (5 : Nat)) = true ∧ decide ((bytesN [cn n 1]).size = (1 : Nat)) = true ∧ 
      ByteArray.mk #[] ++ bytesN [cn n 32] ++ bytesN [cn n 16] ++ bytesN [cn n 8] ++ bytesN [cn n 4] ++ bytesN [cn n 2] ++ bytesN [cn n 1] = numT6 n) := by kernel_rfl
theorem num14_p (E : World) (n : Int) :
    (conP (.c (.strn 14 (numT14 n))) (fnTree (pe E) (orcA E) (tabL fns) 20000 Try.f16 [.c (.i false .i64 n), .c (.i true .i64 14)] [])) =
    (decide ((bytesN [cn n 8192]).size = (1 : Nat)) = true ∧ decide (0 = 0) = true ∧ decide ((bytesN [cn n 8192]).size = (1 : Nat)) = true ∧ decide ((ByteArray.mk #[] ++ 
      bytesN [cn n 8192]).size = (1 : Nat)) = true ∧ decide ((bytesN [cn n 4096]).size = (1 : Nat)) = true ∧ decide ((ByteArray.mk #[] ++ bytesN [cn n 8192]).size = (1 : 
      Nat)) = true ∧ decide ((bytesN [cn n 4096]).size = (1 : Nat)) = true ∧ decide ((ByteArray.mk #[] ++ bytesN [cn n 8192] ++ bytesN [cn n 4096]).size = (2 : Nat)) = 
      true ∧ decide ((bytesN [cn n 2048]).size = (1 : Nat)) = true ∧ decide ((ByteArray.mk #[] ++ bytesN [cn n 8192] ++ bytesN [cn n 4096]).size = (2 : Nat)) = true ∧ 
      decide ((bytesN [cn n 2048]).size = (1 : Nat)) = true ∧ decide ((ByteArray.mk #[] ++ bytesN [cn n 8192] ++ bytesN [cn n 4096] ++ bytesN [cn n 2048]).size = (3 : 
      Nat)) = true ∧ decide ((bytesN [cn n 1024]).size = (1 : Nat)) = true ∧ decide ((ByteArray.mk #[] ++ bytesN [cn n 8192] ++ bytesN [cn n 4096] ++ bytesN [cn n 
      2048]).size = (3 : Nat)) = true ∧ decide ((bytesN [cn n 1024]).size = (1 : Nat)) = true ∧ decide ((ByteArray.mk #[] ++ bytesN [cn n 8192] ++ bytesN [cn n 4096] ++ 
      bytesN [cn n 2048] ++ bytesN [cn n 1024]).size = (4 : Nat)) = true ∧ decide ((bytesN [cn n 512]).size = (1 : Nat)) = true ∧ decide ((ByteArray.mk #[] ++ bytesN [cn 
      n 8192] ++ bytesN [cn n 4096] ++ bytesN [cn n 2048] ++ bytesN [cn n 1024]).size = (4 : Nat)) = true ∧ decide ((bytesN [cn n 512]).size = (1 : Nat)) = true ∧ decide 
      ((ByteArray.mk #[] ++ bytesN [cn n 8192] ++ bytesN [cn n 4096] ++ bytesN [cn n 2048] ++ bytesN [cn n 1024] ++ bytesN [cn n 512]).size = (5 : Nat)) = true ∧ decide 
      ((bytesN [cn n 256]).size = (1 : Nat)) = true ∧ decide ((ByteArray.mk #[] ++ bytesN [cn n 8192] ++ bytesN [cn n 4096] ++ bytesN [cn n 2048] ++ bytesN [cn n 1024] ++ 
      bytesN [cn n 512]).size = (5 : Nat)) = true ∧ decide ((bytesN [cn n 256]).size = (1 : Nat)) = true ∧ decide ((ByteArray.mk #[] ++ bytesN [cn n 8192] ++ bytesN [cn n 
      4096] ++ bytesN [cn n 2048] ++ bytesN [cn n 1024] ++ bytesN [cn n 512] ++ bytesN [cn n 256]).size = (6 : Nat)) = true ∧ decide ((bytesN [cn n 128]).size = (1 : 
      Nat)) = true ∧ decide ((ByteArray.mk #[] ++ bytesN [cn n 8192] ++ bytesN [cn n 4096] ++ bytesN [cn n 2048] ++ bytesN [cn n 1024] ++ bytesN [cn n 512] ++ bytesN [cn 
      n 256]).size = (6 : Nat)) = true ∧ decide ((bytesN [cn n 128]).size = (1 : Nat)) = true ∧ decide ((ByteArray.mk #[] ++ bytesN [cn n 8192] ++ bytesN [cn n 4096] ++ 
      bytesN [cn n 2048] ++ bytesN [cn n 1024] ++ bytesN [cn n 512] ++ bytesN [cn n 256] ++ bytesN [cn n 128]).size = (7 : Nat)) = true ∧ decide ((bytesN [cn n 64]).size 
      = (1 : Nat)) = true ∧ decide ((ByteArray.mk #[] ++ bytesN [cn n 8192] ++ bytesN [cn n 4096] ++ bytesN [cn n 2048] ++ bytesN [cn n 1024] ++ bytesN [cn n 512] ++ 
      bytesN [cn n 256] ++ bytesN [cn n 128]).size = (7 : Nat)) = true ∧ decide ((bytesN [cn n 64]).size = (1 : Nat)) = true ∧ decide ((ByteArray.mk #[] ++ bytesN [cn n 
      8192] ++ bytesN [cn n 4096] ++ bytesN [cn n 2048] ++ bytesN [cn n 1024] ++ bytesN [cn n 512] ++ bytesN [cn n 256] ++ bytesN [cn n 128] ++ bytesN [cn n 64]).size = 
      (8 : Nat)) = true ∧ decide ((bytesN [cn n 32]).size = (1 : Nat)) = true ∧ decide ((ByteArray.mk #[] ++ bytesN [cn n 8192] ++ bytesN [cn n 4096] ++ bytesN [cn n 
      2048] ++ bytesN [cn n 1024] ++ bytesN [cn n 512] ++ bytesN [cn n 256] ++ bytesN [cn n 128] ++ bytesN [cn n 64]).size = (8 : Nat)) = true ∧ decide ((bytesN [cn n 
      32]).size = (1 : Nat)) = true ∧ decide ((ByteArray.mk #[] ++ bytesN [cn n 8192] ++ bytesN [cn n 4096] ++ bytesN [cn n 2048] ++ bytesN [cn n 1024] ++ bytesN [cn n 
      512] ++ bytesN [cn n 256] ++ bytesN [cn n 128] ++ bytesN [cn n 64] ++ bytesN [cn n 32]).size = (9 : Nat)) = true ∧ decide ((bytesN [cn n 16]).size = (1 : Nat)) = 
      true ∧ decide ((ByteArray.mk #[] ++ bytesN [cn n 8192] ++ bytesN [cn n 4096] ++ bytesN [cn n 2048] ++ bytesN [cn n 1024] ++ bytesN [cn n 512] ++ bytesN [cn n 256] 
      ++ bytesN [cn n 128] ++ bytesN [cn n 64] ++ bytesN [cn n 32]).size = (9 : Nat)) = true ∧ decide ((bytesN [cn n 16]).size = (1 : Nat)) = true ∧ decide ((ByteArray.mk 
      #[] ++ bytesN [cn n 8192] ++ bytesN [cn n 4096] ++ bytesN [cn n 2048] ++ bytesN [cn n 1024] ++ bytesN [cn n 512] ++ bytesN [cn n 256] ++ bytesN [cn n 128] ++ bytesN 
      [cn n 64] ++ bytesN [cn n 32] ++ bytesN [cn n 16]).size = (10 : Nat)) = true ∧ decide ((bytesN [cn n 8]).size = (1 : Nat)) = true ∧ decide ((ByteArray.mk #[] ++ 
      bytesN [cn n 8192] ++ bytesN [cn n 4096] ++ bytesN [cn n 2048] ++ bytesN [cn n 1024] ++ bytesN [cn n 512] ++ bytesN [cn n 256] ++ bytesN [cn n 128] ++ bytesN [cn n 
      64] ++ bytesN [cn n 32] ++ bytesN [cn n 16]).size = (10 : Nat)) = true ∧ decide ((bytesN [cn n 8]).size = (1 : Nat)) = true ∧ decide ((ByteArray.mk #[] ++ bytesN 
      [cn n 8192] ++ bytesN [cn n 4096] ++ bytesN [cn n 2048] ++ bytesN [cn n 1024] ++ bytesN [cn n 512] ++ bytesN [cn n 256] ++ bytesN [cn n 128] ++ bytesN [cn n 64] ++ 
      bytesN [cn n 32] ++ bytesN [cn n 16] ++ bytesN [cn n 8]).size = (11 : Nat)) = true ∧ decide ((bytesN [cn n 4]).size = (1 : Nat)) = true ∧ decide ((ByteArray.mk #[] 
      ++ bytesN [cn n 8192] ++ bytesN [cn n 4096] ++ bytesN [cn n 2048] ++ bytesN [cn n 1024] ++ bytesN [cn n 512] ++ bytesN [cn n 256] ++ bytesN [cn n 128] ++ bytesN [cn 
      n 64] ++ bytesN [cn n 32] ++ bytesN [cn n 16] ++ bytesN [cn n 8]).size = (11 : Nat)) = true ∧ decide ((bytesN [cn n 4]).size = (1 : Nat)) = true ∧ decide 
      ((ByteArray.mk #[] ++ bytesN [cn n 8192] ++ bytesN [cn n 4096] ++ bytesN [cn n 2048] ++ bytesN [cn n 1024] ++ bytesN [cn n 512] ++ bytesN [cn n 256] ++ bytesN [cn n 
      128] ++ bytesN [cn n 64] ++ bytesN [cn n 32] ++ bytesN [cn n 16] ++ bytesN [cn n 8] ++ bytesN [cn n 4]).size = (12 : Nat)) = true ∧ decide ((bytesN [cn n 2]).size = 
      (1 : Nat)) = true ∧ decide ((ByteArray.mk #[] ++ bytesN [cn n 8192] ++ bytesN [cn n 4096] ++ bytesN [cn n 2048] ++ bytesN [cn n 1024] ++ bytesN [cn n 512] ++ bytesN 
      [cn n 256] ++ bytesN [cn n 128] ++ bytesN [cn n 64] ++ bytesN [cn n 32] ++ bytesN [cn n 16] ++ bytesN [cn n 8] ++ bytesN [cn n 4]).size = (12 : Nat)) = true ∧ 
      decide ((bytesN [cn n 2]).size = (1 : Nat)) = true ∧ decide ((ByteArray.mk #[] ++ bytesN [cn n 8192] ++ bytesN [cn n 4096] ++ bytesN [cn n 2048] ++ bytesN [cn n 
      1024] ++ bytesN [cn n 512] ++ bytesN [cn n 256] ++ bytesN [cn n 128] ++ bytesN [cn n 64] ++ bytesN [cn n 32] ++ bytesN [cn n 16] ++ bytesN [cn n 8] ++ bytesN [cn n 
      4] ++ bytesN [cn n 2]).size = (13 : Nat)) = true ∧ decide ((bytesN [cn n 1]).size = (1 : Nat)) = true ∧ decide ((ByteArray.mk #[] ++ bytesN [cn n 8192] ++ bytesN 
      [cn n 4096] ++ bytesN [cn n 2048] ++ bytesN [cn n 1024] ++ bytesN [cn n 512] ++ bytesN [cn n 256] ++ bytesN [cn n 128] ++ bytesN [cn n 64] ++ bytesN [cn n 32] ++ 
      bytesN [cn n 16] ++ bytesN [cn n 8] ++ bytesN [cn n 4] ++ bytesN [cn n 2]).size = (13 : Nat)) = true ∧ decide ((bytesN [cn n 1]).size = (1 : Nat)) = true ∧ 
      ByteArray.mk #[] ++ bytesN [cn n 8192] ++ bytesN [cn n 4096] ++ bytesN [cn n 2048] ++ bytesN [cn n 1024] ++ bytesN [cn n 512] ++ bytesN [cn n 256] ++ bytesN [cn n 
      128] ++ bytesN [cn n 64] ++ bytesN [cn n 32] ++ bytesN [cn n 16] ++ bytesN [cn n 8] ++ bytesN [cn n 4] ++ bytesN [cn n 2] ++ bytesN [cn n 1] = numT14 n) := by kernel_rfl
theorem num32_p (E : World) (n : Int) :
    (conP (.c (.strn 32 (numT32 n))) (fnTree (pe E) (orcA E) (tabL fns) 20000 Try.f16 [.c (.i false .i64 n), .c (.i true .i64 32)] [])) =
    (decide ((bytesN [cn n 2147483648]).size = (1 : Nat)) = true ∧ decide (0 = 0) = true ∧ decide ((bytesN [cn n 2147483648]).size = (1 : Nat)) = true ∧ decide ((ByteArray.mk 
      #[] ++ bytesN [cn n 2147483648]).size = (1 : Nat)) = true ∧ decide ((bytesN [cn n 1073741824]).size = (1 : Nat)) = true ∧ decide ((ByteArray.mk #[] ++ bytesN [cn n 
      2147483648]).size = (1 : Nat)) = true ∧ decide ((bytesN [cn n 1073741824]).size = (1 : Nat)) = true ∧ decide ((ByteArray.mk #[] ++ bytesN [cn n 2147483648] ++ 
      bytesN [cn n 1073741824]).size = (2 : Nat)) = true ∧ decide ((bytesN [cn n 536870912]).size = (1 : Nat)) = true ∧ decide ((ByteArray.mk #[] ++ bytesN [cn n 
      2147483648] ++ bytesN [cn n 1073741824]).size = (2 : Nat)) = true ∧ decide ((bytesN [cn n 536870912]).size = (1 : Nat)) = true ∧ decide ((ByteArray.mk #[] ++ bytesN 
      [cn n 2147483648] ++ bytesN [cn n 1073741824] ++ bytesN [cn n 536870912]).size = (3 : Nat)) = true ∧ decide ((bytesN [cn n 268435456]).size = (1 : Nat)) = true ∧ 
      decide ((ByteArray.mk #[] ++ bytesN [cn n 2147483648] ++ bytesN [cn n 1073741824] ++ bytesN [cn n 536870912]).size = (3 : Nat)) = true ∧ decide ((bytesN [cn n 
      268435456]).size = (1 : Nat)) = true ∧ decide ((ByteArray.mk #[] ++ bytesN [cn n 2147483648] ++ bytesN [cn n 1073741824] ++ bytesN [cn n 536870912] ++ bytesN [cn n 
      268435456]).size = (4 : Nat)) = true ∧ decide ((bytesN [cn n 134217728]).size = (1 : Nat)) = true ∧ decide ((ByteArray.mk #[] ++ bytesN [cn n 2147483648] ++ bytesN 
      [cn n 1073741824] ++ bytesN [cn n 536870912] ++ bytesN [cn n 268435456]).size = (4 : Nat)) = true ∧ decide ((bytesN [cn n 134217728]).size = (1 : Nat)) = true ∧ 
      decide ((ByteArray.mk #[] ++ bytesN [cn n 2147483648] ++ bytesN [cn n 1073741824] ++ bytesN [cn n 536870912] ++ bytesN [cn n 268435456] ++ bytesN [cn n 
      134217728]).size = (5 : Nat)) = true ∧ decide ((bytesN [cn n 67108864]).size = (1 : Nat)) = true ∧ decide ((ByteArray.mk #[] ++ bytesN [cn n 2147483648] ++ bytesN 
      [cn n 1073741824] ++ bytesN [cn n 536870912] ++ bytesN [cn n 268435456] ++ bytesN [cn n 134217728]).size = (5 : Nat)) = true ∧ decide ((bytesN [cn n 67108864]).size 
      = (1 : Nat)) = true ∧ decide ((ByteArray.mk #[] ++ bytesN [cn n 2147483648] ++ bytesN [cn n 1073741824] ++ bytesN [cn n 536870912] ++ bytesN [cn n 268435456] ++ 
      bytesN [cn n 134217728] ++ bytesN [cn n 67108864]).size = (6 : Nat)) = true ∧ decide ((bytesN [cn n 33554432]).size = (1 : Nat)) = true ∧ decide ((ByteArray.mk #[] 
      ++ bytesN [cn n 2147483648] ++ bytesN [cn n 1073741824] ++ bytesN [cn n 536870912] ++ bytesN [cn n 268435456] ++ bytesN [cn n 134217728] ++ bytesN [cn n 
      67108864]).size = (6 : Nat)) = true ∧ decide ((bytesN [cn n 33554432]).size = (1 : Nat)) = true ∧ decide ((ByteArray.mk #[] ++ bytesN [cn n 2147483648] ++ bytesN 
      [cn n 1073741824] ++ bytesN [cn n 536870912] ++ bytesN [cn n 268435456] ++ bytesN [cn n 134217728] ++ bytesN [cn n 67108864] ++ bytesN [cn n 33554432]).size = (7 : 
      Nat)) = true ∧ decide ((bytesN [cn n 16777216]).size = (1 : Nat)) = true ∧ decide ((ByteArray.mk #[] ++ bytesN [cn n 2147483648] ++ bytesN [cn n 1073741824] ++ 
      bytesN [cn n 536870912] ++ bytesN [cn n 268435456] ++ bytesN [cn n 134217728] ++ bytesN [cn n 67108864] ++ bytesN [cn n 33554432]).size = (7 : Nat)) = true ∧ decide 
      ((bytesN [cn n 16777216]).size = (1 : Nat)) = true ∧ decide ((ByteArray.mk #[] ++ bytesN [cn n 2147483648] ++ bytesN [cn n 1073741824] ++ bytesN [cn n 536870912] ++ 
      bytesN [cn n 268435456] ++ bytesN [cn n 134217728] ++ bytesN [cn n 67108864] ++ bytesN [cn n 33554432] ++ bytesN [cn n 16777216]).size = (8 : Nat)) = true ∧ decide 
      ((bytesN [cn n 8388608]).size = (1 : Nat)) = true ∧ decide ((ByteArray.mk #[] ++ bytesN [cn n 2147483648] ++ bytesN [cn n 1073741824] ++ bytesN [cn n 536870912] ++ 
      bytesN [cn n 268435456] ++ bytesN [cn n 134217728] ++ bytesN [cn n 67108864] ++ bytesN [cn n 33554432] ++ bytesN [cn n 16777216]).size = (8 : Nat)) = true ∧ decide 
      ((bytesN [cn n 8388608]).size = (1 : Nat)) = true ∧ decide ((ByteArray.mk #[] ++ bytesN [cn n 2147483648] ++ bytesN [cn n 1073741824] ++ bytesN [cn n 536870912] ++ 
      bytesN [cn n 268435456] ++ bytesN [cn n 134217728] ++ bytesN [cn n 67108864] ++ bytesN [cn n 33554432] ++ bytesN [cn n 16777216] ++ bytesN [cn n 8388608]).size = (9 
      : Nat)) = true ∧ decide ((bytesN [cn n 4194304]).size = (1 : Nat)) = true ∧ decide ((ByteArray.mk #[] ++ bytesN [cn n 2147483648] ++ bytesN [cn n 1073741824] ++ 
      bytesN [cn n 536870912] ++ bytesN [cn n 268435456] ++ bytesN [cn n 134217728] ++ bytesN [cn n 67108864] ++ bytesN [cn n 33554432] ++ bytesN [cn n 16777216] ++ 
      bytesN [cn n 8388608]).size = (9 : Nat)) = true ∧ decide ((bytesN [cn n 4194304]).size = (1 : Nat)) = true ∧ decide ((ByteArray.mk #[] ++ bytesN [cn n 2147483648] 
      ++ bytesN [cn n 1073741824] ++ bytesN [cn n 536870912] ++ bytesN [cn n 268435456] ++ bytesN [cn n 134217728] ++ bytesN [cn n 67108864] ++ bytesN [cn n 33554432] ++ 
      bytesN [cn n 16777216] ++ bytesN [cn n 8388608] ++ bytesN [cn n 4194304]).size = (10 : Nat)) = true ∧ decide ((bytesN [cn n 2097152]).size = (1 : Nat)) = true ∧ 
      decide ((ByteArray.mk #[] ++ bytesN [cn n 2147483648] ++ bytesN [cn n 1073741824] ++ bytesN [cn n 536870912] ++ bytesN [cn n 268435456] ++ bytesN [cn n 134217728] 
      ++ bytesN [cn n 67108864] ++ bytesN [cn n 33554432] ++ bytesN [cn n 16777216] ++ bytesN [cn n 8388608] ++ bytesN [cn n 4194304]).size = (10 : Nat)) = true ∧ decide 
      ((bytesN [cn n 2097152]).size = (1 : Nat)) = true ∧ decide ((ByteArray.mk #[] ++ bytesN [cn n 2147483648] ++ bytesN [cn n 1073741824] ++ bytesN [cn n 536870912] ++ 
      bytesN [cn n 268435456] ++ bytesN [cn n 134217728] ++ bytesN [cn n 67108864] ++ bytesN [cn n 33554432] ++ bytesN [cn n 16777216] ++ bytesN [cn n 8388608] ++ bytesN 
      [cn n 4194304] ++ bytesN [cn n 2097152]).size = (11 : Nat)) = true ∧ decide ((bytesN [cn n 1048576]).size = (1 : Nat)) = true ∧ decide ((ByteArray.mk #[] ++ bytesN 
      [cn n 2147483648] ++ bytesN [cn n 1073741824] ++ bytesN [cn n 536870912] ++ bytesN [cn n 268435456] ++ bytesN [cn n 134217728] ++ bytesN [cn n 67108864] ++ bytesN 
      [cn n 33554432] ++ bytesN [cn n 16777216] ++ bytesN [cn n 8388608] ++ bytesN [cn n 4194304] ++ bytesN [cn n 2097152]).size = (11 : Nat)) = true ∧ decide ((bytesN 
      [cn n 1048576]).size = (1 : Nat)) = true ∧ decide ((ByteArray.mk #[] ++ bytesN [cn n 2147483648] ++ bytesN [cn n 1073741824] ++ bytesN [cn n 536870912] ++ bytesN 
      [cn n 268435456] ++ bytesN [cn n 134217728] ++ bytesN [cn n 67108864] ++ bytesN [cn n 33554432] ++ bytesN [cn n 16777216] ++ bytesN [cn n 8388608] ++ bytesN [cn n 
      4194304] ++ bytesN [cn n 2097152] ++ bytesN [cn n 1048576]).size = (12 : Nat)) = true ∧ decide ((bytesN [cn n 524288]).size = (1 : Nat)) = true ∧ decide 
      ((ByteArray.mk #[] ++ bytesN [cn n 2147483648] ++ bytesN [cn n 1073741824] ++ bytesN [cn n 536870912] ++ bytesN [cn n 268435456] ++ bytesN [cn n 134217728] ++ 
      bytesN [cn n 67108864] ++ bytesN [cn n 33554432] ++ bytesN [cn n 16777216] ++ bytesN [cn n 8388608] ++ bytesN [cn n 4194304] ++ bytesN [cn n 2097152] ++ bytesN [cn 
      n 1048576]).size = (12 : Nat)) = true ∧ decide ((bytesN [cn n 524288]).size = (1 : Nat)) = true ∧ decide ((ByteArray.mk #[] ++ bytesN [cn n 2147483648] ++ bytesN 
      [cn n 1073741824] ++ bytesN [cn n 536870912] ++ bytesN [cn n 268435456] ++ bytesN [cn n 134217728] ++ bytesN [cn n 67108864] ++ bytesN [cn n 33554432] ++ bytesN [cn 
      n 16777216] ++ bytesN [cn n 8388608] ++ bytesN [cn n 4194304] ++ bytesN [cn n 2097152] ++ bytesN [cn n 1048576] ++ bytesN [cn n 524288]).size = (13 : Nat)) = true ∧ 
      decide ((bytesN [cn n 262144]).size = (1 : Nat)) = true ∧ decide ((ByteArray.mk #[] ++ bytesN [cn n 2147483648] ++ bytesN [cn n 1073741824] ++ bytesN [cn n 
      536870912] ++ bytesN [cn n 268435456] ++ bytesN [cn n 134217728] ++ bytesN [cn n 67108864] ++ bytesN [cn n 33554432] ++ bytesN [cn n 16777216] ++ bytesN [cn n 
      8388608] ++ bytesN [cn n 4194304] ++ bytesN [cn n 2097152] ++ bytesN [cn n 1048576] ++ bytesN [cn n 524288]).size = (13 : Nat)) = true ∧ decide ((bytesN [cn n 
      262144]).size = (1 : Nat)) = true ∧ decide ((ByteArray.mk #[] ++ bytesN [cn n 2147483648] ++ bytesN [cn n 1073741824] ++ bytesN [cn n 536870912] ++ bytesN [cn n 
      268435456] ++ bytesN [cn n 134217728] ++ bytesN [cn n 67108864] ++ bytesN [cn n 33554432] ++ bytesN [cn n 16777216] ++ bytesN [cn n 8388608] ++ bytesN [cn n 
      4194304] ++ bytesN [cn n 2097152] ++ bytesN [cn n 1048576] ++ bytesN [cn n 524288] ++ bytesN [cn n 262144]).size = (14 : Nat)) = true ∧ decide ((bytesN [cn n 
      131072]).size = (1 : Nat)) = true ∧ decide ((ByteArray.mk #[] ++ bytesN [cn n 2147483648] ++ bytesN [cn n 1073741824] ++ bytesN [cn n 536870912] ++ bytesN [cn n 
      268435456] ++ bytesN [cn n 134217728] ++ bytesN [cn n 67108864] ++ bytesN [cn n 33554432] ++ bytesN [cn n 16777216] ++ bytesN [cn n 8388608] ++ bytesN [cn n 
      4194304] ++ bytesN [cn n 2097152] ++ bytesN [cn n 1048576] ++ bytesN [cn n 524288] ++ bytesN [cn n 262144]).size = (14 : Nat)) = true ∧ decide ((bytesN [cn n 
      131072]).size = (1 : Nat)) = true ∧ decide ((ByteArray.mk #[] ++ bytesN [cn n 2147483648] ++ bytesN [cn n 1073741824] ++ bytesN [cn n 536870912] ++ bytesN [cn n 
      268435456] ++ bytesN [cn n 134217728] ++ bytesN [cn n 67108864] ++ bytesN [cn n 33554432] ++ bytesN [cn n 16777216] ++ bytesN [cn n 8388608] ++ bytesN [cn n 
      4194304] ++ bytesN [cn n 2097152] ++ bytesN [cn n 1048576] ++ bytesN [cn n 524288] ++ bytesN [cn n 262144] ++ bytesN [cn n 131072]).size = (15 : Nat)) = true ∧ 
      decide ((bytesN [cn n 65536]).size = (1 : Nat)) = true ∧ decide ((ByteArray.mk #[] ++ bytesN [cn n 2147483648] ++ bytesN [cn n 1073741824] ++ bytesN [cn n 
      536870912] ++ bytesN [cn n 268435456] ++ bytesN [cn n 134217728] ++ bytesN [cn n 67108864] ++ bytesN [cn n 33554432] ++ bytesN [cn n 16777216] ++ bytesN [cn n 
      8388608] ++ bytesN [cn n 4194304] ++ bytesN [cn n 2097152] ++ bytesN [cn n 1048576] ++ bytesN [cn n 524288] ++ bytesN [cn n 262144] ++ bytesN [cn n 131072]).size = 
      (15 : Nat)) = true ∧ decide ((bytesN [cn n 65536]).size = (1 : Nat)) = true ∧ decide ((ByteArray.mk #[] ++ bytesN [cn n 2147483648] ++ bytesN [cn n 1073741824] ++ 
      bytesN [cn n 536870912] ++ bytesN [cn n 268435456] ++ bytesN [cn n 134217728] ++ bytesN [cn n 67108864] ++ bytesN [cn n 33554432] ++ bytesN [cn n 16777216] ++ 
      bytesN [cn n 8388608] ++ bytesN [cn n 4194304] ++ bytesN [cn n 2097152] ++ bytesN [cn n 1048576] ++ bytesN [cn n 524288] ++ bytesN [cn n 262144] ++ bytesN [cn n 
      131072] ++ bytesN [cn n 65536]).size = (16 : Nat)) = true ∧ decide ((bytesN [cn n 32768]).size = (1 : Nat)) = true ∧ decide ((ByteArray.mk #[] ++ bytesN [cn n 
      2147483648] ++ bytesN [cn n 1073741824] ++ bytesN [cn n 536870912] ++ bytesN [cn n 268435456] ++ bytesN [cn n 134217728] ++ bytesN [cn n 67108864] ++ bytesN [cn n 
      33554432] ++ bytesN [cn n 16777216] ++ bytesN [cn n 8388608] ++ bytesN [cn n 4194304] ++ bytesN [cn n 2097152] ++ bytesN [cn n 1048576] ++ bytesN [cn n 524288] ++ 
      bytesN [cn n 262144] ++ bytesN [cn n 131072] ++ bytesN [cn n 65536]).size = (16 : Nat)) = true ∧ decide ((bytesN [cn n 32768]).size = (1 : Nat)) = true ∧ decide 
      ((ByteArray.mk #[] ++ bytesN [cn n 2147483648] ++ bytesN [cn n 1073741824] ++ bytesN [cn n 536870912] ++ bytesN [cn n 268435456] ++ bytesN [cn n 134217728] ++ 
      bytesN [cn n 67108864] ++ bytesN [cn n 33554432] ++ bytesN [cn n 16777216] ++ bytesN [cn n 8388608] ++ bytesN [cn n 4194304] ++ bytesN [cn n 2097152] ++ bytesN [cn 
      n 1048576] ++ bytesN [cn n 524288] ++ bytesN [cn n 262144] ++ bytesN [cn n 131072] ++ bytesN [cn n 65536] ++ bytesN [cn n 32768]).size = (17 : Nat)) = true ∧ decide 
      ((bytesN [cn n 16384]).size = (1 : Nat)) = true ∧ decide ((ByteArray.mk #[] ++ bytesN [cn n 2147483648] ++ bytesN [cn n 1073741824] ++ bytesN [cn n 536870912] ++ 
      bytesN [cn n 268435456] ++ bytesN [cn n 134217728] ++ bytesN [cn n 67108864] ++ bytesN [cn n 33554432] ++ bytesN [cn n 16777216] ++ bytesN [cn n 8388608] ++ bytesN 
      [cn n 4194304] ++ bytesN [cn n 2097152] ++ bytesN [cn n 1048576] ++ bytesN [cn n 524288] ++ bytesN [cn n 262144] ++ bytesN [cn n 131072] ++ bytesN [cn n 65536] ++ 
      bytesN [cn n 32768]).size = (17 : Nat)) = true ∧ decide ((bytesN [cn n 16384]).size = (1 : Nat)) = true ∧ decide ((ByteArray.mk #[] ++ bytesN [cn n 2147483648] ++ 
      bytesN [cn n 1073741824] ++ bytesN [cn n 536870912] ++ bytesN [cn n 268435456] ++ bytesN [cn n 134217728] ++ bytesN [cn n 67108864] ++ bytesN [cn n 33554432] ++ 
      bytesN [cn n 16777216] ++ bytesN [cn n 8388608] ++ bytesN [cn n 4194304] ++ bytesN [cn n 2097152] ++ bytesN [cn n 1048576] ++ bytesN [cn n 524288] ++ bytesN [cn n 
      262144] ++ bytesN [cn n 131072] ++ bytesN [cn n 65536] ++ bytesN [cn n 32768] ++ bytesN [cn n 16384]).size = (18 : Nat)) = true ∧ decide ((bytesN [cn n 8192]).size 
      = (1 : Nat)) = true ∧ decide ((ByteArray.mk #[] ++ bytesN [cn n 2147483648] ++ bytesN [cn n 1073741824] ++ bytesN [cn n 536870912] ++ bytesN [cn n 268435456] ++ 
      bytesN [cn n 134217728] ++ bytesN [cn n 67108864] ++ bytesN [cn n 33554432] ++ bytesN [cn n 16777216] ++ bytesN [cn n 8388608] ++ bytesN [cn n 4194304] ++ bytesN 
      [cn n 2097152] ++ bytesN [cn n 1048576] ++ bytesN [cn n 524288] ++ bytesN [cn n 262144] ++ bytesN [cn n 131072] ++ bytesN [cn n 65536] ++ bytesN [cn n 32768] ++ 
      bytesN [cn n 16384]).size = (18 : Nat)) = true ∧ decide ((bytesN [cn n 8192]).size = (1 : Nat)) = true ∧ decide ((ByteArray.mk #[] ++ bytesN [cn n 2147483648] ++ 
      bytesN [cn n 1073741824] ++ bytesN [cn n 536870912] ++ bytesN [cn n 268435456] ++ bytesN [cn n 134217728] ++ bytesN [cn n 67108864] ++ bytesN [cn n 33554432] ++ 
      bytesN [cn n 16777216] ++ bytesN [cn n 8388608] ++ bytesN [cn n 4194304] ++ bytesN [cn n 2097152] ++ bytesN [cn n 1048576] ++ bytesN [cn n 524288] ++ bytesN [cn n 
      262144] ++ bytesN [cn n 131072] ++ bytesN [cn n 65536] ++ bytesN [cn n 32768] ++ bytesN [cn n 16384] ++ bytesN [cn n 8192]).size = (19 : Nat)) = true ∧ decide 
      ((bytesN [cn n 4096]).size = (1 : Nat)) = true ∧ decide ((ByteArray.mk #[] ++ bytesN [cn n 2147483648] ++ bytesN [cn n 1073741824] ++ bytesN [cn n 536870912] ++ 
      bytesN [cn n 268435456] ++ bytesN [cn n 134217728] ++ bytesN [cn n 67108864] ++ bytesN [cn n 33554432] ++ bytesN [cn n 16777216] ++ bytesN [cn n 8388608] ++ bytesN 
      [cn n 4194304] ++ bytesN [cn n 2097152] ++ bytesN [cn n 1048576] ++ bytesN [cn n 524288] ++ bytesN [cn n 262144] ++ bytesN [cn n 131072] ++ bytesN [cn n 65536] ++ 
      bytesN [cn n 32768] ++ bytesN [cn n 16384] ++ bytesN [cn n 8192]).size = (19 : Nat)) = true ∧ decide ((bytesN [cn n 4096]).size = (1 : Nat)) = true ∧ decide 
      ((ByteArray.mk #[] ++ bytesN [cn n 2147483648] ++ bytesN [cn n 1073741824] ++ bytesN [cn n 536870912] ++ bytesN [cn n 268435456] ++ bytesN [cn n 134217728] ++ 
      bytesN [cn n 67108864] ++ bytesN [cn n 33554432] ++ bytesN [cn n 16777216] ++ bytesN [cn n 8388608] ++ bytesN [cn n 4194304] ++ bytesN [cn n 2097152] ++ bytesN [cn 
      n 1048576] ++ bytesN [cn n 524288] ++ bytesN [cn n 262144] ++ bytesN [cn n 131072] ++ bytesN [cn n 65536] ++ bytesN [cn n 32768] ++ bytesN [cn n 16384] ++ bytesN 
      [cn n 8192] ++ bytesN [cn n 4096]).size = (20 : Nat)) = true ∧ decide ((bytesN [cn n 2048]).size = (1 : Nat)) = true ∧ decide ((ByteArray.mk #[] ++ bytesN [cn n 
      2147483648] ++ bytesN [cn n 1073741824] ++ bytesN [cn n 536870912] ++ bytesN [cn n 268435456] ++ bytesN [cn n 134217728] ++ bytesN [cn n 67108864] ++ bytesN [cn n 
      33554432] ++ bytesN [cn n 16777216] ++ bytesN [cn n 8388608] ++ bytesN [cn n 4194304] ++ bytesN [cn n 2097152] ++ bytesN [cn n 1048576] ++ bytesN [cn n 524288] ++ 
      bytesN [cn n 262144] ++ bytesN [cn n 131072] ++ bytesN [cn n 65536] ++ bytesN [cn n 32768] ++ bytesN [cn n 16384] ++ bytesN [cn n 8192] ++ bytesN [cn n 4096]).size 
      = (20 : Nat)) = true ∧ decide ((bytesN [cn n 2048]).size = (1 : Nat)) = true ∧ decide ((ByteArray.mk #[] ++ bytesN [cn n 2147483648] ++ bytesN [cn n 1073741824] ++ 
      bytesN [cn n 536870912] ++ bytesN [cn n 268435456] ++ bytesN [cn n 134217728] ++ bytesN [cn n 67108864] ++ bytesN [cn n 33554432] ++ bytesN [cn n 16777216] ++ 
      bytesN [cn n 8388608] ++ bytesN [cn n 4194304] ++ bytesN [cn n 2097152] ++ bytesN [cn n 1048576] ++ bytesN [cn n 524288] ++ bytesN [cn n 262144] ++ bytesN [cn n 
      131072] ++ bytesN [cn n 65536] ++ bytesN [cn n 32768] ++ bytesN [cn n 16384] ++ bytesN [cn n 8192] ++ bytesN [cn n 4096] ++ bytesN [cn n 2048]).size = (21 : Nat)) = 
      true ∧ decide ((bytesN [cn n 1024]).size = (1 : Nat)) = true ∧ decide ((ByteArray.mk #[] ++ bytesN [cn n 2147483648] ++ bytesN [cn n 1073741824] ++ bytesN [cn n 
      536870912] ++ bytesN [cn n 268435456] ++ bytesN [cn n 134217728] ++ bytesN [cn n 67108864] ++ bytesN [cn n 33554432] ++ bytesN [cn n 16777216] ++ bytesN [cn n 
      8388608] ++ bytesN [cn n 4194304] ++ bytesN [cn n 2097152] ++ bytesN [cn n 1048576] ++ bytesN [cn n 524288] ++ bytesN [cn n 262144] ++ bytesN [cn n 131072] ++ 
      bytesN [cn n 65536] ++ bytesN [cn n 32768] ++ bytesN [cn n 16384] ++ bytesN [cn n 8192] ++ bytesN [cn n 4096] ++ bytesN [cn n 2048]).size = (21 : Nat)) = true ∧ 
      decide ((bytesN [cn n 1024]).size = (1 : Nat)) = true ∧ decide ((ByteArray.mk #[] ++ bytesN [cn n 2147483648] ++ bytesN [cn n 1073741824] ++ bytesN [cn n 536870912] 
      ++ bytesN [cn n 268435456] ++ bytesN [cn n 134217728] ++ bytesN [cn n 67108864] ++ bytesN [cn n 33554432] ++ bytesN [cn n 16777216] ++ bytesN [cn n 8388608] ++ 
      bytesN [cn n 4194304] ++ bytesN [cn n 2097152] ++ bytesN [cn n 1048576] ++ bytesN [cn n 524288] ++ bytesN [cn n 262144] ++ bytesN [cn n 131072] ++ bytesN [cn n 
      65536] ++ bytesN [cn n 32768] ++ bytesN [cn n 16384] ++ bytesN [cn n 8192] ++ bytesN [cn n 4096] ++ bytesN [cn n 2048] ++ bytesN [cn n 1024]).size = (22 : Nat)) = 
      true ∧ decide ((bytesN [cn n 512]).size = (1 : Nat)) = true ∧ decide ((ByteArray.mk #[] ++ bytesN [cn n 2147483648] ++ bytesN [cn n 1073741824] ++ bytesN [cn n 
      536870912] ++ bytesN [cn n 268435456] ++ bytesN [cn n 134217728] ++ bytesN [cn n 67108864] ++ bytesN [cn n 33554432] ++ bytesN [cn n 16777216] ++ bytesN [cn n 
      8388608] ++ bytesN [cn n 4194304] ++ bytesN [cn n 2097152] ++ bytesN [cn n 1048576] ++ bytesN [cn n 524288] ++ bytesN [cn n 262144] ++ bytesN [cn n 131072] ++ 
      bytesN [cn n 65536] ++ bytesN [cn n 32768] ++ bytesN [cn n 16384] ++ bytesN [cn n 8192] ++ bytesN [cn n 4096] ++ bytesN [cn n 2048] ++ bytesN [cn n 1024]).size = 
      (22 : Nat)) = true ∧ decide ((bytesN [cn n 512]).size = (1 : Nat)) = true ∧ decide ((ByteArray.mk #[] ++ bytesN [cn n 2147483648] ++ bytesN [cn n 1073741824] ++ 
      bytesN [cn n 536870912] ++ bytesN [cn n 268435456] ++ bytesN [cn n 134217728] ++ bytesN [cn n 67108864] ++ bytesN [cn n 33554432] ++ bytesN [cn n 16777216] ++ 
      bytesN [cn n 8388608] ++ bytesN [cn n 4194304] ++ bytesN [cn n 2097152] ++ bytesN [cn n 1048576] ++ bytesN [cn n 524288] ++ bytesN [cn n 262144] ++ bytesN [cn n 
      131072] ++ bytesN [cn n 65536] ++ bytesN [cn n 32768] ++ bytesN [cn n 16384] ++ bytesN [cn n 8192] ++ bytesN [cn n 4096] ++ bytesN [cn n 2048] ++ bytesN [cn n 1024] 
      ++ bytesN [cn n 512]).size = (23 : Nat)) = true ∧ decide ((bytesN [cn n 256]).size = (1 : Nat)) = true ∧ decide ((ByteArray.mk #[] ++ bytesN [cn n 2147483648] ++ 
      bytesN [cn n 1073741824] ++ bytesN [cn n 536870912] ++ bytesN [cn n 268435456] ++ bytesN [cn n 134217728] ++ bytesN [cn n 67108864] ++ bytesN [cn n 33554432] ++ 
      bytesN [cn n 16777216] ++ bytesN [cn n 8388608] ++ bytesN [cn n 4194304] ++ bytesN [cn n 2097152] ++ bytesN [cn n 1048576] ++ bytesN [cn n 524288] ++ bytesN [cn n 
      262144] ++ bytesN [cn n 131072] ++ bytesN [cn n 65536] ++ bytesN [cn n 32768] ++ bytesN [cn n 16384] ++ bytesN [cn n 8192] ++ bytesN [cn n 4096] ++ bytesN [cn n 
      2048] ++ bytesN [cn n 1024] ++ bytesN [cn n 512]).size = (23 : Nat)) = true ∧ decide ((bytesN [cn n 256]).size = (1 : Nat)) = true ∧ decide ((ByteArray.mk #[] ++ 
      bytesN [cn n 2147483648] ++ bytesN [cn n 1073741824] ++ bytesN [cn n 536870912] ++ bytesN [cn n 268435456] ++ bytesN [cn n 134217728] ++ bytesN [cn n 67108864] ++ 
      bytesN [cn n 33554432] ++ bytesN [cn n 16777216] ++ bytesN [cn n 8388608] ++ bytesN [cn n 4194304] ++ bytesN [cn n 2097152] ++ bytesN [cn n 1048576] ++ bytesN [cn n 
      524288] ++ bytesN [cn n 262144] ++ bytesN [cn n 131072] ++ bytesN [cn n 65536] ++ bytesN [cn n 32768] ++ bytesN [cn n 16384] ++ bytesN [cn n 8192] ++ bytesN [cn n 
      4096] ++ bytesN [cn n 2048] ++ bytesN [cn n 1024] ++ bytesN [cn n 512] ++ bytesN [cn n 256]).size = (24 : Nat)) = true ∧ decide ((bytesN [cn n 128]).size = (1 : 
      Nat)) = true ∧ decide ((ByteArray.mk #[] ++ bytesN [cn n 2147483648] ++ bytesN [cn n 1073741824] ++ bytesN [cn n 536870912] ++ bytesN [cn n 268435456] ++ bytesN [cn 
      n 134217728] ++ bytesN [cn n 67108864] ++ bytesN [cn n 33554432] ++ bytesN [cn n 16777216] ++ bytesN [cn n 8388608] ++ bytesN [cn n 4194304] ++ bytesN [cn n 
      2097152] ++ bytesN [cn n 1048576] ++ bytesN [cn n 524288] ++ bytesN [cn n 262144] ++ bytesN [cn n 131072] ++ bytesN [cn n 65536] ++ bytesN [cn n 32768] ++ bytesN 
      [cn n 16384] ++ bytesN [cn n 8192] ++ bytesN [cn n 4096] ++ bytesN [cn n 2048] ++ bytesN [cn n 1024] ++ bytesN [cn n 512] ++ bytesN [cn n 256]).size = (24 : Nat)) = 
      true ∧ decide ((bytesN [cn n 128]).size = (1 : Nat)) = true ∧ decide ((ByteArray.mk #[] ++ bytesN [cn n 2147483648] ++ bytesN [cn n 1073741824] ++ bytesN [cn n 
      536870912] ++ bytesN [cn n 268435456] ++ bytesN [cn n 134217728] ++ bytesN [cn n 67108864] ++ bytesN [cn n 33554432] ++ bytesN [cn n 16777216] ++ bytesN [cn n 
      8388608] ++ bytesN [cn n 4194304] ++ bytesN [cn n 2097152] ++ bytesN [cn n 1048576] ++ bytesN [cn n 524288] ++ bytesN [cn n 262144] ++ bytesN [cn n 131072] ++ 
      bytesN [cn n 65536] ++ bytesN [cn n 32768] ++ bytesN [cn n 16384] ++ bytesN [cn n 8192] ++ bytesN [cn n 4096] ++ bytesN [cn n 2048] ++ bytesN [cn n 1024] ++ bytesN 
      [cn n 512] ++ bytesN [cn n 256] ++ bytesN [cn n 128]).size = (25 : Nat)) = true ∧ decide ((bytesN [cn n 64]).size = (1 : Nat)) = true ∧ decide ((ByteArray.mk #[] ++ 
      bytesN [cn n 2147483648] ++ bytesN [cn n 1073741824] ++ bytesN [cn n 536870912] ++ bytesN [cn n 268435456] ++ bytesN [cn n 134217728] ++ bytesN [cn n 67108864] ++ 
      bytesN [cn n 33554432] ++ bytesN [cn n 16777216] ++ bytesN [cn n 8388608] ++ bytesN [cn n 4194304] ++ bytesN [cn n 2097152] ++ bytesN [cn n 1048576] ++ bytesN [cn n 
      524288] ++ bytesN [cn n 262144] ++ bytesN [cn n 131072] ++ bytesN [cn n 65536] ++ bytesN [cn n 32768] ++ bytesN [cn n 16384] ++ bytesN [cn n 8192] ++ bytesN [cn n 
      4096] ++ bytesN [cn n 2048] ++ bytesN [cn n 1024] ++ bytesN [cn n 512] ++ bytesN [cn n 256] ++ bytesN [cn n 128]).size = (25 : Nat)) = true ∧ decide ((bytesN [cn n 
      64]).size = (1 : Nat)) = true ∧ decide ((ByteArray.mk #[] ++ bytesN [cn n 2147483648] ++ bytesN [cn n 1073741824] ++ bytesN [cn n 536870912] ++ bytesN [cn n 
      268435456] ++ bytesN [cn n 134217728] ++ bytesN [cn n 67108864] ++ bytesN [cn n 33554432] ++ bytesN [cn n 16777216] ++ bytesN [cn n 8388608] ++ bytesN [cn n 
      4194304] ++ bytesN [cn n 2097152] ++ bytesN [cn n 1048576] ++ bytesN [cn n 524288] ++ bytesN [cn n 262144] ++ bytesN [cn n 131072] ++ bytesN [cn n 65536] ++ bytesN 
      [cn n 32768] ++ bytesN [cn n 16384] ++ bytesN [cn n 8192] ++ bytesN [cn n 4096] ++ bytesN [cn n 2048] ++ bytesN [cn n 1024] ++ bytesN [cn n 512] ++ bytesN [cn n 
      256] ++ bytesN [cn n 128] ++ bytesN [cn n 64]).size = (26 : Nat)) = true ∧ decide ((bytesN [cn n 32]).size = (1 : Nat)) = true ∧ decide ((ByteArray.mk #[] ++ bytesN 
      [cn n 2147483648] ++ bytesN [cn n 1073741824] ++ bytesN [cn n 536870912] ++ bytesN [cn n 268435456] ++ bytesN [cn n 134217728] ++ bytesN [cn n 67108864] ++ bytesN 
      [cn n 33554432] ++ bytesN [cn n 16777216] ++ bytesN [cn n 8388608] ++ bytesN [cn n 4194304] ++ bytesN [cn n 2097152] ++ bytesN [cn n 1048576] ++ bytesN [cn n 
      524288] ++ bytesN [cn n 262144] ++ bytesN [cn n 131072] ++ bytesN [cn n 65536] ++ bytesN [cn n 32768] ++ bytesN [cn n 16384] ++ bytesN [cn n 8192] ++ bytesN [cn n 
      4096] ++ bytesN [cn n 2048] ++ bytesN [cn n 1024] ++ bytesN [cn n 512] ++ bytesN [cn n 256] ++ bytesN [cn n 128] ++ bytesN [cn n 64]).size = (26 : Nat)) = true ∧ 
      decide ((bytesN [cn n 32]).size = (1 : Nat)) = true ∧ decide ((ByteArray.mk #[] ++ bytesN [cn n 2147483648] ++ bytesN [cn n 1073741824] ++ bytesN [cn n 536870912] 
      ++ bytesN [cn n 268435456] ++ bytesN [cn n 134217728] ++ bytesN [cn n 67108864] ++ bytesN [cn n 33554432] ++ bytesN [cn n 16777216] ++ bytesN [cn n 8388608] ++ 
      bytesN [cn n 4194304] ++ bytesN [cn n 2097152] ++ bytesN [cn n 1048576] ++ bytesN [cn n 524288] ++ bytesN [cn n 262144] ++ bytesN [cn n 131072] ++ bytesN [cn n 
      65536] ++ bytesN [cn n 32768] ++ bytesN [cn n 16384] ++ bytesN [cn n 8192] ++ bytesN [cn n 4096] ++ bytesN [cn n 2048] ++ bytesN [cn n 1024] ++ bytesN [cn n 512] ++ 
      bytesN [cn n 256] ++ bytesN [cn n 128] ++ bytesN [cn n 64] ++ bytesN [cn n 32]).size = (27 : Nat)) = true ∧ decide ((bytesN [cn n 16]).size = (1 : Nat)) = true ∧ 
      decide ((ByteArray.mk #[] ++ bytesN [cn n 2147483648] ++ bytesN [cn n 1073741824] ++ bytesN [cn n 536870912] ++ bytesN [cn n 268435456] ++ bytesN [cn n 134217728] 
      ++ bytesN [cn n 67108864] ++ bytesN [cn n 33554432] ++ bytesN [cn n 16777216] ++ bytesN [cn n 8388608] ++ bytesN [cn n 4194304] ++ bytesN [cn n 2097152] ++ bytesN 
      [cn n 1048576] ++ bytesN [cn n 524288] ++ bytesN [cn n 262144] ++ bytesN [cn n 131072] ++ bytesN [cn n 65536] ++ bytesN [cn n 32768] ++ bytesN [cn n 16384] ++ 
      bytesN [cn n 8192] ++ bytesN [cn n 4096] ++ bytesN [cn n 2048] ++ bytesN [cn n 1024] ++ bytesN [cn n 512] ++ bytesN [cn n 256] ++ bytesN [cn n 128] ++ bytesN [cn n 
      64] ++ bytesN [cn n 32]).size = (27 : Nat)) = true ∧ decide ((bytesN [cn n 16]).size = (1 : Nat)) = true ∧ decide ((ByteArray.mk #[] ++ bytesN [cn n 2147483648] ++ 
      bytesN [cn n 1073741824] ++ bytesN [cn n 536870912] ++ bytesN [cn n 268435456] ++ bytesN [cn n 134217728] ++ bytesN [cn n 67108864] ++ bytesN [cn n 33554432] ++ 
      bytesN [cn n 16777216] ++ bytesN [cn n 8388608] ++ bytesN [cn n 4194304] ++ bytesN [cn n 2097152] ++ bytesN [cn n 1048576] ++ bytesN [cn n 524288] ++ bytesN [cn n 
      262144] ++ bytesN [cn n 131072] ++ bytesN [cn n 65536] ++ bytesN [cn n 32768] ++ bytesN [cn n 16384] ++ bytesN [cn n 8192] ++ bytesN [cn n 4096] ++ bytesN [cn n 
      2048] ++ bytesN [cn n 1024] ++ bytesN [cn n 512] ++ bytesN [cn n 256] ++ bytesN [cn n 128] ++ bytesN [cn n 64] ++ bytesN [cn n 32] ++ bytesN [cn n 16]).size = (28 : 
      Nat)) = true ∧ decide ((bytesN [cn n 8]).size = (1 : Nat)) = true ∧ decide ((ByteArray.mk #[] ++ bytesN [cn n 2147483648] ++ bytesN [cn n 1073741824] ++ bytesN [cn 
      n 536870912] ++ bytesN [cn n 268435456] ++ bytesN [cn n 134217728] ++ bytesN [cn n 67108864] ++ bytesN [cn n 33554432] ++ bytesN [cn n 16777216] ++ bytesN [cn n 
      8388608] ++ bytesN [cn n 4194304] ++ bytesN [cn n 2097152] ++ bytesN [cn n 1048576] ++ bytesN [cn n 524288] ++ bytesN [cn n 262144] ++ bytesN [cn n 131072] ++ 
      bytesN [cn n 65536] ++ bytesN [cn n 32768] ++ bytesN [cn n 16384] ++ bytesN [cn n 8192] ++ bytesN [cn n 4096] ++ bytesN [cn n 2048] ++ bytesN [cn n 1024] ++ bytesN 
      [cn n 512] ++ bytesN [cn n 256] ++ bytesN [cn n 128] ++ bytesN [cn n 64] ++ bytesN [cn n 32] ++ bytesN [cn n 16]).size = (28 : Nat)) = true ∧ decide ((bytesN [cn n 
      8]).size = (1 : Nat)) = true ∧ decide ((ByteArray.mk #[] ++ bytesN [cn n 2147483648] ++ bytesN [cn n 1073741824] ++ bytesN [cn n 536870912] ++ bytesN [cn n 
      268435456] ++ bytesN [cn n 134217728] ++ bytesN [cn n 67108864] ++ bytesN [cn n 33554432] ++ bytesN [cn n 16777216] ++ bytesN [cn n 8388608] ++ bytesN [cn n 
      4194304] ++ bytesN [cn n 2097152] ++ bytesN [cn n 1048576] ++ bytesN [cn n 524288] ++ bytesN [cn n 262144] ++ bytesN [cn n 131072] ++ bytesN [cn n 65536] ++ bytesN 
      [cn n 32768] ++ bytesN [cn n 16384] ++ bytesN [cn n 8192] ++ bytesN [cn n 4096] ++ bytesN [cn n 2048] ++ bytesN [cn n 1024] ++ bytesN [cn n 512] ++ bytesN [cn n 
      256] ++ bytesN [cn n 128] ++ bytesN [cn n 64] ++ bytesN [cn n 32] ++ bytesN [cn n 16] ++ bytesN [cn n 8]).size = (29 : Nat)) = true ∧ decide ((bytesN [cn n 4]).size 
      = (1 : Nat)) = true ∧ decide ((ByteArray.mk #[] ++ bytesN [cn n 2147483648] ++ bytesN [cn n 1073741824] ++ bytesN [cn n 536870912] ++ bytesN [cn n 268435456] ++ 
      bytesN [cn n 134217728] ++ bytesN [cn n 67108864] ++ bytesN [cn n 33554432] ++ bytesN [cn n 16777216] ++ bytesN [cn n 8388608] ++ bytesN [cn n 4194304] ++ bytesN 
      [cn n 2097152] ++ bytesN [cn n 1048576] ++ bytesN [cn n 524288] ++ bytesN [cn n 262144] ++ bytesN [cn n 131072] ++ bytesN [cn n 65536] ++ bytesN [cn n 32768] ++ 
      bytesN [cn n 16384] ++ bytesN [cn n 8192] ++ bytesN [cn n 4096] ++ bytesN [cn n 2048] ++ bytesN [cn n 1024] ++ bytesN [cn n 512] ++ bytesN [cn n 256] ++ bytesN [cn 
      n 128] ++ bytesN [cn n 64] ++ bytesN [cn n 32] ++ bytesN [cn n 16] ++ bytesN [cn n 8]).size = (29 : Nat)) = true ∧ decide ((bytesN [cn n 4]).size = (1 : Nat)) = 
      true ∧ decide ((ByteArray.mk #[] ++ bytesN [cn n 2147483648] ++ bytesN [cn n 1073741824] ++ bytesN [cn n 536870912] ++ bytesN [cn n 268435456] ++ bytesN [cn n 
      134217728] ++ bytesN [cn n 67108864] ++ bytesN [cn n 33554432] ++ bytesN [cn n 16777216] ++ bytesN [cn n 8388608] ++ bytesN [cn n 4194304] ++ bytesN [cn n 2097152] 
      ++ bytesN [cn n 1048576] ++ bytesN [cn n 524288] ++ bytesN [cn n 262144] ++ bytesN [cn n 131072] ++ bytesN [cn n 65536] ++ bytesN [cn n 32768] ++ bytesN [cn n 
      16384] ++ bytesN [cn n 8192] ++ bytesN [cn n 4096] ++ bytesN [cn n 2048] ++ bytesN [cn n 1024] ++ bytesN [cn n 512] ++ bytesN [cn n 256] ++ bytesN [cn n 128] ++ 
      bytesN [cn n 64] ++ bytesN [cn n 32] ++ bytesN [cn n 16] ++ bytesN [cn n 8] ++ bytesN [cn n 4]).size = (30 : Nat)) = true ∧ decide ((bytesN [cn n 2]).size = (1 : 
      Nat)) = true ∧ decide ((ByteArray.mk #[] ++ bytesN [cn n 2147483648] ++ bytesN [cn n 1073741824] ++ bytesN [cn n 536870912] ++ bytesN [cn n 268435456] ++ bytesN [cn 
      n 134217728] ++ bytesN [cn n 67108864] ++ bytesN [cn n 33554432] ++ bytesN [cn n 16777216] ++ bytesN [cn n 8388608] ++ bytesN [cn n 4194304] ++ bytesN [cn n 
      2097152] ++ bytesN [cn n 1048576] ++ bytesN [cn n 524288] ++ bytesN [cn n 262144] ++ bytesN [cn n 131072] ++ bytesN [cn n 65536] ++ bytesN [cn n 32768] ++ bytesN 
      [cn n 16384] ++ bytesN [cn n 8192] ++ bytesN [cn n 4096] ++ bytesN [cn n 2048] ++ bytesN [cn n 1024] ++ bytesN [cn n 512] ++ bytesN [cn n 256] ++ bytesN [cn n 128] 
      ++ bytesN [cn n 64] ++ bytesN [cn n 32] ++ bytesN [cn n 16] ++ bytesN [cn n 8] ++ bytesN [cn n 4]).size = (30 : Nat)) = true ∧ decide ((bytesN [cn n 2]).size = (1 : 
      Nat)) = true ∧ decide ((ByteArray.mk #[] ++ bytesN [cn n 2147483648] ++ bytesN [cn n 1073741824] ++ bytesN [cn n 536870912] ++ bytesN [cn n 268435456] ++ bytesN [cn 
      n 134217728] ++ bytesN [cn n 67108864] ++ bytesN [cn n 33554432] ++ bytesN [cn n 16777216] ++ bytesN [cn n 8388608] ++ bytesN [cn n 4194304] ++ bytesN [cn n 
      2097152] ++ bytesN [cn n 1048576] ++ bytesN [cn n 524288] ++ bytesN [cn n 262144] ++ bytesN [cn n 131072] ++ bytesN [cn n 65536] ++ bytesN [cn n 32768] ++ bytesN 
      [cn n 16384] ++ bytesN [cn n 8192] ++ bytesN [cn n 4096] ++ bytesN [cn n 2048] ++ bytesN [cn n 1024] ++ bytesN [cn n 512] ++ bytesN [cn n 256] ++ bytesN [cn n 128] 
      ++ bytesN [cn n 64] ++ bytesN [cn n 32] ++ bytesN [cn n 16] ++ bytesN [cn n 8] ++ bytesN [cn n 4] ++ bytesN [cn n 2]).size = (31 : Nat)) = true ∧ decide ((bytesN 
      [cn n 1]).size = (1 : Nat)) = true ∧ decide ((ByteArray.mk #[] ++ bytesN [cn n 2147483648] ++ bytesN [cn n 1073741824] ++ bytesN [cn n 536870912] ++ bytesN [cn n 
      268435456] ++ bytesN [cn n 134217728] ++ bytesN [cn n 67108864] ++ bytesN [cn n 33554432] ++ bytesN [cn n 16777216] ++ bytesN [cn n 8388608] ++ bytesN [cn n 
      4194304] ++ bytesN [cn n 2097152] ++ bytesN [cn n 1048576] ++ bytesN [cn n 524288] ++ bytesN [cn n 262144] ++ bytesN [cn n 131072] ++ bytesN [cn n 65536] ++ bytesN 
      [cn n 32768] ++ bytesN [cn n 16384] ++ bytesN [cn n 8192] ++ bytesN [cn n 4096] ++ bytesN [cn n 2048] ++ bytesN [cn n 1024] ++ bytesN [cn n 512] ++ bytesN [cn n 
      256] ++ bytesN [cn n 128] ++ bytesN [cn n 64] ++ bytesN [cn n 32] ++ bytesN [cn n 16] ++ bytesN [cn n 8] ++ bytesN [cn n 4] ++ bytesN [cn n 2]).size = (31 : Nat)) = 
      true ∧ decide ((bytesN [cn n 1]).size = (1 : Nat)) = true ∧ ByteArray.mk #[] ++ bytesN [cn n 2147483648] ++ bytesN [cn n 1073741824] ++ bytesN [cn n 536870912] ++ 
      bytesN [cn n 268435456] ++ bytesN [cn n 134217728] ++ bytesN [cn n 67108864] ++ bytesN [cn n 33554432] ++ bytesN [cn n 16777216] ++ bytesN [cn n 8388608] ++ bytesN 
      [cn n 4194304] ++ bytesN [cn n 2097152] ++ bytesN [cn n 1048576] ++ bytesN [cn n 524288] ++ bytesN [cn n 262144] ++ bytesN [cn n 131072] ++ bytesN [cn n 65536] ++ 
      bytesN [cn n 32768] ++ bytesN [cn n 16384] ++ bytesN [cn n 8192] ++ bytesN [cn n 4096] ++ bytesN [cn n 2048] ++ bytesN [cn n 1024] ++ bytesN [cn n 512] ++ bytesN 
      [cn n 256] ++ bytesN [cn n 128] ++ bytesN [cn n 64] ++ bytesN [cn n 32] ++ bytesN [cn n 16] ++ bytesN [cn n 8] ++ bytesN [cn n 4] ++ bytesN [cn n 2] ++ bytesN [cn n 
      1] = numT32 n) := by kernel_rfl
theorem num6_h (E : World) (n : Int) : conP (.c (.strn 6 (numT6 n))) (fnTree (pe E) (orcA E) (tabL fns) 20000 Try.f16 [.c (.i false .i64 n), .c (.i true .i64 6)] []) := by
  rw [num6_p]
  repeat' apply And.intro
  all_goals first | exact sz_d (by (repeat' (first | with_reducible exact sz_b | with_reducible exact sz_0 | with_reducible apply sz_1))) | with_reducible exact (numT6_eq n).symm | exact decide_eq_true (Eq.refl _) | trivial | decide
theorem numT6_txt (n : Int) : txt (numT6 n) = [UInt8.ofNat (cn n 32).toNat, UInt8.ofNat (cn n 16).toNat, UInt8.ofNat (cn n 8).toNat, UInt8.ofNat (cn n 4).toNat, UInt8.ofNat (cn n 2).toNat, UInt8.ofNat (cn n 1).toNat] := by rw [numT6_eq]; simp only [txt_append, txt_bytesN, txt_mk0, List.map_cons, List.map_nil, List.append_assoc, List.cons_append, List.nil_append]
theorem numT6_size (n : Int) : (numT6 n).size = 6 := by rw [size_txt, numT6_txt]; rfl
theorem num14_h (E : World) (n : Int) : conP (.c (.strn 14 (numT14 n))) (fnTree (pe E) (orcA E) (tabL fns) 20000 Try.f16 [.c (.i false .i64 n), .c (.i true .i64 14)] []) := by
  rw [num14_p]
  repeat' apply And.intro
  all_goals first | exact sz_d (by (repeat' (first | with_reducible exact sz_b | with_reducible exact sz_0 | with_reducible apply sz_1))) | with_reducible exact (numT14_eq n).symm | exact decide_eq_true (Eq.refl _) | trivial | decide
theorem numT14_txt (n : Int) : txt (numT14 n) = [UInt8.ofNat (cn n 8192).toNat, UInt8.ofNat (cn n 4096).toNat, UInt8.ofNat (cn n 2048).toNat, UInt8.ofNat (cn n 1024).toNat, UInt8.ofNat (cn n 512).toNat, UInt8.ofNat (cn n 256).toNat, UInt8.ofNat (cn n 128).toNat, UInt8.ofNat (cn n 64).toNat, UInt8.ofNat (cn n 32).toNat, UInt8.ofNat (cn n 16).toNat, UInt8.ofNat (cn n 8).toNat, UInt8.ofNat (cn n 4).toNat, UInt8.ofNat (cn n 2).toNat, UInt8.ofNat (cn n 1).toNat] := by rw [numT14_eq]; simp only [txt_append, txt_bytesN, txt_mk0, List.map_cons, List.map_nil, List.append_assoc, List.cons_append, List.nil_append]
theorem numT14_size (n : Int) : (numT14 n).size = 14 := by rw [size_txt, numT14_txt]; rfl
theorem num32_h (E : World) (n : Int) : conP (.c (.strn 32 (numT32 n))) (fnTree (pe E) (orcA E) (tabL fns) 20000 Try.f16 [.c (.i false .i64 n), .c (.i true .i64 32)] []) := by
  rw [num32_p]
  repeat' apply And.intro
  all_goals first | exact sz_d (by (repeat' (first | with_reducible exact sz_b | with_reducible exact sz_0 | with_reducible apply sz_1))) | with_reducible exact (numT32_eq n).symm | exact decide_eq_true (Eq.refl _) | trivial | decide
theorem numT32_txt (n : Int) : txt (numT32 n) = [UInt8.ofNat (cn n 2147483648).toNat, UInt8.ofNat (cn n 1073741824).toNat, UInt8.ofNat (cn n 536870912).toNat, UInt8.ofNat (cn n 268435456).toNat, UInt8.ofNat (cn n 134217728).toNat, UInt8.ofNat (cn n 67108864).toNat, UInt8.ofNat (cn n 33554432).toNat, UInt8.ofNat (cn n 16777216).toNat, UInt8.ofNat (cn n 8388608).toNat, UInt8.ofNat (cn n 4194304).toNat, UInt8.ofNat (cn n 2097152).toNat, UInt8.ofNat (cn n 1048576).toNat, UInt8.ofNat (cn n 524288).toNat, UInt8.ofNat (cn n 262144).toNat, UInt8.ofNat (cn n 131072).toNat, UInt8.ofNat (cn n 65536).toNat, UInt8.ofNat (cn n 32768).toNat, UInt8.ofNat (cn n 16384).toNat, UInt8.ofNat (cn n 8192).toNat, UInt8.ofNat (cn n 4096).toNat, UInt8.ofNat (cn n 2048).toNat, UInt8.ofNat (cn n 1024).toNat, UInt8.ofNat (cn n 512).toNat, UInt8.ofNat (cn n 256).toNat, UInt8.ofNat (cn n 128).toNat, UInt8.ofNat (cn n 64).toNat, UInt8.ofNat (cn n 32).toNat, UInt8.ofNat (cn n 16).toNat, UInt8.ofNat (cn n 8).toNat, UInt8.ofNat (cn n 4).toNat, UInt8.ofNat (cn n 2).toNat, UInt8.ofNat (cn n 1).toNat] := by rw [numT32_eq]; simp only [txt_append, txt_bytesN, txt_mk0, List.map_cons, List.map_nil, List.append_assoc, List.cons_append, List.nil_append]
theorem numT32_size (n : Int) : (numT32 n).size = 32 := by rw [size_txt, numT32_txt]; rfl
theorem byT_ex (x : Int) : ∃ b : ByteArray, b = bytesN [IntKind.u8.wrap (x.fdiv 72057594037927936), IntKind.u8.wrap (x.fdiv 281474976710656), IntKind.u8.wrap (x.fdiv 1099511627776), IntKind.u8.wrap (x.fdiv 4294967296), IntKind.u8.wrap (x.fdiv 16777216), IntKind.u8.wrap (x.fdiv 65536), IntKind.u8.wrap (x.fdiv 256), IntKind.u8.wrap (x.fdiv 1)] := ⟨_, rfl⟩
noncomputable def byT (x : Int) : ByteArray := Classical.choose (byT_ex x)
theorem byT_eq (x : Int) : byT x = bytesN [IntKind.u8.wrap (x.fdiv 72057594037927936), IntKind.u8.wrap (x.fdiv 281474976710656), IntKind.u8.wrap (x.fdiv 1099511627776), IntKind.u8.wrap (x.fdiv 4294967296), IntKind.u8.wrap (x.fdiv 16777216), IntKind.u8.wrap (x.fdiv 65536), IntKind.u8.wrap (x.fdiv 256), IntKind.u8.wrap (x.fdiv 1)] := Classical.choose_spec (byT_ex x)
theorem byT_size (x : Int) : (byT x).size = 8 := by rw [byT_eq, size_bytesN]; rfl
theorem byt_p (E : World) (x : Int) :
    (conP (.c (.strn 8 (byT x))) (fnTree (pe E) (orcA E) (tabL fns) 20000 Try.f37 [.c (.i false .u64 x)] [])) =
    (bytesN [IntKind.u8.wrap (x.fdiv 72057594037927936), IntKind.u8.wrap (x.fdiv 281474976710656), IntKind.u8.wrap (x.fdiv 1099511627776), IntKind.u8.wrap (x.fdiv 4294967296), 
      IntKind.u8.wrap (x.fdiv 16777216), IntKind.u8.wrap (x.fdiv 65536), IntKind.u8.wrap (x.fdiv 256), IntKind.u8.wrap (x.fdiv 1)] = byT x) := by kernel_rfl
set_option maxRecDepth 100000 in
theorem num6_c (E : World) (l1 : Bool) (n : Int) (s : SW) : CallTree (pe E) 16 [.c (.i l1 .i64 n), .c (.i true .i64 6)] s (.leaf (.c (.strn 6 (numT6 n)), s)) := by
  refine CallTree.args (vs' := [.c (.i false .i64 n), .c (.i true .i64 6)]) ⟨⟨rfl, rfl⟩, ⟨rfl, rfl⟩⟩ ?_
  exact pure_contractH (fnTree_sound (P := pe E) orcA_ok tab_ok tab_sz mixed 20000 Try.func16 (by decide) [.c (.i false .i64 n), .c (.i true .i64 6)] []) (by simp [SV.ok, C.ok, okL]) (v := .c (.strn 6 (numT6 n))) rfl ⟨num6_h E n⟩ s
set_option maxRecDepth 100000 in
theorem num14_c (E : World) (l1 : Bool) (n : Int) (s : SW) : CallTree (pe E) 16 [.c (.i l1 .i64 n), .c (.i true .i64 14)] s (.leaf (.c (.strn 14 (numT14 n)), s)) := by
  refine CallTree.args (vs' := [.c (.i false .i64 n), .c (.i true .i64 14)]) ⟨⟨rfl, rfl⟩, ⟨rfl, rfl⟩⟩ ?_
  exact pure_contractH (fnTree_sound (P := pe E) orcA_ok tab_ok tab_sz mixed 20000 Try.func16 (by decide) [.c (.i false .i64 n), .c (.i true .i64 14)] []) (by simp [SV.ok, C.ok, okL]) (v := .c (.strn 14 (numT14 n))) rfl ⟨num14_h E n⟩ s
set_option maxRecDepth 100000 in
theorem num32_c (E : World) (l1 : Bool) (n : Int) (s : SW) : CallTree (pe E) 16 [.c (.i l1 .i64 n), .c (.i true .i64 32)] s (.leaf (.c (.strn 32 (numT32 n)), s)) := by
  refine CallTree.args (vs' := [.c (.i false .i64 n), .c (.i true .i64 32)]) ⟨⟨rfl, rfl⟩, ⟨rfl, rfl⟩⟩ ?_
  exact pure_contractH (fnTree_sound (P := pe E) orcA_ok tab_ok tab_sz mixed 20000 Try.func16 (by decide) [.c (.i false .i64 n), .c (.i true .i64 32)] []) (by simp [SV.ok, C.ok, okL]) (v := .c (.strn 32 (numT32 n))) rfl ⟨num32_h E n⟩ s
set_option maxRecDepth 100000 in
theorem byt_c (E : World) (l1 : Bool) (x : Int) (s : SW) : CallTree (pe E) 37 [.c (.i l1 .u64 x)] s (.leaf (.c (.strn 8 (byT x)), s)) := by
  refine CallTree.args (vs' := [.c (.i false .u64 x)]) ⟨rfl, rfl⟩ ?_
  exact pure_contractH (fnTree_sound (P := pe E) orcA_ok tab_ok tab_sz mixed 20000 Try.func37 (by decide) [.c (.i false .u64 x)] []) (by simp [SV.ok, C.ok, okL]) (v := .c (.strn 8 (byT x))) rfl ⟨by rw [byt_p]; exact (byT_eq x).symm⟩ s
noncomputable def orcV (E : World) : Orc := fun g vs s => match g, vs with
  | 16, [.c (.i _ .i64 n), .c (.i true .i64 6)] => some (.leaf (.c (.strn 6 (numT6 n)), s))
  | 16, [.c (.i _ .i64 n), .c (.i true .i64 14)] => some (.leaf (.c (.strn 14 (numT14 n)), s))
  | 16, [.c (.i _ .i64 n), .c (.i true .i64 32)] => some (.leaf (.c (.strn 32 (numT32 n)), s))
  | 37, [.c (.i _ .u64 x)] => some (.leaf (.c (.strn 8 (byT x)), s))
  | g, vs => (orcA E) g vs s
theorem orcV_ok {E : World} : OrcOK (pe E) (orcV E) := by
  intro g vs s t h
  unfold orcV at h
  split at h
  · cases h
    exact num6_c E _ _ s
  · cases h
    exact num14_c E _ _ s
  · cases h
    exact num32_c E _ _ s
  · cases h
    exact byt_c E _ _ s
  · exact orcA_ok _ _ _ _ h
end Go.Proofs.Ythgcieloijmgdaa

