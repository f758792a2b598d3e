import Derived.Test.YthgcieloijmgdaaUM
set_option linter.unusedVariables false
set_option linter.unusedSimpArgs false
namespace Go.Proofs.Ythgcieloijmgdaa
open Go Go.Proofs Go.Proofs.Ythgcieloijmgdaa.Ev Go.Proofs.Ythgcieloijmgdaa.Ev.Ho
set_option maxRecDepth 100000
noncomputable def cb (y : PX) (K : Int) : Int := IntKind.u8.wrap (48 + IntKind.u8.wrap (bits .and .i64 ((y.n 91011).fdiv K) 1))
theorem cb_eq (y : PX) (K : Int) (hK : 0 < K) : cb y K = 48 + y.n 91011 / K % 2 := ck _ _ hK
noncomputable def rqa (y : PX) : ByteArray := ByteArray.mk #[(49 : UInt8), (49 : UInt8)] ++ (ByteArray.mk #[] ++ bytesN [cb y 8192] ++ bytesN [cb y 4096] ++ bytesN [cb y 2048] ++ bytesN [cb y 1024] ++ bytesN [cb y 512] ++ bytesN [cb y 256] ++ bytesN [cb y 128] ++ bytesN [cb y 64] ++ bytesN [cb y 32] ++ bytesN [cb y 16] ++ bytesN [cb y 8] ++ bytesN [cb y 4] ++ bytesN [cb y 2] ++ bytesN [cb y 1]) ++ ByteArray.mk #[(49 : UInt8)]
theorem rqa_txt (y : PX) : txt (rqa y) = [49, 49, UInt8.ofNat (cb y 8192).toNat, UInt8.ofNat (cb y 4096).toNat, UInt8.ofNat (cb y 2048).toNat, UInt8.ofNat (cb y 1024).toNat, UInt8.ofNat (cb y 512).toNat, UInt8.ofNat (cb y 256).toNat, UInt8.ofNat (cb y 128).toNat, UInt8.ofNat (cb y 64).toNat, UInt8.ofNat (cb y 32).toNat, UInt8.ofNat (cb y 16).toNat, UInt8.ofNat (cb y 8).toNat, UInt8.ofNat (cb y 4).toNat, UInt8.ofNat (cb y 2).toNat, UInt8.ofNat (cb y 1).toNat, 49] := by unfold rqa; simp only [txt_append, txt_bytesN]; rfl
theorem rqa_size (y : PX) : (rqa y).size = 17 := by unfold rqa; simp only [size_append, size_bytesN]; rfl
theorem rqa_0 (y : PX) : strB (rqa y) 0 = 49 := by rw [strB_txt, rqa_txt]; rfl
theorem rqa_1 (y : PX) : strB (rqa y) 1 = 49 := by rw [strB_txt, rqa_txt]; rfl
theorem rqa_2 (y : PX) : strB (rqa y) 2 = 48 + y.n 91011 / 8192 % 2 := by rw [strB_txt, rqa_txt, ← cb_eq y 8192 (by decide)]; exact chr _ (by rw [cb_eq y 8192 (by decide)]; omega)
theorem rqa_3 (y : PX) : strB (rqa y) 3 = 48 + y.n 91011 / 4096 % 2 := by rw [strB_txt, rqa_txt, ← cb_eq y 4096 (by decide)]; exact chr _ (by rw [cb_eq y 4096 (by decide)]; omega)
theorem rqa_4 (y : PX) : strB (rqa y) 4 = 48 + y.n 91011 / 2048 % 2 := by rw [strB_txt, rqa_txt, ← cb_eq y 2048 (by decide)]; exact chr _ (by rw [cb_eq y 2048 (by decide)]; omega)
theorem rqa_5 (y : PX) : strB (rqa y) 5 = 48 + y.n 91011 / 1024 % 2 := by rw [strB_txt, rqa_txt, ← cb_eq y 1024 (by decide)]; exact chr _ (by rw [cb_eq y 1024 (by decide)]; omega)
theorem rqa_6 (y : PX) : strB (rqa y) 6 = 48 + y.n 91011 / 512 % 2 := by rw [strB_txt, rqa_txt, ← cb_eq y 512 (by decide)]; exact chr _ (by rw [cb_eq y 512 (by decide)]; omega)
theorem rqa_7 (y : PX) : strB (rqa y) 7 = 48 + y.n 91011 / 256 % 2 := by rw [strB_txt, rqa_txt, ← cb_eq y 256 (by decide)]; exact chr _ (by rw [cb_eq y 256 (by decide)]; omega)
theorem rqa_8 (y : PX) : strB (rqa y) 8 = 48 + y.n 91011 / 128 % 2 := by rw [strB_txt, rqa_txt, ← cb_eq y 128 (by decide)]; exact chr _ (by rw [cb_eq y 128 (by decide)]; omega)
theorem rqa_9 (y : PX) : strB (rqa y) 9 = 48 + y.n 91011 / 64 % 2 := by rw [strB_txt, rqa_txt, ← cb_eq y 64 (by decide)]; exact chr _ (by rw [cb_eq y 64 (by decide)]; omega)
theorem rqa_10 (y : PX) : strB (rqa y) 10 = 48 + y.n 91011 / 32 % 2 := by rw [strB_txt, rqa_txt, ← cb_eq y 32 (by decide)]; exact chr _ (by rw [cb_eq y 32 (by decide)]; omega)
theorem rqa_11 (y : PX) : strB (rqa y) 11 = 48 + y.n 91011 / 16 % 2 := by rw [strB_txt, rqa_txt, ← cb_eq y 16 (by decide)]; exact chr _ (by rw [cb_eq y 16 (by decide)]; omega)
theorem rqa_12 (y : PX) : strB (rqa y) 12 = 48 + y.n 91011 / 8 % 2 := by rw [strB_txt, rqa_txt, ← cb_eq y 8 (by decide)]; exact chr _ (by rw [cb_eq y 8 (by decide)]; omega)
theorem rqa_13 (y : PX) : strB (rqa y) 13 = 48 + y.n 91011 / 4 % 2 := by rw [strB_txt, rqa_txt, ← cb_eq y 4 (by decide)]; exact chr _ (by rw [cb_eq y 4 (by decide)]; omega)
theorem rqa_14 (y : PX) : strB (rqa y) 14 = 48 + y.n 91011 / 2 % 2 := by rw [strB_txt, rqa_txt, ← cb_eq y 2 (by decide)]; exact chr _ (by rw [cb_eq y 2 (by decide)]; omega)
theorem rqa_15 (y : PX) : strB (rqa y) 15 = 48 + y.n 91011 / 1 % 2 := by rw [strB_txt, rqa_txt, ← cb_eq y 1 (by decide)]; exact chr _ (by rw [cb_eq y 1 (by decide)]; omega)
theorem rqa_16 (y : PX) : strB (rqa y) 16 = 49 := by rw [strB_txt, rqa_txt]; rfl
noncomputable def rqb (y : PX) : ByteArray := ByteArray.mk #[(49 : UInt8), (49 : UInt8)] ++ (ByteArray.mk #[] ++ bytesN [cb y 32] ++ bytesN [cb y 16] ++ bytesN [cb y 8] ++ bytesN [cb y 4] ++ bytesN [cb y 2] ++ bytesN [cb y 1]) ++ ByteArray.mk #[(49 : UInt8)]
theorem rqb_txt (y : PX) : txt (rqb y) = [49, 49, UInt8.ofNat (cb y 32).toNat, UInt8.ofNat (cb y 16).toNat, UInt8.ofNat (cb y 8).toNat, UInt8.ofNat (cb y 4).toNat, UInt8.ofNat (cb y 2).toNat, UInt8.ofNat (cb y 1).toNat, 49] := by unfold rqb; simp only [txt_append, txt_bytesN]; rfl
theorem rqb_size (y : PX) : (rqb y).size = 9 := by unfold rqb; simp only [size_append, size_bytesN]; rfl
theorem rqb_0 (y : PX) : strB (rqb y) 0 = 49 := by rw [strB_txt, rqb_txt]; rfl
theorem rqb_1 (y : PX) : strB (rqb y) 1 = 49 := by rw [strB_txt, rqb_txt]; rfl
theorem rqb_2 (y : PX) : strB (rqb y) 2 = 48 + y.n 91011 / 32 % 2 := by rw [strB_txt, rqb_txt, ← cb_eq y 32 (by decide)]; exact chr _ (by rw [cb_eq y 32 (by decide)]; omega)
theorem rqb_3 (y : PX) : strB (rqb y) 3 = 48 + y.n 91011 / 16 % 2 := by rw [strB_txt, rqb_txt, ← cb_eq y 16 (by decide)]; exact chr _ (by rw [cb_eq y 16 (by decide)]; omega)
theorem rqb_4 (y : PX) : strB (rqb y) 4 = 48 + y.n 91011 / 8 % 2 := by rw [strB_txt, rqb_txt, ← cb_eq y 8 (by decide)]; exact chr _ (by rw [cb_eq y 8 (by decide)]; omega)
theorem rqb_5 (y : PX) : strB (rqb y) 5 = 48 + y.n 91011 / 4 % 2 := by rw [strB_txt, rqb_txt, ← cb_eq y 4 (by decide)]; exact chr _ (by rw [cb_eq y 4 (by decide)]; omega)
theorem rqb_6 (y : PX) : strB (rqb y) 6 = 48 + y.n 91011 / 2 % 2 := by rw [strB_txt, rqb_txt, ← cb_eq y 2 (by decide)]; exact chr _ (by rw [cb_eq y 2 (by decide)]; omega)
theorem rqb_7 (y : PX) : strB (rqb y) 7 = 48 + y.n 91011 / 1 % 2 := by rw [strB_txt, rqb_txt, ← cb_eq y 1 (by decide)]; exact chr _ (by rw [cb_eq y 1 (by decide)]; omega)
theorem rqb_8 (y : PX) : strB (rqb y) 8 = 49 := by rw [strB_txt, rqb_txt]; rfl
end Go.Proofs.Ythgcieloijmgdaa
