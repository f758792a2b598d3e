import Derived.Test.YthgcieloijmgdaaXC
set_option linter.unusedVariables false
set_option linter.unusedSimpArgs false
namespace Go.Proofs.Ythgcieloijmgdaa
open Go Go.Proofs Go.Proofs.Ythgcieloijmgdaa.Ev Go.Proofs.Ythgcieloijmgdaa.Ev.Ho
set_option maxRecDepth 100000
theorem bk_pro (E : World) (g : Bool) (u d : Int) (z : PX) :
    (loopP (pe E) Try.f4 (endR ([] : List MB).length [] (.c .b) (fun z y => y.b 90000 = true) z) (headR ([] : List MB).length Try.f4.ntmps none (bk_hs E g u d z)) (run (pe E) (orcW E) (tabL fns) 20000 (2 ^ 200 - 1) [.code (Try.f4.body.getD .skip)] ⟨Try.f4.ntmps, mkFrGo (Tr.mk 12) 0 [.c (.b false g), .c (.i false .i64 u), .c (.i false .u64 d)]⟩ (mkM z [] [] 0))) =
    ((g = true → repOK (ByteArray.mk #[(255 : UInt8)]) (8192 : Int) = true ∧ decide ((repV E (ByteArray.mk #[(255 : UInt8)]) (8192 : Int)).size = (8192 : Nat)) = true ∧ decide
      ((numT32 (IntKind.i64.wrap (d.fdiv (4294967296 : Int)))).size = (32 : Nat)) = true ∧ decide ((numT32 (IntKind.i64.wrap (bits BinOp.and IntKind.u64 d (4294967295 :
      Int)))).size = (32 : Nat)) = true ∧ decide ((numT32 (IntKind.i64.wrap (d.fdiv (4294967296 : Int)))).size = (32 : Nat)) = true ∧ decide ((numT32 (IntKind.i64.wrap (bits
      BinOp.and IntKind.u64 d (4294967295 : Int)))).size = (32 : Nat)) = true ∧ decide ((numT14 ((IntKind.i64.wrap (u.tmod (1024 : Int) + (1024 : Int))).tmod (1024 : Int))).size
      = (14 : Nat)) = true ∧ decide ((2 : Nat) = (2 : Nat)) = true ∧ decide ((numT14 ((IntKind.i64.wrap (u.tmod (1024 : Int) + (1024 : Int))).tmod (1024 : Int))).size = (14 :
      Nat)) = true ∧ decide ((ByteArray.mk #[(49 : UInt8), (48 : UInt8)] ++ numT14 ((IntKind.i64.wrap (u.tmod (1024 : Int) + (1024 : Int))).tmod (1024 : Int))).size = (16 :
      Nat)) = true ∧ decide ((numT32 (IntKind.i64.wrap (d.fdiv (4294967296 : Int))) ++ numT32 (IntKind.i64.wrap (bits BinOp.and IntKind.u64 d (4294967295 : Int)))).size = (64 :
      Nat)) = true ∧ decide ((ByteArray.mk #[(49 : UInt8), (48 : UInt8)] ++ numT14 ((IntKind.i64.wrap (u.tmod (1024 : Int) + (1024 : Int))).tmod (1024 : Int))).size = (16 :
      Nat)) = true ∧ decide ((numT32 (IntKind.i64.wrap (d.fdiv (4294967296 : Int))) ++ numT32 (IntKind.i64.wrap (bits BinOp.and IntKind.u64 d (4294967295 : Int)))).size = (64 :
      Nat)) = true ∧ decide ((ByteArray.mk #[(49 : UInt8), (48 : UInt8)] ++ numT14 ((IntKind.i64.wrap (u.tmod (1024 : Int) + (1024 : Int))).tmod (1024 : Int)) ++ (numT32
      (IntKind.i64.wrap (d.fdiv (4294967296 : Int))) ++ numT32 (IntKind.i64.wrap (bits BinOp.and IntKind.u64 d (4294967295 : Int))))).size = (80 : Nat)) = true ∧ decide
      ((ByteArray.mk #[(49 : UInt8), (48 : UInt8)] ++ numT14 ((IntKind.i64.wrap (u.tmod (1024 : Int) + (1024 : Int))).tmod (1024 : Int)) ++ (numT32 (IntKind.i64.wrap (d.fdiv
      (4294967296 : Int))) ++ numT32 (IntKind.i64.wrap (bits BinOp.and IntKind.u64 d (4294967295 : Int))))).size = (80 : Nat)) = true ∧ decide ((1 : Nat) = (1 : Nat)) = true ∧
      (((63 : Nat) = (63 : Nat) ∧ (((0 : Int) ≤ (0 : Int) ∧ (0 : Int) ≤ (80 : Int)) ∧ ((0 : Int) ≤ (0 : Int) ∧ (0 : Int) ≤ (68 : Int)) ∧ True) ∧ ([] : SW) = []) ∧ (ST
      (ByteArray.mk #[(49 : UInt8), (48 : UInt8)] ++ numT14 ((IntKind.i64.wrap (u.tmod (1024 : Int) + (1024 : Int))).tmod (1024 : Int)) ++ (numT32 (IntKind.i64.wrap (d.fdiv
      (4294967296 : Int))) ++ numT32 (IntKind.i64.wrap (bits BinOp.and IntKind.u64 d (4294967295 : Int)))) ++ ByteArray.mk #[(48 : UInt8)]) (81 : Nat) false ∧ (repV E
      (ByteArray.mk #[(255 : UInt8)]) (8192 : Int)).size = (8192 : Nat)) ∧ (0 : Int) = (0 : Int)) ∧ ∀ (y : PX), ((((0 : Int) ≤ y.n (2 : Nat) ∧ y.n (2 : Nat) ≤ (80 : Int)) ∧ ((0
      : Int) ≤ y.n (7 : Nat) ∧ y.n (7 : Nat) ≤ (68 : Int)) ∧ True) ∧ True) ∧ True ∧ PW (14 : Nat) (8192 : Nat) (ByteArray.mk #[(49 : UInt8), (48 : UInt8)] ++ numT14
      ((IntKind.i64.wrap (u.tmod (1024 : Int) + (1024 : Int))).tmod (1024 : Int)) ++ (numT32 (IntKind.i64.wrap (d.fdiv (4294967296 : Int))) ++ numT32 (IntKind.i64.wrap (bits
      BinOp.and IntKind.u64 d (4294967295 : Int)))) ++ ByteArray.mk #[(48 : UInt8)]) (repV E (ByteArray.mk #[(255 : UInt8)]) (8192 : Int)) (y.s (0 : Nat)) (y.n (2 : Nat)) (y.b
      (90003 : Nat)) (y.n (90000 : Nat)) (y.n (90001 : Nat)) (y.s (90002 : Nat)) → ((!y.b (90003 : Nat)) = true → ([] : SW) = [] ∧ True ∧ false = true) ∧ ((!y.b (90003 : Nat)) =
      false → ((y.n (90000 : Nat) != (1 : Int)) = true → ([] : SW) = [] ∧ True ∧ false = true) ∧ ((y.n (90000 : Nat) != (1 : Int)) = false → ((y.n (90001 : Nat) !=
      IntKind.i64.wrap ((8 : Int) * (IntKind.i64.wrap (u.tmod (1024 : Int) + (1024 : Int))).tmod (1024 : Int))) = true → ([] : SW) = [] ∧ True ∧ false = true) ∧ ((y.n (90001 :
      Nat) != IntKind.i64.wrap ((8 : Int) * (IntKind.i64.wrap (u.tmod (1024 : Int) + (1024 : Int))).tmod (1024 : Int))) = false → (((↑(y.s (90002 : Nat)).size : Int) != (8 :
      Int)) = true → ([] : SW) = [] ∧ True ∧ false = true) ∧ (((↑(y.s (90002 : Nat)).size : Int) != (8 : Int)) = false → decide ((0 : Int) ≤ IntKind.i64.wrap ((8 : Int) *
      (IntKind.i64.wrap (u.tmod (1024 : Int) + (1024 : Int))).tmod (1024 : Int))) = true ∧ decide (IntKind.i64.wrap ((8 : Int) * (IntKind.i64.wrap (u.tmod (1024 : Int) + (1024 :
      Int))).tmod (1024 : Int)) ≤ (↑(y.s (0 : Nat)).size : Int)) = true ∧ repOK (ByteArray.mk #[(255 : UInt8)]) (IntKind.i64.wrap ((8 : Int) * (IntKind.i64.wrap (u.tmod (1024 :
      Int) + (1024 : Int))).tmod (1024 : Int))) = true ∧ ((true ^^ strSl (y.s (0 : Nat)) (0 : Int) (IntKind.i64.wrap ((8 : Int) * (IntKind.i64.wrap (u.tmod (1024 : Int) + (1024
      : Int))).tmod (1024 : Int))) == repV E (ByteArray.mk #[(255 : UInt8)]) (IntKind.i64.wrap ((8 : Int) * (IntKind.i64.wrap (u.tmod (1024 : Int) + (1024 : Int))).tmod (1024 :
      Int)))) = true → ([] : SW) = [] ∧ True ∧ false = true) ∧ ((true ^^ strSl (y.s (0 : Nat)) (0 : Int) (IntKind.i64.wrap ((8 : Int) * (IntKind.i64.wrap (u.tmod (1024 : Int) +
      (1024 : Int))).tmod (1024 : Int))) == repV E (ByteArray.mk #[(255 : UInt8)]) (IntKind.i64.wrap ((8 : Int) * (IntKind.i64.wrap (u.tmod (1024 : Int) + (1024 : Int))).tmod
      (1024 : Int)))) = false → decide ((0 : Int) ≤ IntKind.i64.wrap (IntKind.i64.wrap ((8 : Int) * (IntKind.i64.wrap (u.tmod (1024 : Int) + (1024 : Int))).tmod (1024 : Int)) +
      (8 : Int))) = true ∧ decide (IntKind.i64.wrap (IntKind.i64.wrap ((8 : Int) * (IntKind.i64.wrap (u.tmod (1024 : Int) + (1024 : Int))).tmod (1024 : Int)) + (8 : Int)) ≤
      (↑(y.s (0 : Nat)).size : Int)) = true ∧ repOK (ByteArray.mk #[(255 : UInt8)]) (IntKind.i64.wrap (IntKind.i64.wrap ((8192 : Int) - IntKind.i64.wrap ((8 : Int) *
      (IntKind.i64.wrap (u.tmod (1024 : Int) + (1024 : Int))).tmod (1024 : Int))) - (8 : Int))) = true ∧ ((true ^^ strSl (y.s (0 : Nat)) (IntKind.i64.wrap (IntKind.i64.wrap ((8
      : Int) * (IntKind.i64.wrap (u.tmod (1024 : Int) + (1024 : Int))).tmod (1024 : Int)) + (8 : Int))) (↑(y.s (0 : Nat)).size : Int) == repV E (ByteArray.mk #[(255 : UInt8)])
      (IntKind.i64.wrap (IntKind.i64.wrap ((8192 : Int) - IntKind.i64.wrap ((8 : Int) * (IntKind.i64.wrap (u.tmod (1024 : Int) + (1024 : Int))).tmod (1024 : Int))) - (8 :
      Int)))) = true → ([] : SW) = [] ∧ True ∧ false = true) ∧ ((true ^^ strSl (y.s (0 : Nat)) (IntKind.i64.wrap (IntKind.i64.wrap ((8 : Int) * (IntKind.i64.wrap (u.tmod (1024 :
      Int) + (1024 : Int))).tmod (1024 : Int)) + (8 : Int))) (↑(y.s (0 : Nat)).size : Int) == repV E (ByteArray.mk #[(255 : UInt8)]) (IntKind.i64.wrap (IntKind.i64.wrap ((8192 :
      Int) - IntKind.i64.wrap ((8 : Int) * (IntKind.i64.wrap (u.tmod (1024 : Int) + (1024 : Int))).tmod (1024 : Int))) - (8 : Int)))) = false → decide ((0 : Int) ≤
      IntKind.i64.wrap ((8 : Int) * (IntKind.i64.wrap (u.tmod (1024 : Int) + (1024 : Int))).tmod (1024 : Int))) = true ∧ decide (IntKind.i64.wrap ((8 : Int) * (IntKind.i64.wrap
      (u.tmod (1024 : Int) + (1024 : Int))).tmod (1024 : Int)) ≤ IntKind.i64.wrap (IntKind.i64.wrap ((8 : Int) * (IntKind.i64.wrap (u.tmod (1024 : Int) + (1024 : Int))).tmod
      (1024 : Int)) + (8 : Int))) = true ∧ decide (IntKind.i64.wrap (IntKind.i64.wrap ((8 : Int) * (IntKind.i64.wrap (u.tmod (1024 : Int) + (1024 : Int))).tmod (1024 : Int)) +
      (8 : Int)) ≤ (↑(y.s (0 : Nat)).size : Int)) = true ∧ ((true ^^ strSl (y.s (0 : Nat)) (IntKind.i64.wrap ((8 : Int) * (IntKind.i64.wrap (u.tmod (1024 : Int) + (1024 :
      Int))).tmod (1024 : Int))) (IntKind.i64.wrap (IntKind.i64.wrap ((8 : Int) * (IntKind.i64.wrap (u.tmod (1024 : Int) + (1024 : Int))).tmod (1024 : Int)) + (8 : Int))) == y.s
      (90002 : Nat)) = true → ([] : SW) = [] ∧ True ∧ false = true) ∧ ((true ^^ strSl (y.s (0 : Nat)) (IntKind.i64.wrap ((8 : Int) * (IntKind.i64.wrap (u.tmod (1024 : Int) +
      (1024 : Int))).tmod (1024 : Int))) (IntKind.i64.wrap (IntKind.i64.wrap ((8 : Int) * (IntKind.i64.wrap (u.tmod (1024 : Int) + (1024 : Int))).tmod (1024 : Int)) + (8 :
      Int))) == y.s (90002 : Nat)) = false → decide ((numT14 ((IntKind.i64.wrap (u.tmod (1024 : Int) + (1024 : Int))).tmod (1024 : Int))).size = (14 : Nat)) = true ∧ decide ((2
      : Nat) = (2 : Nat)) = true ∧ decide ((numT14 ((IntKind.i64.wrap (u.tmod (1024 : Int) + (1024 : Int))).tmod (1024 : Int))).size = (14 : Nat)) = true ∧ decide ((ByteArray.mk
      #[(49 : UInt8), (49 : UInt8)] ++ numT14 ((IntKind.i64.wrap (u.tmod (1024 : Int) + (1024 : Int))).tmod (1024 : Int))).size = (16 : Nat)) = true ∧ decide ((ByteArray.mk
      #[(49 : UInt8), (49 : UInt8)] ++ numT14 ((IntKind.i64.wrap (u.tmod (1024 : Int) + (1024 : Int))).tmod (1024 : Int))).size = (16 : Nat)) = true ∧ decide ((1 : Nat) = (1 :
      Nat)) = true ∧ (((63 : Nat) = (63 : Nat) ∧ (((0 : Int) ≤ y.n (2 : Nat) ∧ y.n (2 : Nat) ≤ (80 : Int)) ∧ ((0 : Int) ≤ y.n (7 : Nat) ∧ y.n (7 : Nat) ≤ (68 : Int)) ∧ True) ∧
      ([] : SW) = []) ∧ (ST (ByteArray.mk #[(49 : UInt8), (49 : UInt8)] ++ numT14 ((IntKind.i64.wrap (u.tmod (1024 : Int) + (1024 : Int))).tmod (1024 : Int)) ++ ByteArray.mk
      #[(48 : UInt8)]) (17 : Nat) true ∧ (y.s (0 : Nat)).size = (8192 : Nat)) ∧ y.n (2 : Nat) = (0 : Int)) ∧ ∀ (y_1 : PX), ((((0 : Int) ≤ y_1.n (2 : Nat) ∧ y_1.n (2 : Nat) ≤ (80
      : Int)) ∧ ((0 : Int) ≤ y_1.n (7 : Nat) ∧ y_1.n (7 : Nat) ≤ (68 : Int)) ∧ True) ∧ True) ∧ True ∧ PR (14 : Nat) (8192 : Nat) (ByteArray.mk #[(49 : UInt8), (49 : UInt8)] ++
      numT14 ((IntKind.i64.wrap (u.tmod (1024 : Int) + (1024 : Int))).tmod (1024 : Int)) ++ ByteArray.mk #[(48 : UInt8)]) (y.s (0 : Nat)) (y_1.s (0 : Nat)) (y_1.n (2 : Nat))
      (y_1.b (90003 : Nat)) (y_1.b (3 : Nat)) (y_1.n (6 : Nat)) (y_1.n (7 : Nat)) → (y_1.b (90003 : Nat) = true → ([] : SW) = [] ∧ True ∧ false = true) ∧ (y_1.b (90003 : Nat) =
      false → ba_td E = ba_td E ∧ (148 : Nat) = (148 : Nat) ∧ ((((0 : Int) ≤ (IntKind.i64.wrap (u.tmod (1024 : Int) + (1024 : Int))).tmod (1024 : Int) ∧ (IntKind.i64.wrap
      (u.tmod (1024 : Int) + (1024 : Int))).tmod (1024 : Int) ≤ (1023 : Int)) ∧ True) ∧ (((0 : Int) ≤ d ∧ d ≤ (18446744073709551615 : Int)) ∧ True) ∧ True ∧ True ∧ True ∧ True ∧
      True ∧ (((0 : Int) ≤ (0 : Int) ∧ (0 : Int) ≤ (68 : Int)) ∧ True) ∧ True) ∧ ((63 : Nat) = (63 : Nat) ∧ (((0 : Int) ≤ y_1.n (2 : Nat) ∧ y_1.n (2 : Nat) ≤ (80 : Int)) ∧ ((0 :
      Int) ≤ y_1.n (7 : Nat) ∧ y_1.n (7 : Nat) ≤ (68 : Int)) ∧ True) ∧ ([] : SW) = []) ∧ (((SO (ByteArray.mk #[]) (numT32 (IntKind.i64.wrap (d.fdiv (4294967296 : Int))) ++
      numT32 (IntKind.i64.wrap (bits BinOp.and IntKind.u64 d (4294967295 : Int)))) (0 : Int) ∧ OO (y_1.n (6 : Nat)) (numT32 (IntKind.i64.wrap (d.fdiv (4294967296 : Int))) ++
      numT32 (IntKind.i64.wrap (bits BinOp.and IntKind.u64 d (4294967295 : Int))))) ∧ Im (y_1.s (0 : Nat)) (8192 : Nat)) ∧ y_1.n (7 : Nat) = (68 : Int) - (0 : Int)) ∧
      True))))))))) ∧ (g = false → repOK (ByteArray.mk #[(255 : UInt8)]) (512 : Int) = true ∧ decide ((numT32 (IntKind.i64.wrap (d.fdiv (4294967296 : Int)))).size = (32 : Nat))
      = true ∧ decide ((numT32 (IntKind.i64.wrap (bits BinOp.and IntKind.u64 d (4294967295 : Int)))).size = (32 : Nat)) = true ∧ decide ((numT32 (IntKind.i64.wrap (d.fdiv
      (4294967296 : Int)))).size = (32 : Nat)) = true ∧ decide ((numT32 (IntKind.i64.wrap (bits BinOp.and IntKind.u64 d (4294967295 : Int)))).size = (32 : Nat)) = true ∧ decide
      ((numT6 ((IntKind.i64.wrap (u.tmod (64 : Int) + (64 : Int))).tmod (64 : Int))).size = (6 : Nat)) = true ∧ decide ((2 : Nat) = (2 : Nat)) = true ∧ decide ((numT6
      ((IntKind.i64.wrap (u.tmod (64 : Int) + (64 : Int))).tmod (64 : Int))).size = (6 : Nat)) = true ∧ decide ((ByteArray.mk #[(49 : UInt8), (48 : UInt8)] ++ numT6
      ((IntKind.i64.wrap (u.tmod (64 : Int) + (64 : Int))).tmod (64 : Int))).size = (8 : Nat)) = true ∧ decide ((numT32 (IntKind.i64.wrap (d.fdiv (4294967296 : Int))) ++ numT32
      (IntKind.i64.wrap (bits BinOp.and IntKind.u64 d (4294967295 : Int)))).size = (64 : Nat)) = true ∧ decide ((ByteArray.mk #[(49 : UInt8), (48 : UInt8)] ++ numT6
      ((IntKind.i64.wrap (u.tmod (64 : Int) + (64 : Int))).tmod (64 : Int))).size = (8 : Nat)) = true ∧ decide ((numT32 (IntKind.i64.wrap (d.fdiv (4294967296 : Int))) ++ numT32
      (IntKind.i64.wrap (bits BinOp.and IntKind.u64 d (4294967295 : Int)))).size = (64 : Nat)) = true ∧ decide ((ByteArray.mk #[(49 : UInt8), (48 : UInt8)] ++ numT6
      ((IntKind.i64.wrap (u.tmod (64 : Int) + (64 : Int))).tmod (64 : Int)) ++ (numT32 (IntKind.i64.wrap (d.fdiv (4294967296 : Int))) ++ numT32 (IntKind.i64.wrap (bits BinOp.and
      IntKind.u64 d (4294967295 : Int))))).size = (72 : Nat)) = true ∧ decide ((ByteArray.mk #[(49 : UInt8), (48 : UInt8)] ++ numT6 ((IntKind.i64.wrap (u.tmod (64 : Int) + (64 :
      Int))).tmod (64 : Int)) ++ (numT32 (IntKind.i64.wrap (d.fdiv (4294967296 : Int))) ++ numT32 (IntKind.i64.wrap (bits BinOp.and IntKind.u64 d (4294967295 : Int))))).size =
      (72 : Nat)) = true ∧ decide ((1 : Nat) = (1 : Nat)) = true ∧ (((63 : Nat) = (63 : Nat) ∧ (((0 : Int) ≤ (0 : Int) ∧ (0 : Int) ≤ (80 : Int)) ∧ ((0 : Int) ≤ (0 : Int) ∧ (0 :
      Int) ≤ (68 : Int)) ∧ True) ∧ ([] : SW) = []) ∧ (ST (ByteArray.mk #[(49 : UInt8), (48 : UInt8)] ++ numT6 ((IntKind.i64.wrap (u.tmod (64 : Int) + (64 : Int))).tmod (64 :
      Int)) ++ (numT32 (IntKind.i64.wrap (d.fdiv (4294967296 : Int))) ++ numT32 (IntKind.i64.wrap (bits BinOp.and IntKind.u64 d (4294967295 : Int)))) ++ ByteArray.mk #[(48 :
      UInt8)]) (73 : Nat) false ∧ (512 : Nat) = (512 : Nat)) ∧ (0 : Int) = (0 : Int)) ∧ ∀ (y : PX), ((((0 : Int) ≤ y.n (2 : Nat) ∧ y.n (2 : Nat) ≤ (80 : Int)) ∧ ((0 : Int) ≤ y.n
      (7 : Nat) ∧ y.n (7 : Nat) ≤ (68 : Int)) ∧ True) ∧ True) ∧ True ∧ PW (6 : Nat) (512 : Nat) (ByteArray.mk #[(49 : UInt8), (48 : UInt8)] ++ numT6 ((IntKind.i64.wrap (u.tmod
      (64 : Int) + (64 : Int))).tmod (64 : Int)) ++ (numT32 (IntKind.i64.wrap (d.fdiv (4294967296 : Int))) ++ numT32 (IntKind.i64.wrap (bits BinOp.and IntKind.u64 d (4294967295
      : Int)))) ++ ByteArray.mk #[(48 : UInt8)]) (repB (ByteArray.mk #[(255 : UInt8)]) (512 : Int)) (y.s (0 : Nat)) (y.n (2 : Nat)) (y.b (90003 : Nat)) (y.n (90000 : Nat)) (y.n
      (90001 : Nat)) (y.s (90002 : Nat)) → ((!y.b (90003 : Nat)) = true → ([] : SW) = [] ∧ True ∧ false = true) ∧ ((!y.b (90003 : Nat)) = false → ((y.n (90000 : Nat) != (1 :
      Int)) = true → ([] : SW) = [] ∧ True ∧ false = true) ∧ ((y.n (90000 : Nat) != (1 : Int)) = false → ((y.n (90001 : Nat) != IntKind.i64.wrap ((8 : Int) * (IntKind.i64.wrap
      (u.tmod (64 : Int) + (64 : Int))).tmod (64 : Int))) = true → ([] : SW) = [] ∧ True ∧ false = true) ∧ ((y.n (90001 : Nat) != IntKind.i64.wrap ((8 : Int) * (IntKind.i64.wrap
      (u.tmod (64 : Int) + (64 : Int))).tmod (64 : Int))) = false → (((↑(y.s (90002 : Nat)).size : Int) != (8 : Int)) = true → ([] : SW) = [] ∧ True ∧ false = true) ∧ (((↑(y.s
      (90002 : Nat)).size : Int) != (8 : Int)) = false → decide ((0 : Int) ≤ IntKind.i64.wrap ((8 : Int) * (IntKind.i64.wrap (u.tmod (64 : Int) + (64 : Int))).tmod (64 : Int)))
      = true ∧ decide (IntKind.i64.wrap ((8 : Int) * (IntKind.i64.wrap (u.tmod (64 : Int) + (64 : Int))).tmod (64 : Int)) ≤ (↑(y.s (0 : Nat)).size : Int)) = true ∧ repOK
      (ByteArray.mk #[(255 : UInt8)]) (IntKind.i64.wrap ((8 : Int) * (IntKind.i64.wrap (u.tmod (64 : Int) + (64 : Int))).tmod (64 : Int))) = true ∧ ((true ^^ strSl (y.s (0 :
      Nat)) (0 : Int) (IntKind.i64.wrap ((8 : Int) * (IntKind.i64.wrap (u.tmod (64 : Int) + (64 : Int))).tmod (64 : Int))) == repV E (ByteArray.mk #[(255 : UInt8)])
      (IntKind.i64.wrap ((8 : Int) * (IntKind.i64.wrap (u.tmod (64 : Int) + (64 : Int))).tmod (64 : Int)))) = true → ([] : SW) = [] ∧ True ∧ false = true) ∧ ((true ^^ strSl (y.s
      (0 : Nat)) (0 : Int) (IntKind.i64.wrap ((8 : Int) * (IntKind.i64.wrap (u.tmod (64 : Int) + (64 : Int))).tmod (64 : Int))) == repV E (ByteArray.mk #[(255 : UInt8)])
      (IntKind.i64.wrap ((8 : Int) * (IntKind.i64.wrap (u.tmod (64 : Int) + (64 : Int))).tmod (64 : Int)))) = false → decide ((0 : Int) ≤ IntKind.i64.wrap (IntKind.i64.wrap ((8
      : Int) * (IntKind.i64.wrap (u.tmod (64 : Int) + (64 : Int))).tmod (64 : Int)) + (8 : Int))) = true ∧ decide (IntKind.i64.wrap (IntKind.i64.wrap ((8 : Int) *
      (IntKind.i64.wrap (u.tmod (64 : Int) + (64 : Int))).tmod (64 : Int)) + (8 : Int)) ≤ (↑(y.s (0 : Nat)).size : Int)) = true ∧ repOK (ByteArray.mk #[(255 : UInt8)])
      (IntKind.i64.wrap (IntKind.i64.wrap ((512 : Int) - IntKind.i64.wrap ((8 : Int) * (IntKind.i64.wrap (u.tmod (64 : Int) + (64 : Int))).tmod (64 : Int))) - (8 : Int))) = true
      ∧ ((true ^^ strSl (y.s (0 : Nat)) (IntKind.i64.wrap (IntKind.i64.wrap ((8 : Int) * (IntKind.i64.wrap (u.tmod (64 : Int) + (64 : Int))).tmod (64 : Int)) + (8 : Int)))
      (↑(y.s (0 : Nat)).size : Int) == repV E (ByteArray.mk #[(255 : UInt8)]) (IntKind.i64.wrap (IntKind.i64.wrap ((512 : Int) - IntKind.i64.wrap ((8 : Int) * (IntKind.i64.wrap
      (u.tmod (64 : Int) + (64 : Int))).tmod (64 : Int))) - (8 : Int)))) = true → ([] : SW) = [] ∧ True ∧ false = true) ∧ ((true ^^ strSl (y.s (0 : Nat)) (IntKind.i64.wrap
      (IntKind.i64.wrap ((8 : Int) * (IntKind.i64.wrap (u.tmod (64 : Int) + (64 : Int))).tmod (64 : Int)) + (8 : Int))) (↑(y.s (0 : Nat)).size : Int) == repV E (ByteArray.mk
      #[(255 : UInt8)]) (IntKind.i64.wrap (IntKind.i64.wrap ((512 : Int) - IntKind.i64.wrap ((8 : Int) * (IntKind.i64.wrap (u.tmod (64 : Int) + (64 : Int))).tmod (64 : Int))) -
      (8 : Int)))) = false → decide ((0 : Int) ≤ IntKind.i64.wrap ((8 : Int) * (IntKind.i64.wrap (u.tmod (64 : Int) + (64 : Int))).tmod (64 : Int))) = true ∧ decide
      (IntKind.i64.wrap ((8 : Int) * (IntKind.i64.wrap (u.tmod (64 : Int) + (64 : Int))).tmod (64 : Int)) ≤ IntKind.i64.wrap (IntKind.i64.wrap ((8 : Int) * (IntKind.i64.wrap
      (u.tmod (64 : Int) + (64 : Int))).tmod (64 : Int)) + (8 : Int))) = true ∧ decide (IntKind.i64.wrap (IntKind.i64.wrap ((8 : Int) * (IntKind.i64.wrap (u.tmod (64 : Int) +
      (64 : Int))).tmod (64 : Int)) + (8 : Int)) ≤ (↑(y.s (0 : Nat)).size : Int)) = true ∧ ((true ^^ strSl (y.s (0 : Nat)) (IntKind.i64.wrap ((8 : Int) * (IntKind.i64.wrap
      (u.tmod (64 : Int) + (64 : Int))).tmod (64 : Int))) (IntKind.i64.wrap (IntKind.i64.wrap ((8 : Int) * (IntKind.i64.wrap (u.tmod (64 : Int) + (64 : Int))).tmod (64 : Int)) +
      (8 : Int))) == y.s (90002 : Nat)) = true → ([] : SW) = [] ∧ True ∧ false = true) ∧ ((true ^^ strSl (y.s (0 : Nat)) (IntKind.i64.wrap ((8 : Int) * (IntKind.i64.wrap (u.tmod
      (64 : Int) + (64 : Int))).tmod (64 : Int))) (IntKind.i64.wrap (IntKind.i64.wrap ((8 : Int) * (IntKind.i64.wrap (u.tmod (64 : Int) + (64 : Int))).tmod (64 : Int)) + (8 :
      Int))) == y.s (90002 : Nat)) = false → decide ((numT6 ((IntKind.i64.wrap (u.tmod (64 : Int) + (64 : Int))).tmod (64 : Int))).size = (6 : Nat)) = true ∧ decide ((2 : Nat) =
      (2 : Nat)) = true ∧ decide ((numT6 ((IntKind.i64.wrap (u.tmod (64 : Int) + (64 : Int))).tmod (64 : Int))).size = (6 : Nat)) = true ∧ decide ((ByteArray.mk #[(49 : UInt8),
      (49 : UInt8)] ++ numT6 ((IntKind.i64.wrap (u.tmod (64 : Int) + (64 : Int))).tmod (64 : Int))).size = (8 : Nat)) = true ∧ decide ((ByteArray.mk #[(49 : UInt8), (49 :
      UInt8)] ++ numT6 ((IntKind.i64.wrap (u.tmod (64 : Int) + (64 : Int))).tmod (64 : Int))).size = (8 : Nat)) = true ∧ decide ((1 : Nat) = (1 : Nat)) = true ∧ (((63 : Nat) =
      (63 : Nat) ∧ (((0 : Int) ≤ y.n (2 : Nat) ∧ y.n (2 : Nat) ≤ (80 : Int)) ∧ ((0 : Int) ≤ y.n (7 : Nat) ∧ y.n (7 : Nat) ≤ (68 : Int)) ∧ True) ∧ ([] : SW) = []) ∧ (ST
      (ByteArray.mk #[(49 : UInt8), (49 : UInt8)] ++ numT6 ((IntKind.i64.wrap (u.tmod (64 : Int) + (64 : Int))).tmod (64 : Int)) ++ ByteArray.mk #[(48 : UInt8)]) (9 : Nat) true
      ∧ (y.s (0 : Nat)).size = (512 : Nat)) ∧ y.n (2 : Nat) = (0 : Int)) ∧ ∀ (y_1 : PX), ((((0 : Int) ≤ y_1.n (2 : Nat) ∧ y_1.n (2 : Nat) ≤ (80 : Int)) ∧ ((0 : Int) ≤ y_1.n (7 :
      Nat) ∧ y_1.n (7 : Nat) ≤ (68 : Int)) ∧ True) ∧ True) ∧ True ∧ PR (6 : Nat) (512 : Nat) (ByteArray.mk #[(49 : UInt8), (49 : UInt8)] ++ numT6 ((IntKind.i64.wrap (u.tmod (64
      : Int) + (64 : Int))).tmod (64 : Int)) ++ ByteArray.mk #[(48 : UInt8)]) (y.s (0 : Nat)) (y_1.s (0 : Nat)) (y_1.n (2 : Nat)) (y_1.b (90003 : Nat)) (y_1.b (3 : Nat)) (y_1.n
      (6 : Nat)) (y_1.n (7 : Nat)) → (y_1.b (90003 : Nat) = true → ([] : SW) = [] ∧ True ∧ false = true) ∧ (y_1.b (90003 : Nat) = false → bb_td E = bb_td E ∧ (148 : Nat) = (148
      : Nat) ∧ ((((0 : Int) ≤ (IntKind.i64.wrap (u.tmod (64 : Int) + (64 : Int))).tmod (64 : Int) ∧ (IntKind.i64.wrap (u.tmod (64 : Int) + (64 : Int))).tmod (64 : Int) ≤ (63 :
      Int)) ∧ True) ∧ (((0 : Int) ≤ d ∧ d ≤ (18446744073709551615 : Int)) ∧ True) ∧ True ∧ True ∧ True ∧ True ∧ True ∧ (((0 : Int) ≤ (0 : Int) ∧ (0 : Int) ≤ (68 : Int)) ∧ True)
      ∧ True) ∧ ((63 : Nat) = (63 : Nat) ∧ (((0 : Int) ≤ y_1.n (2 : Nat) ∧ y_1.n (2 : Nat) ≤ (80 : Int)) ∧ ((0 : Int) ≤ y_1.n (7 : Nat) ∧ y_1.n (7 : Nat) ≤ (68 : Int)) ∧ True) ∧
      ([] : SW) = []) ∧ (((SO (ByteArray.mk #[]) (numT32 (IntKind.i64.wrap (d.fdiv (4294967296 : Int))) ++ numT32 (IntKind.i64.wrap (bits BinOp.and IntKind.u64 d (4294967295 :
      Int)))) (0 : Int) ∧ OO (y_1.n (6 : Nat)) (numT32 (IntKind.i64.wrap (d.fdiv (4294967296 : Int))) ++ numT32 (IntKind.i64.wrap (bits BinOp.and IntKind.u64 d (4294967295 :
      Int))))) ∧ Im (y_1.s (0 : Nat)) (512 : Nat)) ∧ y_1.n (7 : Nat) = (68 : Int) - (0 : Int)) ∧ True)))))))))) := by kernel_rfl
end Go.Proofs.Ythgcieloijmgdaa

