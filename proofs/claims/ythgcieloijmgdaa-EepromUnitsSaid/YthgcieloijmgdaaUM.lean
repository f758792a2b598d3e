import Derived.Test.YthgcieloijmgdaaUL
set_option linter.unusedVariables false
set_option linter.unusedSimpArgs false
namespace Go.Proofs.Ythgcieloijmgdaa
open Go Go.Proofs Go.Proofs.Ythgcieloijmgdaa.Ev Go.Proofs.Ythgcieloijmgdaa.Ev.Ho
set_option maxRecDepth 100000
set_option maxHeartbeats 8000000 in
theorem bitM (l : List C) (out u : Int) (hO : O8 out l u) (g0 : 0 ≤ rI l (8 * u).toNat ∧ rI l (8 * u).toNat ≤ 255) (g1 : 0 ≤ rI l (8 * u + 1).toNat ∧ rI l (8 * u + 1).toNat ≤ 255) (g2 : 0 ≤ rI l (8 * u + 2).toNat ∧ rI l (8 * u + 2).toNat ≤ 255) (g3 : 0 ≤ rI l (8 * u + 3).toNat ∧ rI l (8 * u + 3).toNat ≤ 255) (g4 : 0 ≤ rI l (8 * u + 4).toNat ∧ rI l (8 * u + 4).toNat ≤ 255) (g5 : 0 ≤ rI l (8 * u + 5).toNat ∧ rI l (8 * u + 5).toNat ≤ 255) (g6 : 0 ≤ rI l (8 * u + 6).toNat ∧ rI l (8 * u + 6).toNat ≤ 255) (g7 : 0 ≤ rI l (8 * u + 7).toNat ∧ rI l (8 * u + 7).toNat ≤ 255) : ∀ t : Nat, t < 64 → bits .and .u8 (IntKind.u8.wrap (out.fdiv (2 ^ min (63 - (t : Int)).toNat 64))) 1 = bits .and .u8 ((rI l (8 * u + (t : Int) / 8).toNat).fdiv (2 ^ min (7 - (t : Int) % 8).toNat 8)) 1 := by
  have e := hO.e
  intro t ht
  have m (x : Int) : bits .and .u8 x 1 = x % 2 := and_mask .u8 _ 1 (.inl (by decide))
  rw [m, m]
  match t, ht with
  | 0, _ =>
    rw [show (2 : Int) ^ min (63 - (((0 : Nat)) : Int)).toNat 64 = 9223372036854775808 from rfl, show (2 : Int) ^ min (7 - (((0 : Nat)) : Int) % 8).toNat 8 = 128 from rfl, show 8 * u + (((0 : Nat)) : Int) / 8 = 8 * u from by omega, fdiv_lit _ _ (by decide), fdiv_lit _ _ (by decide), wu8, e]
    omega
  | 1, _ =>
    rw [show (2 : Int) ^ min (63 - (((1 : Nat)) : Int)).toNat 64 = 4611686018427387904 from rfl, show (2 : Int) ^ min (7 - (((1 : Nat)) : Int) % 8).toNat 8 = 64 from rfl, show 8 * u + (((1 : Nat)) : Int) / 8 = 8 * u from by omega, fdiv_lit _ _ (by decide), fdiv_lit _ _ (by decide), wu8, e]
    omega
  | 2, _ =>
    rw [show (2 : Int) ^ min (63 - (((2 : Nat)) : Int)).toNat 64 = 2305843009213693952 from rfl, show (2 : Int) ^ min (7 - (((2 : Nat)) : Int) % 8).toNat 8 = 32 from rfl, show 8 * u + (((2 : Nat)) : Int) / 8 = 8 * u from by omega, fdiv_lit _ _ (by decide), fdiv_lit _ _ (by decide), wu8, e]
    omega
  | 3, _ =>
    rw [show (2 : Int) ^ min (63 - (((3 : Nat)) : Int)).toNat 64 = 1152921504606846976 from rfl, show (2 : Int) ^ min (7 - (((3 : Nat)) : Int) % 8).toNat 8 = 16 from rfl, show 8 * u + (((3 : Nat)) : Int) / 8 = 8 * u from by omega, fdiv_lit _ _ (by decide), fdiv_lit _ _ (by decide), wu8, e]
    omega
  | 4, _ =>
    rw [show (2 : Int) ^ min (63 - (((4 : Nat)) : Int)).toNat 64 = 576460752303423488 from rfl, show (2 : Int) ^ min (7 - (((4 : Nat)) : Int) % 8).toNat 8 = 8 from rfl, show 8 * u + (((4 : Nat)) : Int) / 8 = 8 * u from by omega, fdiv_lit _ _ (by decide), fdiv_lit _ _ (by decide), wu8, e]
    omega
  | 5, _ =>
    rw [show (2 : Int) ^ min (63 - (((5 : Nat)) : Int)).toNat 64 = 288230376151711744 from rfl, show (2 : Int) ^ min (7 - (((5 : Nat)) : Int) % 8).toNat 8 = 4 from rfl, show 8 * u + (((5 : Nat)) : Int) / 8 = 8 * u from by omega, fdiv_lit _ _ (by decide), fdiv_lit _ _ (by decide), wu8, e]
    omega
  | 6, _ =>
    rw [show (2 : Int) ^ min (63 - (((6 : Nat)) : Int)).toNat 64 = 144115188075855872 from rfl, show (2 : Int) ^ min (7 - (((6 : Nat)) : Int) % 8).toNat 8 = 2 from rfl, show 8 * u + (((6 : Nat)) : Int) / 8 = 8 * u from by omega, fdiv_lit _ _ (by decide), fdiv_lit _ _ (by decide), wu8, e]
    omega
  | 7, _ =>
    rw [show (2 : Int) ^ min (63 - (((7 : Nat)) : Int)).toNat 64 = 72057594037927936 from rfl, show (2 : Int) ^ min (7 - (((7 : Nat)) : Int) % 8).toNat 8 = 1 from rfl, show 8 * u + (((7 : Nat)) : Int) / 8 = 8 * u from by omega, fdiv_lit _ _ (by decide), fdiv_lit _ _ (by decide), wu8, e]
    omega
  | 8, _ =>
    rw [show (2 : Int) ^ min (63 - (((8 : Nat)) : Int)).toNat 64 = 36028797018963968 from rfl, show (2 : Int) ^ min (7 - (((8 : Nat)) : Int) % 8).toNat 8 = 128 from rfl, show 8 * u + (((8 : Nat)) : Int) / 8 = 8 * u + 1 from by omega, fdiv_lit _ _ (by decide), fdiv_lit _ _ (by decide), wu8, e]
    omega
  | 9, _ =>
    rw [show (2 : Int) ^ min (63 - (((9 : Nat)) : Int)).toNat 64 = 18014398509481984 from rfl, show (2 : Int) ^ min (7 - (((9 : Nat)) : Int) % 8).toNat 8 = 64 from rfl, show 8 * u + (((9 : Nat)) : Int) / 8 = 8 * u + 1 from by omega, fdiv_lit _ _ (by decide), fdiv_lit _ _ (by decide), wu8, e]
    omega
  | 10, _ =>
    rw [show (2 : Int) ^ min (63 - (((10 : Nat)) : Int)).toNat 64 = 9007199254740992 from rfl, show (2 : Int) ^ min (7 - (((10 : Nat)) : Int) % 8).toNat 8 = 32 from rfl, show 8 * u + (((10 : Nat)) : Int) / 8 = 8 * u + 1 from by omega, fdiv_lit _ _ (by decide), fdiv_lit _ _ (by decide), wu8, e]
    omega
  | 11, _ =>
    rw [show (2 : Int) ^ min (63 - (((11 : Nat)) : Int)).toNat 64 = 4503599627370496 from rfl, show (2 : Int) ^ min (7 - (((11 : Nat)) : Int) % 8).toNat 8 = 16 from rfl, show 8 * u + (((11 : Nat)) : Int) / 8 = 8 * u + 1 from by omega, fdiv_lit _ _ (by decide), fdiv_lit _ _ (by decide), wu8, e]
    omega
  | 12, _ =>
    rw [show (2 : Int) ^ min (63 - (((12 : Nat)) : Int)).toNat 64 = 2251799813685248 from rfl, show (2 : Int) ^ min (7 - (((12 : Nat)) : Int) % 8).toNat 8 = 8 from rfl, show 8 * u + (((12 : Nat)) : Int) / 8 = 8 * u + 1 from by omega, fdiv_lit _ _ (by decide), fdiv_lit _ _ (by decide), wu8, e]
    omega
  | 13, _ =>
    rw [show (2 : Int) ^ min (63 - (((13 : Nat)) : Int)).toNat 64 = 1125899906842624 from rfl, show (2 : Int) ^ min (7 - (((13 : Nat)) : Int) % 8).toNat 8 = 4 from rfl, show 8 * u + (((13 : Nat)) : Int) / 8 = 8 * u + 1 from by omega, fdiv_lit _ _ (by decide), fdiv_lit _ _ (by decide), wu8, e]
    omega
  | 14, _ =>
    rw [show (2 : Int) ^ min (63 - (((14 : Nat)) : Int)).toNat 64 = 562949953421312 from rfl, show (2 : Int) ^ min (7 - (((14 : Nat)) : Int) % 8).toNat 8 = 2 from rfl, show 8 * u + (((14 : Nat)) : Int) / 8 = 8 * u + 1 from by omega, fdiv_lit _ _ (by decide), fdiv_lit _ _ (by decide), wu8, e]
    omega
  | 15, _ =>
    rw [show (2 : Int) ^ min (63 - (((15 : Nat)) : Int)).toNat 64 = 281474976710656 from rfl, show (2 : Int) ^ min (7 - (((15 : Nat)) : Int) % 8).toNat 8 = 1 from rfl, show 8 * u + (((15 : Nat)) : Int) / 8 = 8 * u + 1 from by omega, fdiv_lit _ _ (by decide), fdiv_lit _ _ (by decide), wu8, e]
    omega
  | 16, _ =>
    rw [show (2 : Int) ^ min (63 - (((16 : Nat)) : Int)).toNat 64 = 140737488355328 from rfl, show (2 : Int) ^ min (7 - (((16 : Nat)) : Int) % 8).toNat 8 = 128 from rfl, show 8 * u + (((16 : Nat)) : Int) / 8 = 8 * u + 2 from by omega, fdiv_lit _ _ (by decide), fdiv_lit _ _ (by decide), wu8, e]
    omega
  | 17, _ =>
    rw [show (2 : Int) ^ min (63 - (((17 : Nat)) : Int)).toNat 64 = 70368744177664 from rfl, show (2 : Int) ^ min (7 - (((17 : Nat)) : Int) % 8).toNat 8 = 64 from rfl, show 8 * u + (((17 : Nat)) : Int) / 8 = 8 * u + 2 from by omega, fdiv_lit _ _ (by decide), fdiv_lit _ _ (by decide), wu8, e]
    omega
  | 18, _ =>
    rw [show (2 : Int) ^ min (63 - (((18 : Nat)) : Int)).toNat 64 = 35184372088832 from rfl, show (2 : Int) ^ min (7 - (((18 : Nat)) : Int) % 8).toNat 8 = 32 from rfl, show 8 * u + (((18 : Nat)) : Int) / 8 = 8 * u + 2 from by omega, fdiv_lit _ _ (by decide), fdiv_lit _ _ (by decide), wu8, e]
    omega
  | 19, _ =>
    rw [show (2 : Int) ^ min (63 - (((19 : Nat)) : Int)).toNat 64 = 17592186044416 from rfl, show (2 : Int) ^ min (7 - (((19 : Nat)) : Int) % 8).toNat 8 = 16 from rfl, show 8 * u + (((19 : Nat)) : Int) / 8 = 8 * u + 2 from by omega, fdiv_lit _ _ (by decide), fdiv_lit _ _ (by decide), wu8, e]
    omega
  | 20, _ =>
    rw [show (2 : Int) ^ min (63 - (((20 : Nat)) : Int)).toNat 64 = 8796093022208 from rfl, show (2 : Int) ^ min (7 - (((20 : Nat)) : Int) % 8).toNat 8 = 8 from rfl, show 8 * u + (((20 : Nat)) : Int) / 8 = 8 * u + 2 from by omega, fdiv_lit _ _ (by decide), fdiv_lit _ _ (by decide), wu8, e]
    omega
  | 21, _ =>
    rw [show (2 : Int) ^ min (63 - (((21 : Nat)) : Int)).toNat 64 = 4398046511104 from rfl, show (2 : Int) ^ min (7 - (((21 : Nat)) : Int) % 8).toNat 8 = 4 from rfl, show 8 * u + (((21 : Nat)) : Int) / 8 = 8 * u + 2 from by omega, fdiv_lit _ _ (by decide), fdiv_lit _ _ (by decide), wu8, e]
    omega
  | 22, _ =>
    rw [show (2 : Int) ^ min (63 - (((22 : Nat)) : Int)).toNat 64 = 2199023255552 from rfl, show (2 : Int) ^ min (7 - (((22 : Nat)) : Int) % 8).toNat 8 = 2 from rfl, show 8 * u + (((22 : Nat)) : Int) / 8 = 8 * u + 2 from by omega, fdiv_lit _ _ (by decide), fdiv_lit _ _ (by decide), wu8, e]
    omega
  | 23, _ =>
    rw [show (2 : Int) ^ min (63 - (((23 : Nat)) : Int)).toNat 64 = 1099511627776 from rfl, show (2 : Int) ^ min (7 - (((23 : Nat)) : Int) % 8).toNat 8 = 1 from rfl, show 8 * u + (((23 : Nat)) : Int) / 8 = 8 * u + 2 from by omega, fdiv_lit _ _ (by decide), fdiv_lit _ _ (by decide), wu8, e]
    omega
  | 24, _ =>
    rw [show (2 : Int) ^ min (63 - (((24 : Nat)) : Int)).toNat 64 = 549755813888 from rfl, show (2 : Int) ^ min (7 - (((24 : Nat)) : Int) % 8).toNat 8 = 128 from rfl, show 8 * u + (((24 : Nat)) : Int) / 8 = 8 * u + 3 from by omega, fdiv_lit _ _ (by decide), fdiv_lit _ _ (by decide), wu8, e]
    omega
  | 25, _ =>
    rw [show (2 : Int) ^ min (63 - (((25 : Nat)) : Int)).toNat 64 = 274877906944 from rfl, show (2 : Int) ^ min (7 - (((25 : Nat)) : Int) % 8).toNat 8 = 64 from rfl, show 8 * u + (((25 : Nat)) : Int) / 8 = 8 * u + 3 from by omega, fdiv_lit _ _ (by decide), fdiv_lit _ _ (by decide), wu8, e]
    omega
  | 26, _ =>
    rw [show (2 : Int) ^ min (63 - (((26 : Nat)) : Int)).toNat 64 = 137438953472 from rfl, show (2 : Int) ^ min (7 - (((26 : Nat)) : Int) % 8).toNat 8 = 32 from rfl, show 8 * u + (((26 : Nat)) : Int) / 8 = 8 * u + 3 from by omega, fdiv_lit _ _ (by decide), fdiv_lit _ _ (by decide), wu8, e]
    omega
  | 27, _ =>
    rw [show (2 : Int) ^ min (63 - (((27 : Nat)) : Int)).toNat 64 = 68719476736 from rfl, show (2 : Int) ^ min (7 - (((27 : Nat)) : Int) % 8).toNat 8 = 16 from rfl, show 8 * u + (((27 : Nat)) : Int) / 8 = 8 * u + 3 from by omega, fdiv_lit _ _ (by decide), fdiv_lit _ _ (by decide), wu8, e]
    omega
  | 28, _ =>
    rw [show (2 : Int) ^ min (63 - (((28 : Nat)) : Int)).toNat 64 = 34359738368 from rfl, show (2 : Int) ^ min (7 - (((28 : Nat)) : Int) % 8).toNat 8 = 8 from rfl, show 8 * u + (((28 : Nat)) : Int) / 8 = 8 * u + 3 from by omega, fdiv_lit _ _ (by decide), fdiv_lit _ _ (by decide), wu8, e]
    omega
  | 29, _ =>
    rw [show (2 : Int) ^ min (63 - (((29 : Nat)) : Int)).toNat 64 = 17179869184 from rfl, show (2 : Int) ^ min (7 - (((29 : Nat)) : Int) % 8).toNat 8 = 4 from rfl, show 8 * u + (((29 : Nat)) : Int) / 8 = 8 * u + 3 from by omega, fdiv_lit _ _ (by decide), fdiv_lit _ _ (by decide), wu8, e]
    omega
  | 30, _ =>
    rw [show (2 : Int) ^ min (63 - (((30 : Nat)) : Int)).toNat 64 = 8589934592 from rfl, show (2 : Int) ^ min (7 - (((30 : Nat)) : Int) % 8).toNat 8 = 2 from rfl, show 8 * u + (((30 : Nat)) : Int) / 8 = 8 * u + 3 from by omega, fdiv_lit _ _ (by decide), fdiv_lit _ _ (by decide), wu8, e]
    omega
  | 31, _ =>
    rw [show (2 : Int) ^ min (63 - (((31 : Nat)) : Int)).toNat 64 = 4294967296 from rfl, show (2 : Int) ^ min (7 - (((31 : Nat)) : Int) % 8).toNat 8 = 1 from rfl, show 8 * u + (((31 : Nat)) : Int) / 8 = 8 * u + 3 from by omega, fdiv_lit _ _ (by decide), fdiv_lit _ _ (by decide), wu8, e]
    omega
  | 32, _ =>
    rw [show (2 : Int) ^ min (63 - (((32 : Nat)) : Int)).toNat 64 = 2147483648 from rfl, show (2 : Int) ^ min (7 - (((32 : Nat)) : Int) % 8).toNat 8 = 128 from rfl, show 8 * u + (((32 : Nat)) : Int) / 8 = 8 * u + 4 from by omega, fdiv_lit _ _ (by decide), fdiv_lit _ _ (by decide), wu8, e]
    omega
  | 33, _ =>
    rw [show (2 : Int) ^ min (63 - (((33 : Nat)) : Int)).toNat 64 = 1073741824 from rfl, show (2 : Int) ^ min (7 - (((33 : Nat)) : Int) % 8).toNat 8 = 64 from rfl, show 8 * u + (((33 : Nat)) : Int) / 8 = 8 * u + 4 from by omega, fdiv_lit _ _ (by decide), fdiv_lit _ _ (by decide), wu8, e]
    omega
  | 34, _ =>
    rw [show (2 : Int) ^ min (63 - (((34 : Nat)) : Int)).toNat 64 = 536870912 from rfl, show (2 : Int) ^ min (7 - (((34 : Nat)) : Int) % 8).toNat 8 = 32 from rfl, show 8 * u + (((34 : Nat)) : Int) / 8 = 8 * u + 4 from by omega, fdiv_lit _ _ (by decide), fdiv_lit _ _ (by decide), wu8, e]
    omega
  | 35, _ =>
    rw [show (2 : Int) ^ min (63 - (((35 : Nat)) : Int)).toNat 64 = 268435456 from rfl, show (2 : Int) ^ min (7 - (((35 : Nat)) : Int) % 8).toNat 8 = 16 from rfl, show 8 * u + (((35 : Nat)) : Int) / 8 = 8 * u + 4 from by omega, fdiv_lit _ _ (by decide), fdiv_lit _ _ (by decide), wu8, e]
    omega
  | 36, _ =>
    rw [show (2 : Int) ^ min (63 - (((36 : Nat)) : Int)).toNat 64 = 134217728 from rfl, show (2 : Int) ^ min (7 - (((36 : Nat)) : Int) % 8).toNat 8 = 8 from rfl, show 8 * u + (((36 : Nat)) : Int) / 8 = 8 * u + 4 from by omega, fdiv_lit _ _ (by decide), fdiv_lit _ _ (by decide), wu8, e]
    omega
  | 37, _ =>
    rw [show (2 : Int) ^ min (63 - (((37 : Nat)) : Int)).toNat 64 = 67108864 from rfl, show (2 : Int) ^ min (7 - (((37 : Nat)) : Int) % 8).toNat 8 = 4 from rfl, show 8 * u + (((37 : Nat)) : Int) / 8 = 8 * u + 4 from by omega, fdiv_lit _ _ (by decide), fdiv_lit _ _ (by decide), wu8, e]
    omega
  | 38, _ =>
    rw [show (2 : Int) ^ min (63 - (((38 : Nat)) : Int)).toNat 64 = 33554432 from rfl, show (2 : Int) ^ min (7 - (((38 : Nat)) : Int) % 8).toNat 8 = 2 from rfl, show 8 * u + (((38 : Nat)) : Int) / 8 = 8 * u + 4 from by omega, fdiv_lit _ _ (by decide), fdiv_lit _ _ (by decide), wu8, e]
    omega
  | 39, _ =>
    rw [show (2 : Int) ^ min (63 - (((39 : Nat)) : Int)).toNat 64 = 16777216 from rfl, show (2 : Int) ^ min (7 - (((39 : Nat)) : Int) % 8).toNat 8 = 1 from rfl, show 8 * u + (((39 : Nat)) : Int) / 8 = 8 * u + 4 from by omega, fdiv_lit _ _ (by decide), fdiv_lit _ _ (by decide), wu8, e]
    omega
  | 40, _ =>
    rw [show (2 : Int) ^ min (63 - (((40 : Nat)) : Int)).toNat 64 = 8388608 from rfl, show (2 : Int) ^ min (7 - (((40 : Nat)) : Int) % 8).toNat 8 = 128 from rfl, show 8 * u + (((40 : Nat)) : Int) / 8 = 8 * u + 5 from by omega, fdiv_lit _ _ (by decide), fdiv_lit _ _ (by decide), wu8, e]
    omega
  | 41, _ =>
    rw [show (2 : Int) ^ min (63 - (((41 : Nat)) : Int)).toNat 64 = 4194304 from rfl, show (2 : Int) ^ min (7 - (((41 : Nat)) : Int) % 8).toNat 8 = 64 from rfl, show 8 * u + (((41 : Nat)) : Int) / 8 = 8 * u + 5 from by omega, fdiv_lit _ _ (by decide), fdiv_lit _ _ (by decide), wu8, e]
    omega
  | 42, _ =>
    rw [show (2 : Int) ^ min (63 - (((42 : Nat)) : Int)).toNat 64 = 2097152 from rfl, show (2 : Int) ^ min (7 - (((42 : Nat)) : Int) % 8).toNat 8 = 32 from rfl, show 8 * u + (((42 : Nat)) : Int) / 8 = 8 * u + 5 from by omega, fdiv_lit _ _ (by decide), fdiv_lit _ _ (by decide), wu8, e]
    omega
  | 43, _ =>
    rw [show (2 : Int) ^ min (63 - (((43 : Nat)) : Int)).toNat 64 = 1048576 from rfl, show (2 : Int) ^ min (7 - (((43 : Nat)) : Int) % 8).toNat 8 = 16 from rfl, show 8 * u + (((43 : Nat)) : Int) / 8 = 8 * u + 5 from by omega, fdiv_lit _ _ (by decide), fdiv_lit _ _ (by decide), wu8, e]
    omega
  | 44, _ =>
    rw [show (2 : Int) ^ min (63 - (((44 : Nat)) : Int)).toNat 64 = 524288 from rfl, show (2 : Int) ^ min (7 - (((44 : Nat)) : Int) % 8).toNat 8 = 8 from rfl, show 8 * u + (((44 : Nat)) : Int) / 8 = 8 * u + 5 from by omega, fdiv_lit _ _ (by decide), fdiv_lit _ _ (by decide), wu8, e]
    omega
  | 45, _ =>
    rw [show (2 : Int) ^ min (63 - (((45 : Nat)) : Int)).toNat 64 = 262144 from rfl, show (2 : Int) ^ min (7 - (((45 : Nat)) : Int) % 8).toNat 8 = 4 from rfl, show 8 * u + (((45 : Nat)) : Int) / 8 = 8 * u + 5 from by omega, fdiv_lit _ _ (by decide), fdiv_lit _ _ (by decide), wu8, e]
    omega
  | 46, _ =>
    rw [show (2 : Int) ^ min (63 - (((46 : Nat)) : Int)).toNat 64 = 131072 from rfl, show (2 : Int) ^ min (7 - (((46 : Nat)) : Int) % 8).toNat 8 = 2 from rfl, show 8 * u + (((46 : Nat)) : Int) / 8 = 8 * u + 5 from by omega, fdiv_lit _ _ (by decide), fdiv_lit _ _ (by decide), wu8, e]
    omega
  | 47, _ =>
    rw [show (2 : Int) ^ min (63 - (((47 : Nat)) : Int)).toNat 64 = 65536 from rfl, show (2 : Int) ^ min (7 - (((47 : Nat)) : Int) % 8).toNat 8 = 1 from rfl, show 8 * u + (((47 : Nat)) : Int) / 8 = 8 * u + 5 from by omega, fdiv_lit _ _ (by decide), fdiv_lit _ _ (by decide), wu8, e]
    omega
  | 48, _ =>
    rw [show (2 : Int) ^ min (63 - (((48 : Nat)) : Int)).toNat 64 = 32768 from rfl, show (2 : Int) ^ min (7 - (((48 : Nat)) : Int) % 8).toNat 8 = 128 from rfl, show 8 * u + (((48 : Nat)) : Int) / 8 = 8 * u + 6 from by omega, fdiv_lit _ _ (by decide), fdiv_lit _ _ (by decide), wu8, e]
    omega
  | 49, _ =>
    rw [show (2 : Int) ^ min (63 - (((49 : Nat)) : Int)).toNat 64 = 16384 from rfl, show (2 : Int) ^ min (7 - (((49 : Nat)) : Int) % 8).toNat 8 = 64 from rfl, show 8 * u + (((49 : Nat)) : Int) / 8 = 8 * u + 6 from by omega, fdiv_lit _ _ (by decide), fdiv_lit _ _ (by decide), wu8, e]
    omega
  | 50, _ =>
    rw [show (2 : Int) ^ min (63 - (((50 : Nat)) : Int)).toNat 64 = 8192 from rfl, show (2 : Int) ^ min (7 - (((50 : Nat)) : Int) % 8).toNat 8 = 32 from rfl, show 8 * u + (((50 : Nat)) : Int) / 8 = 8 * u + 6 from by omega, fdiv_lit _ _ (by decide), fdiv_lit _ _ (by decide), wu8, e]
    omega
  | 51, _ =>
    rw [show (2 : Int) ^ min (63 - (((51 : Nat)) : Int)).toNat 64 = 4096 from rfl, show (2 : Int) ^ min (7 - (((51 : Nat)) : Int) % 8).toNat 8 = 16 from rfl, show 8 * u + (((51 : Nat)) : Int) / 8 = 8 * u + 6 from by omega, fdiv_lit _ _ (by decide), fdiv_lit _ _ (by decide), wu8, e]
    omega
  | 52, _ =>
    rw [show (2 : Int) ^ min (63 - (((52 : Nat)) : Int)).toNat 64 = 2048 from rfl, show (2 : Int) ^ min (7 - (((52 : Nat)) : Int) % 8).toNat 8 = 8 from rfl, show 8 * u + (((52 : Nat)) : Int) / 8 = 8 * u + 6 from by omega, fdiv_lit _ _ (by decide), fdiv_lit _ _ (by decide), wu8, e]
    omega
  | 53, _ =>
    rw [show (2 : Int) ^ min (63 - (((53 : Nat)) : Int)).toNat 64 = 1024 from rfl, show (2 : Int) ^ min (7 - (((53 : Nat)) : Int) % 8).toNat 8 = 4 from rfl, show 8 * u + (((53 : Nat)) : Int) / 8 = 8 * u + 6 from by omega, fdiv_lit _ _ (by decide), fdiv_lit _ _ (by decide), wu8, e]
    omega
  | 54, _ =>
    rw [show (2 : Int) ^ min (63 - (((54 : Nat)) : Int)).toNat 64 = 512 from rfl, show (2 : Int) ^ min (7 - (((54 : Nat)) : Int) % 8).toNat 8 = 2 from rfl, show 8 * u + (((54 : Nat)) : Int) / 8 = 8 * u + 6 from by omega, fdiv_lit _ _ (by decide), fdiv_lit _ _ (by decide), wu8, e]
    omega
  | 55, _ =>
    rw [show (2 : Int) ^ min (63 - (((55 : Nat)) : Int)).toNat 64 = 256 from rfl, show (2 : Int) ^ min (7 - (((55 : Nat)) : Int) % 8).toNat 8 = 1 from rfl, show 8 * u + (((55 : Nat)) : Int) / 8 = 8 * u + 6 from by omega, fdiv_lit _ _ (by decide), fdiv_lit _ _ (by decide), wu8, e]
    omega
  | 56, _ =>
    rw [show (2 : Int) ^ min (63 - (((56 : Nat)) : Int)).toNat 64 = 128 from rfl, show (2 : Int) ^ min (7 - (((56 : Nat)) : Int) % 8).toNat 8 = 128 from rfl, show 8 * u + (((56 : Nat)) : Int) / 8 = 8 * u + 7 from by omega, fdiv_lit _ _ (by decide), fdiv_lit _ _ (by decide), wu8, e]
    omega
  | 57, _ =>
    rw [show (2 : Int) ^ min (63 - (((57 : Nat)) : Int)).toNat 64 = 64 from rfl, show (2 : Int) ^ min (7 - (((57 : Nat)) : Int) % 8).toNat 8 = 64 from rfl, show 8 * u + (((57 : Nat)) : Int) / 8 = 8 * u + 7 from by omega, fdiv_lit _ _ (by decide), fdiv_lit _ _ (by decide), wu8, e]
    omega
  | 58, _ =>
    rw [show (2 : Int) ^ min (63 - (((58 : Nat)) : Int)).toNat 64 = 32 from rfl, show (2 : Int) ^ min (7 - (((58 : Nat)) : Int) % 8).toNat 8 = 32 from rfl, show 8 * u + (((58 : Nat)) : Int) / 8 = 8 * u + 7 from by omega, fdiv_lit _ _ (by decide), fdiv_lit _ _ (by decide), wu8, e]
    omega
  | 59, _ =>
    rw [show (2 : Int) ^ min (63 - (((59 : Nat)) : Int)).toNat 64 = 16 from rfl, show (2 : Int) ^ min (7 - (((59 : Nat)) : Int) % 8).toNat 8 = 16 from rfl, show 8 * u + (((59 : Nat)) : Int) / 8 = 8 * u + 7 from by omega, fdiv_lit _ _ (by decide), fdiv_lit _ _ (by decide), wu8, e]
    omega
  | 60, _ =>
    rw [show (2 : Int) ^ min (63 - (((60 : Nat)) : Int)).toNat 64 = 8 from rfl, show (2 : Int) ^ min (7 - (((60 : Nat)) : Int) % 8).toNat 8 = 8 from rfl, show 8 * u + (((60 : Nat)) : Int) / 8 = 8 * u + 7 from by omega, fdiv_lit _ _ (by decide), fdiv_lit _ _ (by decide), wu8, e]
    omega
  | 61, _ =>
    rw [show (2 : Int) ^ min (63 - (((61 : Nat)) : Int)).toNat 64 = 4 from rfl, show (2 : Int) ^ min (7 - (((61 : Nat)) : Int) % 8).toNat 8 = 4 from rfl, show 8 * u + (((61 : Nat)) : Int) / 8 = 8 * u + 7 from by omega, fdiv_lit _ _ (by decide), fdiv_lit _ _ (by decide), wu8, e]
    omega
  | 62, _ =>
    rw [show (2 : Int) ^ min (63 - (((62 : Nat)) : Int)).toNat 64 = 2 from rfl, show (2 : Int) ^ min (7 - (((62 : Nat)) : Int) % 8).toNat 8 = 2 from rfl, show 8 * u + (((62 : Nat)) : Int) / 8 = 8 * u + 7 from by omega, fdiv_lit _ _ (by decide), fdiv_lit _ _ (by decide), wu8, e]
    omega
  | 63, _ =>
    rw [show (2 : Int) ^ min (63 - (((63 : Nat)) : Int)).toNat 64 = 1 from rfl, show (2 : Int) ^ min (7 - (((63 : Nat)) : Int) % 8).toNat 8 = 1 from rfl, show 8 * u + (((63 : Nat)) : Int) / 8 = 8 * u + 7 from by omega, fdiv_lit _ _ (by decide), fdiv_lit _ _ (by decide), wu8, e]
    omega
  | n + 64, h => exact absurd h (by omega)
end Go.Proofs.Ythgcieloijmgdaa

