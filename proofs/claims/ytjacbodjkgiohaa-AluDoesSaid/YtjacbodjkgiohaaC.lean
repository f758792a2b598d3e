import Derived.Test.YtjacbodjkgiohaaA
set_option linter.unusedVariables false
set_option linter.unusedSimpArgs false
namespace Go.Proofs.Ytjacbodjkgiohaa
open Go Go.Proofs Go.Proofs.Ytjacbodjkgiohaa.Ev
def evB (j : Int) (n z c v : Bool) : Bool :=
  if j = 0 then z else if j = 2 then c else if j = 4 then n else if j = 6 then v else if j = 8 then (c && !z) else if j = 10 then (n == v) else if j = 12 then (!z && n == v) else true
def evS (m : Int) (n z c v : Bool) : Bool := if m % 2 = 1 then !evB (m % 16 - 1) n z c v else evB (m % 16) n z c v
def orcE0 : Orc := fun g vs s => match g, vs with
  | 15, _ => some (.need false (.leaf (.c (.b false true), s)))
  | _, _ => none
def orcE1 : Orc := fun g vs s => match g, vs with
  | 15, [.c (.i _ .i64 m), .a [.b _ n, .b _ z, .b _ c, .b _ v]] => some (.need (decide (m % 2 = 0)) (.leaf (.c (.b false (evS m n z c v)), s)))
  | _, _ => none
theorem evi_p (m : Int) (n z c v : Bool) :
    (conP (.c (.b false (evS m n z c v))) (fnTree Try.prog orcNone (tabL fns) 1000 Try.f14 [.c (.i false .i64 m), .a [.b false n, .b false z, .b false c, .b false v]] [])) =
    (((bits BinOp.and IntKind.i64 m (14 : Int) == (0 : Int)) = true →
          (false ^^ z == (bits BinOp.and IntKind.i64 m (1 : Int) == (0 : Int))) = evS m n z c v) ∧
        ((bits BinOp.and IntKind.i64 m (14 : Int) == (0 : Int)) = false →
          ((bits BinOp.and IntKind.i64 m (14 : Int) == (2 : Int)) = true →
              (false ^^ c == (bits BinOp.and IntKind.i64 m (1 : Int) == (0 : Int))) = evS m n z c v) ∧
            ((bits BinOp.and IntKind.i64 m (14 : Int) == (2 : Int)) = false →
              ((bits BinOp.and IntKind.i64 m (14 : Int) == (4 : Int)) = true →
                  (false ^^ n == (bits BinOp.and IntKind.i64 m (1 : Int) == (0 : Int))) = evS m n z c v) ∧
                ((bits BinOp.and IntKind.i64 m (14 : Int) == (4 : Int)) = false →
                  ((bits BinOp.and IntKind.i64 m (14 : Int) == (6 : Int)) = true →
                      (false ^^ v == (bits BinOp.and IntKind.i64 m (1 : Int) == (0 : Int))) = evS m n z c v) ∧
                    ((bits BinOp.and IntKind.i64 m (14 : Int) == (6 : Int)) = false →
                      ((bits BinOp.and IntKind.i64 m (14 : Int) == (8 : Int)) = true →
                          (c = true →
                              (false ^^ (!z) == (bits BinOp.and IntKind.i64 m (1 : Int) == (0 : Int))) = evS m n z c v) ∧
                            (c = false →
                              (false ^^ false == (bits BinOp.and IntKind.i64 m (1 : Int) == (0 : Int))) = evS m n z c v)) ∧
                        ((bits BinOp.and IntKind.i64 m (14 : Int) == (8 : Int)) = false →
                          ((bits BinOp.and IntKind.i64 m (14 : Int) == (10 : Int)) = true →
                              (false ^^ (false ^^ n == v) == (bits BinOp.and IntKind.i64 m (1 : Int) == (0 : Int))) =
                                evS m n z c v) ∧
                            ((bits BinOp.and IntKind.i64 m (14 : Int) == (10 : Int)) = false →
                              ((bits BinOp.and IntKind.i64 m (14 : Int) == (12 : Int)) = true →
                                  ((!z) = true →
                                      (false ^^ (false ^^ n == v) == (bits BinOp.and IntKind.i64 m (1 : Int) == (0 : Int))) =
                                        evS m n z c v) ∧
                                    ((!z) = false →
                                      (false ^^ false == (bits BinOp.and IntKind.i64 m (1 : Int) == (0 : Int))) =
                                        evS m n z c v)) ∧
                                ((bits BinOp.and IntKind.i64 m (14 : Int) == (12 : Int)) = false →
                                  (false ^^ true == (bits BinOp.and IntKind.i64 m (1 : Int) == (0 : Int))) =
                                    evS m n z c v)))))))) := by kernel_rfl
theorem evr0_p (m : Int) (n z c v : Bool) :
    (conP (.c (.b false (evS m n z c v))) (fnTree Try.prog orcE0 (tabL fns) 1000 Try.f15 [.c (.i false .i64 m), .a [.b false n, .b false z, .b false c, .b false v]] [])) =
    ((((bits BinOp.and IntKind.i64 m (15 : Int)).tmod (2 : Int) == (1 : Int)) = true →
          false = true ∧ (!true) = evS m n z c v) ∧
        (((bits BinOp.and IntKind.i64 m (15 : Int)).tmod (2 : Int) == (1 : Int)) = false →
          ((bits BinOp.and IntKind.i64 m (15 : Int) == (0 : Int)) = true → z = evS m n z c v) ∧
            ((bits BinOp.and IntKind.i64 m (15 : Int) == (0 : Int)) = false →
              ((bits BinOp.and IntKind.i64 m (15 : Int) == (2 : Int)) = true → c = evS m n z c v) ∧
                ((bits BinOp.and IntKind.i64 m (15 : Int) == (2 : Int)) = false →
                  ((bits BinOp.and IntKind.i64 m (15 : Int) == (4 : Int)) = true → n = evS m n z c v) ∧
                    ((bits BinOp.and IntKind.i64 m (15 : Int) == (4 : Int)) = false →
                      ((bits BinOp.and IntKind.i64 m (15 : Int) == (6 : Int)) = true → v = evS m n z c v) ∧
                        ((bits BinOp.and IntKind.i64 m (15 : Int) == (6 : Int)) = false →
                          ((bits BinOp.and IntKind.i64 m (15 : Int) == (8 : Int)) = true →
                              (c = true → (!z) = evS m n z c v) ∧ (c = false → false = evS m n z c v)) ∧
                            ((bits BinOp.and IntKind.i64 m (15 : Int) == (8 : Int)) = false →
                              ((bits BinOp.and IntKind.i64 m (15 : Int) == (10 : Int)) = true →
                                  (false ^^ n == v) = evS m n z c v) ∧
                                ((bits BinOp.and IntKind.i64 m (15 : Int) == (10 : Int)) = false →
                                  ((bits BinOp.and IntKind.i64 m (15 : Int) == (12 : Int)) = true →
                                      ((!z) = true → (false ^^ n == v) = evS m n z c v) ∧
                                        ((!z) = false → false = evS m n z c v)) ∧
                                    ((bits BinOp.and IntKind.i64 m (15 : Int) == (12 : Int)) = false →
                                      true = evS m n z c v))))))))) := by kernel_rfl
theorem evr1_p (m : Int) (n z c v : Bool) :
    (conP (.c (.b false (evS m n z c v))) (fnTree Try.prog orcE1 (tabL fns) 1000 Try.f15 [.c (.i false .i64 m), .a [.b false n, .b false z, .b false c, .b false v]] [])) =
    ((((bits BinOp.and IntKind.i64 m (15 : Int)).tmod (2 : Int) == (1 : Int)) = true →
          decide (IntKind.i64.wrap (bits BinOp.and IntKind.i64 m (15 : Int) - (1 : Int)) % (2 : Int) = (0 : Int)) = true ∧
            (!evS (IntKind.i64.wrap (bits BinOp.and IntKind.i64 m (15 : Int) - (1 : Int))) n z c v) = evS m n z c v) ∧
        (((bits BinOp.and IntKind.i64 m (15 : Int)).tmod (2 : Int) == (1 : Int)) = false →
          ((bits BinOp.and IntKind.i64 m (15 : Int) == (0 : Int)) = true → z = evS m n z c v) ∧
            ((bits BinOp.and IntKind.i64 m (15 : Int) == (0 : Int)) = false →
              ((bits BinOp.and IntKind.i64 m (15 : Int) == (2 : Int)) = true → c = evS m n z c v) ∧
                ((bits BinOp.and IntKind.i64 m (15 : Int) == (2 : Int)) = false →
                  ((bits BinOp.and IntKind.i64 m (15 : Int) == (4 : Int)) = true → n = evS m n z c v) ∧
                    ((bits BinOp.and IntKind.i64 m (15 : Int) == (4 : Int)) = false →
                      ((bits BinOp.and IntKind.i64 m (15 : Int) == (6 : Int)) = true → v = evS m n z c v) ∧
                        ((bits BinOp.and IntKind.i64 m (15 : Int) == (6 : Int)) = false →
                          ((bits BinOp.and IntKind.i64 m (15 : Int) == (8 : Int)) = true →
                              (c = true → (!z) = evS m n z c v) ∧ (c = false → false = evS m n z c v)) ∧
                            ((bits BinOp.and IntKind.i64 m (15 : Int) == (8 : Int)) = false →
                              ((bits BinOp.and IntKind.i64 m (15 : Int) == (10 : Int)) = true →
                                  (false ^^ n == v) = evS m n z c v) ∧
                                ((bits BinOp.and IntKind.i64 m (15 : Int) == (10 : Int)) = false →
                                  ((bits BinOp.and IntKind.i64 m (15 : Int) == (12 : Int)) = true →
                                      ((!z) = true → (false ^^ n == v) = evS m n z c v) ∧
                                        ((!z) = false → false = evS m n z c v)) ∧
                                    ((bits BinOp.and IntKind.i64 m (15 : Int) == (12 : Int)) = false →
                                      true = evS m n z c v))))))))) := by kernel_rfl
theorem ands (m : Int) : bits .and .i64 m 15 = m % 16 ∧ bits .and .i64 m 1 = m % 2 ∧ bits .and .i64 m 14 = m % 16 - m % 2 := by
  refine ⟨and_mask .i64 m 4 (.inl (by decide)), and_mask .i64 m 1 (.inl (by decide)), ?_⟩
  have h1 : bits .and .i64 m 14 = bits .and .i64 (bits .and .i64 m 15) 14 := by
    have : bits .and .i64 m 15 = m % 16 := and_mask .i64 m 4 (.inl (by decide))
    rw [this]
    unfold bits
    simp only []
    have e : BitVec.ofInt IntKind.i64.bits (m % 16) = BitVec.ofInt IntKind.i64.bits m &&& BitVec.ofInt IntKind.i64.bits 15 := by
      apply BitVec.eq_of_toNat_eq
      rw [BitVec.toNat_and, BitVec.toNat_ofInt, BitVec.toNat_ofInt, BitVec.toNat_ofInt]
      simp only [IntKind.bits]
      have e15 : ((15 : Int) % ((2 ^ 64 : Nat) : Int)).toNat = 2 ^ 4 - 1 := by decide
      rw [e15, Nat.and_two_pow_sub_one_eq_mod]
      omega
    rw [e, BitVec.and_assoc]
    have e2 : BitVec.ofInt IntKind.i64.bits 15 &&& BitVec.ofInt IntKind.i64.bits 14 = BitVec.ofInt IntKind.i64.bits 14 := by decide
    rw [e2]
  have h15 : bits .and .i64 m 15 = m % 16 := and_mask .i64 m 4 (.inl (by decide))
  rw [h1, h15]
  have e : m % 2 = m % 16 % 2 := by omega
  rw [e]
  have hk : m % 16 = 0 ∨ m % 16 = 1 ∨ m % 16 = 2 ∨ m % 16 = 3 ∨ m % 16 = 4 ∨ m % 16 = 5 ∨ m % 16 = 6 ∨ m % 16 = 7 ∨ m % 16 = 8 ∨ m % 16 = 9 ∨ m % 16 = 10 ∨ m % 16 = 11 ∨ m % 16 = 12 ∨ m % 16 = 13 ∨ m % 16 = 14 ∨ m % 16 = 15 := by omega
  clear h1 h15 e
  generalize m % 16 = k at *
  rcases hk with rfl | rfl | rfl | rfl | rfl | rfl | rfl | rfl | rfl | rfl | rfl | rfl | rfl | rfl | rfl | rfl <;> decide
theorem evi_ok (m : Int) (n z c v : Bool) : conP (.c (.b false (evS m n z c v))) (fnTree Try.prog orcNone (tabL fns) 1000 Try.f14 [.c (.i false .i64 m), .a [.b false n, .b false z, .b false c, .b false v]] []) := by
  rw [evi_p, (ands m).2.1, (ands m).2.2]
  unfold evS
  have e : m % 2 = m % 16 % 2 := by omega
  rw [e]
  have hk : m % 16 = 0 ∨ m % 16 = 1 ∨ m % 16 = 2 ∨ m % 16 = 3 ∨ m % 16 = 4 ∨ m % 16 = 5 ∨ m % 16 = 6 ∨ m % 16 = 7 ∨ m % 16 = 8 ∨ m % 16 = 9 ∨ m % 16 = 10 ∨ m % 16 = 11 ∨ m % 16 = 12 ∨ m % 16 = 13 ∨ m % 16 = 14 ∨ m % 16 = 15 := by omega
  generalize m % 16 = k at *
  cases n <;> cases z <;> cases c <;> cases v <;> rcases hk with rfl | rfl | rfl | rfl | rfl | rfl | rfl | rfl | rfl | rfl | rfl | rfl | rfl | rfl | rfl | rfl <;> simp [evB]
theorem evr0_ok (m : Int) (n z c v : Bool) (h : m % 2 = 0) : conP (.c (.b false (evS m n z c v))) (fnTree Try.prog orcE0 (tabL fns) 1000 Try.f15 [.c (.i false .i64 m), .a [.b false n, .b false z, .b false c, .b false v]] []) := by
  rw [evr0_p, (ands m).1, tmod_n _ _ (by omega)]
  unfold evS
  have e : m % 2 = m % 16 % 2 := by omega
  rw [e] at *
  have hk : m % 16 = 0 ∨ m % 16 = 2 ∨ m % 16 = 4 ∨ m % 16 = 6 ∨ m % 16 = 8 ∨ m % 16 = 10 ∨ m % 16 = 12 ∨ m % 16 = 14 := by omega
  clear h
  generalize m % 16 = k at *
  cases n <;> cases z <;> cases c <;> cases v <;> rcases hk with rfl | rfl | rfl | rfl | rfl | rfl | rfl | rfl <;> simp [evB]
theorem evr1_ok (m : Int) (n z c v : Bool) : conP (.c (.b false (evS m n z c v))) (fnTree Try.prog orcE1 (tabL fns) 1000 Try.f15 [.c (.i false .i64 m), .a [.b false n, .b false z, .b false c, .b false v]] []) := by
  rw [evr1_p, (ands m).1, tmod_n _ _ (by omega), w64i (m % 16 - 1) (by omega) (by omega)]
  unfold evS
  have e : m % 2 = m % 16 % 2 := by omega
  rw [e] at *
  have hk : m % 16 = 0 ∨ m % 16 = 1 ∨ m % 16 = 2 ∨ m % 16 = 3 ∨ m % 16 = 4 ∨ m % 16 = 5 ∨ m % 16 = 6 ∨ m % 16 = 7 ∨ m % 16 = 8 ∨ m % 16 = 9 ∨ m % 16 = 10 ∨ m % 16 = 11 ∨ m % 16 = 12 ∨ m % 16 = 13 ∨ m % 16 = 14 ∨ m % 16 = 15 := by omega
  generalize m % 16 = k at *
  cases n <;> cases z <;> cases c <;> cases v <;> rcases hk with rfl | rfl | rfl | rfl | rfl | rfl | rfl | rfl | rfl | rfl | rfl | rfl | rfl | rfl | rfl | rfl <;> simp [evB]
end Go.Proofs.Ytjacbodjkgiohaa

