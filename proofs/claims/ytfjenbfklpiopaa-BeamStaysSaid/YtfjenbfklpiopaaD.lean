import Derived.Test.YtfjenbfklpiopaaC
set_option linter.unusedVariables false
set_option linter.unusedSimpArgs false
namespace Go.Proofs.Ytfjenbfklpiopaa
open Go Go.Proofs Go.Proofs.Ytfjenbfklpiopaa.Ev
def pc (n : Int) : Int := (n.tmod 1000 + 1000) % 1000
def bs (n : Int) : Int := pc n * 280896
def k0 (w d : Int) : Int := if 197120 < d then w / 8 % 2 else 0
def k1 (w d : Int) : Int := if w / 16 % 2 = 1 then (d + 271) / 1232 else 0
def k2 (w d : Int) : Int := if w / 256 * 1232 < d then w / 32 % 2 else 0
noncomputable def c4 : Code := Try.f4.body.getD .skip
noncomputable def hd4 : List Item := headOf (run Try.prog orc2 (tabL fns) 1000 100 [.code c4] ⟨Try.f4.ntmps, mkFrGo (Tr.mk 12) 0 [.c (.i true .i64 0), .c (.i true .u16 0)]⟩ [])
def lv4 (n : Int) (w : Int) (x : Int) : List (Nat × SV) := [(0, .c (.i false .i64 n)), (1, .c (.i false .u16 w)), (5, .c (.i false .i64 (nx n))), (6, .c (.i false .i64 x))]
def sv4 (n : Int) (w : Int) (x : Int) : SW := []
def hh4 (n : Int) (w : Int) (x : Int) : Prop := (0 ≤ n ∧ n ≤ 1125899906842624) ∧ n + 1 ≤ x ∧ x ≤ nx n
def mu4 (n : Int) (w : Int) (x : Int) : Nat := (nx n - x).toNat
theorem stays_pro (n : Int) (w : Int) :
    (loopP Try.prog Try.f4 (fun v _ => SV.sim v (.c (.b false true))) (fun todo fr s' => ∃ x : Int, hh4 n w x ∧ todo = hd4 ∧ fr.nt = Try.f4.ntmps ∧ refP fr (lv4 n w x) ∧ refS s' (sv4 n w x)) (run Try.prog orc2 (tabL fns) 1000 100 [.code c4] ⟨Try.f4.ntmps, mkFrGo (Tr.mk 12) 0 [.c (.i false .i64 n), .c (.i false .u16 w)]⟩ [])) =
    ((decide (n < (0 : Int)) = true → true = true) ∧
        (decide (n < (0 : Int)) = false →
          (decide (n > (1125899906842624 : Int)) = true → true = true) ∧
            (decide (n > (1125899906842624 : Int)) = false →
              low n = true ∧
                (decide (nx n ≤ n) = true → false = true) ∧
                  (decide (nx n ≤ n) = false →
                    (decide (IntKind.i64.wrap (nx n - n) > (1232 : Int)) = true → false = true) ∧
                      (decide (IntKind.i64.wrap (nx n - n) > (1232 : Int)) = false →
                        ∃ x,
                          (((0 : Int) ≤ n ∧ n ≤ (1125899906842624 : Int)) ∧ n + (1 : Int) ≤ x ∧ x ≤ nx n) ∧
                            hd4 = hd4 ∧
                              (46 : Nat) = (46 : Nat) ∧
                                ((IntKind.i64 = IntKind.i64 ∧ n = n) ∧
                                    (IntKind.u16 = IntKind.u16 ∧ w = w) ∧
                                      (IntKind.i64 = IntKind.i64 ∧ nx n = nx n) ∧
                                        IntKind.i64 = IntKind.i64 ∧ IntKind.i64.wrap (n + (1 : Int)) = x) ∧
                                  True))))) := by kernel_rfl
theorem stays_round (n : Int) (w : Int) (j : Int) :
    (loopP Try.prog Try.f4 (fun v _ => SV.sim v (.c (.b false true))) (fun todo fr s' => ∃ x : Int, hh4 n w x ∧ mu4 n w x < mu4 n w j ∧ todo = hd4 ∧ fr.nt = Try.f4.ntmps ∧ refP fr (lv4 n w x) ∧ refS s' (sv4 n w x)) (run Try.prog orc2 (tabL fns) 1000 100 hd4 (mkL Try.f4.ntmps (lv4 n w j)) (sv4 n w j))) =
    ((decide (j < nx n) = true →
          low j = true ∧
            u16 w = true ∧
              low n = true ∧
                u16 w = true ∧
                  ((stV j w != stV n w) = true → false = true) ∧
                    ((stV j w != stV n w) = false →
                      low j = true ∧
                        u16 w = true ∧
                          ((asV j w != (0 : Int)) = true → false = true) ∧
                            ((asV j w != (0 : Int)) = false →
                              ∃ x,
                                (((0 : Int) ≤ n ∧ n ≤ (1125899906842624 : Int)) ∧ n + (1 : Int) ≤ x ∧ x ≤ nx n) ∧
                                  mu4 n w x < mu4 n w j ∧
                                    hd4 = hd4 ∧
                                      (46 : Nat) = (46 : Nat) ∧
                                        ((IntKind.i64 = IntKind.i64 ∧ n = n) ∧
                                            (IntKind.u16 = IntKind.u16 ∧ w = w) ∧
                                              (IntKind.i64 = IntKind.i64 ∧ nx n = nx n) ∧
                                                IntKind.i64 = IntKind.i64 ∧ IntKind.i64.wrap (j + (1 : Int)) = x) ∧
                                          True))) ∧
        (decide (j < nx n) = false → true = true)) := by kernel_rfl
noncomputable def c5 : Code := Try.f5.body.getD .skip
noncomputable def hd5 : List Item := headOf (run Try.prog orc2 (tabL fns) 1000 6 [.code c5] ⟨Try.f5.ntmps, mkFrGo (Tr.mk 12) 0 [.c (.i true .i64 0), .c (.i true .u16 0)]⟩ [])
def lv5 (n : Int) (w : Int) (x : Int) : List (Nat × SV) := [(0, .c (.i false .i64 (pc n))), (1, .c (.i false .u16 w)), (5, .c (.i false .i64 x)), (6, .c (.i false .i64 (bs n + 280896))), (7, .c (.p 0 0))]
def sv5 (n : Int) (w : Int) (x : Int) : SW := [⟨[.i false .i64 (k0 w (x - bs n)), .i false .i64 (k1 w (x - bs n)), .i false .i64 (k2 w (x - bs n))], 29⟩]
def hh5 (n : Int) (w : Int) (x : Int) : Prop := (bs n ≤ x ∧ x ≤ bs n + 280896) ∧ ((x - bs n) % 1232 = 0 ∨ (x - bs n) % 1232 = 960)
def mu5 (n : Int) (w : Int) (x : Int) : Nat := (bs n + 280896 - x).toNat
theorem counts_pro (n : Int) (w : Int) :
    (loopP Try.prog Try.f5 (fun v _ => SV.sim v (.c (.b false true))) (fun todo fr s' => ∃ x : Int, hh5 n w x ∧ todo = hd5 ∧ fr.nt = Try.f5.ntmps ∧ refP fr (lv5 n w x) ∧ refS s' (sv5 n w x)) (run Try.prog orc2 (tabL fns) 1000 6 [.code c5] ⟨Try.f5.ntmps, mkFrGo (Tr.mk 12) 0 [.c (.i false .i64 n), .c (.i false .u16 w)]⟩ [])) =
    (∃ x,
        ((bs n ≤ x ∧ x ≤ bs n + (280896 : Int)) ∧
            ((x - bs n) % (1232 : Int) = (0 : Int) ∨ (x - bs n) % (1232 : Int) = (960 : Int))) ∧
          hd5 = hd5 ∧
            (69 : Nat) = (69 : Nat) ∧
              ((IntKind.i64 = IntKind.i64 ∧
                    (IntKind.i64.wrap (n.tmod (1000 : Int) + (1000 : Int))).tmod (1000 : Int) = pc n) ∧
                  (IntKind.u16 = IntKind.u16 ∧ w = w) ∧
                    (IntKind.i64 = IntKind.i64 ∧
                        IntKind.i64.wrap
                            ((IntKind.i64.wrap (n.tmod (1000 : Int) + (1000 : Int))).tmod (1000 : Int) * (280896 : Int)) =
                          x) ∧
                      (IntKind.i64 = IntKind.i64 ∧
                          IntKind.i64.wrap
                              (IntKind.i64.wrap
                                  ((IntKind.i64.wrap (n.tmod (1000 : Int) + (1000 : Int))).tmod (1000 : Int) + (1 : Int)) *
                                (280896 : Int)) =
                            bs n + (280896 : Int)) ∧
                        C.p (0 : Nat) (0 : Nat) = C.p (0 : Nat) (0 : Nat)) ∧
                ((29 : Nat) = (29 : Nat) ∧
                    (IntKind.i64 = IntKind.i64 ∧ (0 : Int) = k0 w (x - bs n)) ∧
                      (IntKind.i64 = IntKind.i64 ∧ (0 : Int) = k1 w (x - bs n)) ∧
                        IntKind.i64 = IntKind.i64 ∧ (0 : Int) = k2 w (x - bs n)) ∧
                  True) := by kernel_rfl
theorem counts_round (n : Int) (w : Int) (j : Int) :
    (loopP Try.prog Try.f5 (fun v _ => SV.sim v (.c (.b false true))) (fun todo fr s' => ∃ x : Int, hh5 n w x ∧ mu5 n w x < mu5 n w j ∧ todo = hd5 ∧ fr.nt = Try.f5.ntmps ∧ refP fr (lv5 n w x) ∧ refS s' (sv5 n w x)) (run Try.prog orc2 (tabL fns) 1000 6 hd5 (mkL Try.f5.ntmps (lv5 n w j)) (sv5 n w j))) =
    ((decide (j < bs n + (280896 : Int)) = true →
          low j = true ∧
            u16 w = true ∧
              low j = true ∧
                u16 w = true ∧
                  low j = true ∧
                    u16 w = true ∧
                      low j = true ∧
                        ∃ x,
                          ((bs n ≤ x ∧ x ≤ bs n + (280896 : Int)) ∧
                              ((x - bs n) % (1232 : Int) = (0 : Int) ∨ (x - bs n) % (1232 : Int) = (960 : Int))) ∧
                            mu5 n w x < mu5 n w j ∧
                              hd5 = hd5 ∧
                                (69 : Nat) = (69 : Nat) ∧
                                  ((IntKind.i64 = IntKind.i64 ∧ pc n = pc n) ∧
                                      (IntKind.u16 = IntKind.u16 ∧ w = w) ∧
                                        (IntKind.i64 = IntKind.i64 ∧ nx j = x) ∧
                                          (IntKind.i64 = IntKind.i64 ∧ bs n + (280896 : Int) = bs n + (280896 : Int)) ∧
                                            C.p (0 : Nat) (0 : Nat) = C.p (0 : Nat) (0 : Nat)) ∧
                                    ((29 : Nat) = (29 : Nat) ∧
                                        (IntKind.i64 = IntKind.i64 ∧
                                            IntKind.i64.wrap
                                                (k0 w (j - bs n) +
                                                  IntKind.i64.wrap
                                                    (bits BinOp.and IntKind.u16 ((asV j w).fdiv (1 : Int)) (1 : Int))) =
                                              k0 w (x - bs n)) ∧
                                          (IntKind.i64 = IntKind.i64 ∧
                                              IntKind.i64.wrap
                                                  (k1 w (j - bs n) +
                                                    IntKind.i64.wrap
                                                      (bits BinOp.and IntKind.u16 ((asV j w).fdiv (2 : Int)) (1 : Int))) =
                                                k1 w (x - bs n)) ∧
                                            IntKind.i64 = IntKind.i64 ∧
                                              IntKind.i64.wrap
                                                  (k2 w (j - bs n) +
                                                    IntKind.i64.wrap
                                                      (bits BinOp.and IntKind.u16 ((asV j w).fdiv (4 : Int)) (1 : Int))) =
                                                k2 w (x - bs n)) ∧
                                      True) ∧
        (decide (j < bs n + (280896 : Int)) = false →
          (decide (IntKind.i64.wrap (w.fdiv (256 : Int)) ≥ (228 : Int)) = true →
              ((false ^^
                      k0 w (j - bs n) == IntKind.i64.wrap (bits BinOp.and IntKind.u16 (w.fdiv (8 : Int)) (1 : Int)) &&
                        (k1 w (j - bs n) ==
                            IntKind.i64.wrap
                              (IntKind.i64.wrap (bits BinOp.and IntKind.u16 (w.fdiv (16 : Int)) (1 : Int)) * (228 : Int)) &&
                          (k2 w (j - bs n) == (0 : Int) && true))) =
                    true →
                  (j == bs n + (280896 : Int)) = true) ∧
                ((false ^^
                      k0 w (j - bs n) == IntKind.i64.wrap (bits BinOp.and IntKind.u16 (w.fdiv (8 : Int)) (1 : Int)) &&
                        (k1 w (j - bs n) ==
                            IntKind.i64.wrap
                              (IntKind.i64.wrap (bits BinOp.and IntKind.u16 (w.fdiv (16 : Int)) (1 : Int)) * (228 : Int)) &&
                          (k2 w (j - bs n) == (0 : Int) && true))) =
                    false →
                  false = true)) ∧
            (decide (IntKind.i64.wrap (w.fdiv (256 : Int)) ≥ (228 : Int)) = false →
              ((false ^^
                      k0 w (j - bs n) == IntKind.i64.wrap (bits BinOp.and IntKind.u16 (w.fdiv (8 : Int)) (1 : Int)) &&
                        (k1 w (j - bs n) ==
                            IntKind.i64.wrap
                              (IntKind.i64.wrap (bits BinOp.and IntKind.u16 (w.fdiv (16 : Int)) (1 : Int)) * (228 : Int)) &&
                          (k2 w (j - bs n) == IntKind.i64.wrap (bits BinOp.and IntKind.u16 (w.fdiv (32 : Int)) (1 : Int)) &&
                            true))) =
                    true →
                  (j == bs n + (280896 : Int)) = true) ∧
                ((false ^^
                      k0 w (j - bs n) == IntKind.i64.wrap (bits BinOp.and IntKind.u16 (w.fdiv (8 : Int)) (1 : Int)) &&
                        (k1 w (j - bs n) ==
                            IntKind.i64.wrap
                              (IntKind.i64.wrap (bits BinOp.and IntKind.u16 (w.fdiv (16 : Int)) (1 : Int)) * (228 : Int)) &&
                          (k2 w (j - bs n) == IntKind.i64.wrap (bits BinOp.and IntKind.u16 (w.fdiv (32 : Int)) (1 : Int)) &&
                            true))) =
                    false →
                  false = true)))) := by kernel_rfl
end Go.Proofs.Ytfjenbfklpiopaa

