import Derived.Test.YtjacbodjkgiohaaB
import Derived.Test.YtjacbodjkgiohaaC
set_option linter.unusedVariables false
set_option linter.unusedSimpArgs false
namespace Go.Proofs.Ytjacbodjkgiohaa
open Go Go.Proofs Go.Proofs.Ytjacbodjkgiohaa.Ev
set_option maxRecDepth 100000 in
theorem sum_c (l l' l'' : Bool) (a b c : Int) (s : SW) (ha : u32 a = true) (hb : u32 b = true) (hc : 0 ≤ c ∧ c ≤ 1) :
    CallTree Try.prog 22 [.c (.i l .u32 a), .c (.i l' .u32 b), .c (.i l'' .u32 c)] s (.leaf (sumS true (a + b + c) (sg a + sg b + c), s)) := by
  refine CallTree.args (vs' := [.c (.i false .u32 a), .c (.i false .u32 b), .c (.i false .u32 c)]) ⟨⟨rfl, rfl⟩, ⟨rfl, rfl⟩, rfl, rfl⟩ ?_
  refine pure_contract (fnTree_sound orcNone_ok tab_ok tab_sz mixed 1000 Try.func22 (by decide) [.c (.i false .u32 a), .c (.i false .u32 b), .c (.i false .u32 c)] []) (by simp [SV.ok, C.ok, okL]) (v := sumS true (a + b + c) (sg a + sg b + c)) (by kernel_rfl) ?_ s
  refine conP_OK _ ?_
  exact sum_ok a b c ha hb hc
theorem sgn_c (l : Bool) (a : Int) (s : SW) (ha : u32 a = true) : CallTree Try.prog 24 [.c (.i l .u32 a)] s (.leaf (.c (.i false .i64 (sg a)), s)) := by
  refine CallTree.args (vs' := [.c (.i false .u32 a)]) ⟨rfl, rfl⟩ ?_
  exact pure_contract (fnTree_sound orcNone_ok tab_ok tab_sz mixed 1000 Try.func24 (by decide) _ []) (by simp [SV.ok, C.ok, okL]) (v := .c (.i false .i64 (sg a))) rfl (conP_OK _ (sgn_ok a ha)) s
theorem rsum_c (l l' l'' : Bool) (n q : Int) (p : Bool) (s : SW) (hn : -4294967296 ≤ n ∧ n ≤ 8589934592) :
    CallTree Try.prog 25 [.c (.i l .i64 n), .c (.i l' .i64 q), .c (.b l'' p)] s (.leaf (sumS p n q, s)) := by
  refine CallTree.args (vs' := [.c (.i false .i64 n), .c (.i false .i64 q), .c (.b false p)]) ⟨⟨rfl, rfl⟩, ⟨rfl, rfl⟩, rfl⟩ ?_
  exact pure_contract (fnTree_sound orcNone_ok tab_ok tab_sz mixed 1000 Try.func25 (by decide) _ []) (by simp [SV.ok, C.ok, okL]) (v := sumS p n q) rfl (conP_OK _ (rsum_ok n q p hn)) s
theorem orc1_ok : OrcOK Try.prog orc1 := by
  intro g vs s t h
  unfold orc1 at h
  split at h
  · cases h
    exact CallTree.need fun ha => CallTree.need fun hb => CallTree.need fun hc => sum_c _ _ _ _ _ _ s ha hb (of_decide_eq_true hc)
  · cases h
    exact CallTree.need fun ha => sgn_c _ _ s ha
  · cases h
    exact CallTree.need fun ha => rsum_c _ _ _ _ _ _ s (of_decide_eq_true ha)
  · cases h
theorem doi_c (l1 l2 l3 l4 l5 l6 l7 l8 : Bool) (m a b : Int) (n z c v sh : Bool) (s : SW) (ha : u32 a = true) (hb : u32 b = true) :
    CallTree Try.prog 10 [.c (.i l1 .i64 m), .c (.i l2 .u32 a), .c (.i l3 .u32 b), .a [.b l4 n, .b l5 z, .b l6 c, .b l7 v], .c (.b l8 sh)] s (.leaf (doS (bits .and .i64 m 15) a b c v sh, s)) := by
  refine CallTree.args (vs' := [.c (.i false .i64 m), .c (.i false .u32 a), .c (.i false .u32 b), .a [.b false n, .b false z, .b false c, .b false v], .c (.b false sh)]) ⟨⟨rfl, rfl⟩, ⟨rfl, rfl⟩, ⟨rfl, rfl⟩, ⟨rfl, rfl, rfl, rfl⟩, rfl⟩ ?_
  exact pure_contract (fnTree_sound orc1_ok tab_ok tab_sz mixed 1000 Try.func10 (by decide) _ []) (by simp [SV.ok, C.ok, okL]) (v := doS (bits .and .i64 m 15) a b c v sh) rfl (conP_OK _ (doi_ok m a b n z c v sh ha hb)) s
theorem dor_c (l1 l2 l3 l4 l5 l6 l7 l8 : Bool) (m a b : Int) (n z c v sh : Bool) (s : SW) (ha : u32 a = true) (hb : u32 b = true) :
    CallTree Try.prog 11 [.c (.i l1 .i64 m), .c (.i l2 .u32 a), .c (.i l3 .u32 b), .a [.b l4 n, .b l5 z, .b l6 c, .b l7 v], .c (.b l8 sh)] s (.leaf (doS (bits .and .i64 m 15) a b c v sh, s)) := by
  refine CallTree.args (vs' := [.c (.i false .i64 m), .c (.i false .u32 a), .c (.i false .u32 b), .a [.b false n, .b false z, .b false c, .b false v], .c (.b false sh)]) ⟨⟨rfl, rfl⟩, ⟨rfl, rfl⟩, ⟨rfl, rfl⟩, ⟨rfl, rfl, rfl, rfl⟩, rfl⟩ ?_
  exact pure_contract (fnTree_sound orc1_ok tab_ok tab_sz mixed 1000 Try.func11 (by decide) _ []) (by simp [SV.ok, C.ok, okL]) (v := doS (bits .and .i64 m 15) a b c v sh) rfl (conP_OK _ (dor_ok m a b n z c v sh ha hb)) s
theorem evi_c (l1 l4 l5 l6 l7 : Bool) (m : Int) (n z c v : Bool) (s : SW) :
    CallTree Try.prog 14 [.c (.i l1 .i64 m), .a [.b l4 n, .b l5 z, .b l6 c, .b l7 v]] s (.leaf (.c (.b false (evS m n z c v)), s)) := by
  refine CallTree.args (vs' := [.c (.i false .i64 m), .a [.b false n, .b false z, .b false c, .b false v]]) ⟨⟨rfl, rfl⟩, ⟨rfl, rfl, rfl, rfl⟩⟩ ?_
  exact pure_contract (fnTree_sound orcNone_ok tab_ok tab_sz mixed 1000 Try.func14 (by decide) _ []) (by simp [SV.ok, C.ok, okL]) (v := .c (.b false (evS m n z c v))) rfl (conP_OK _ (evi_ok m n z c v)) s
theorem orcE0_ok : OrcOK Try.prog orcE0 := by
  intro g vs s t h
  unfold orcE0 at h
  split at h
  · cases h
    exact CallTree.need fun ha => by cases ha
  · cases h
theorem evr0_c (l1 l4 l5 l6 l7 : Bool) (m : Int) (n z c v : Bool) (s : SW) (hm : m % 2 = 0) :
    CallTree Try.prog 15 [.c (.i l1 .i64 m), .a [.b l4 n, .b l5 z, .b l6 c, .b l7 v]] s (.leaf (.c (.b false (evS m n z c v)), s)) := by
  refine CallTree.args (vs' := [.c (.i false .i64 m), .a [.b false n, .b false z, .b false c, .b false v]]) ⟨⟨rfl, rfl⟩, ⟨rfl, rfl, rfl, rfl⟩⟩ ?_
  exact pure_contract (fnTree_sound orcE0_ok tab_ok tab_sz mixed 1000 Try.func15 (by decide) _ []) (by simp [SV.ok, C.ok, okL]) (v := .c (.b false (evS m n z c v))) rfl (conP_OK _ (evr0_ok m n z c v hm)) s
theorem orcE1_ok : OrcOK Try.prog orcE1 := by
  intro g vs s t h
  unfold orcE1 at h
  split at h
  · cases h
    exact CallTree.need fun ha => evr0_c _ _ _ _ _ _ _ _ _ _ s (of_decide_eq_true ha)
  · cases h
theorem evr_c (l1 l4 l5 l6 l7 : Bool) (m : Int) (n z c v : Bool) (s : SW) :
    CallTree Try.prog 15 [.c (.i l1 .i64 m), .a [.b l4 n, .b l5 z, .b l6 c, .b l7 v]] s (.leaf (.c (.b false (evS m n z c v)), s)) := by
  refine CallTree.args (vs' := [.c (.i false .i64 m), .a [.b false n, .b false z, .b false c, .b false v]]) ⟨⟨rfl, rfl⟩, ⟨rfl, rfl, rfl, rfl⟩⟩ ?_
  exact pure_contract (fnTree_sound orcE1_ok tab_ok tab_sz mixed 1000 Try.func15 (by decide) _ []) (by simp [SV.ok, C.ok, okL]) (v := .c (.b false (evS m n z c v))) rfl (conP_OK _ (evr1_ok m n z c v)) s
theorem awake_p  :
    (conP (.c (.b true true)) (fnTree Try.prog orcNone (tabL fns) 1000 Try.f9 [] [])) =
    (((false ^^ false == false && (true == true && (true == true && (false == false && true)))) = true →
          (false ^^ true == true && (false == false && (false == false && (true == true && true)))) = true) ∧
        ((false ^^ false == false && (true == true && (true == true && (false == false && true)))) = false → false = true)) := by kernel_rfl
set_option maxRecDepth 100000 in
theorem awake_c (s : SW) : CallTree Try.prog 9 [] s (.leaf (.c (.b true true), s)) := by
  refine pure_contract (fnTree_sound orcNone_ok tab_ok tab_sz mixed 1000 Try.func9 (by decide) [] []) (by simp) (v := .c (.b true true)) rfl ?_ s
  refine conP_OK _ ?_
  rw [awake_p]; simp
def orc2 : Orc := fun g vs s => match g, vs with
  | 9, [] => some (.leaf (.c (.b true true), s))
  | 10, [.c (.i _ .i64 m), .c (.i _ .u32 a), .c (.i _ .u32 b), .a [.b _ n, .b _ z, .b _ c, .b _ v], .c (.b _ sh)] => some (.need (u32 a) (.need (u32 b) (.leaf (doS (bits .and .i64 m 15) a b c v sh, s))))
  | 11, [.c (.i _ .i64 m), .c (.i _ .u32 a), .c (.i _ .u32 b), .a [.b _ n, .b _ z, .b _ c, .b _ v], .c (.b _ sh)] => some (.need (u32 a) (.need (u32 b) (.leaf (doS (bits .and .i64 m 15) a b c v sh, s))))
  | 14, [.c (.i _ .i64 m), .a [.b _ n, .b _ z, .b _ c, .b _ v]] => some (.leaf (.c (.b false (evS m n z c v)), s))
  | 15, [.c (.i _ .i64 m), .a [.b _ n, .b _ z, .b _ c, .b _ v]] => some (.leaf (.c (.b false (evS m n z c v)), s))
  | _, _ => none
theorem orc2_ok : OrcOK Try.prog orc2 := by
  intro g vs s t h
  unfold orc2 at h
  split at h
  · cases h
    exact awake_c s
  · cases h
    exact CallTree.need fun ha => CallTree.need fun hb => doi_c _ _ _ _ _ _ _ _ _ _ _ _ _ _ _ _ s ha hb
  · cases h
    exact CallTree.need fun ha => CallTree.need fun hb => dor_c _ _ _ _ _ _ _ _ _ _ _ _ _ _ _ _ s ha hb
  · cases h
    exact evi_c _ _ _ _ _ _ _ _ _ _ s
  · cases h
    exact evr_c _ _ _ _ _ _ _ _ _ _ s
  · cases h
theorem does_p (m a b : Int) (n z c v sh : Bool) :
    (lawP (fnTree Try.prog orc2 (tabL fns) 1000 Try.f3 [.a [.i false .i64 m, .i false .u32 a, .i false .u32 b, .b false n, .b false z, .b false c, .b false v, .b false sh]] [])) =
    (u32 a = true ∧
        u32 b = true ∧
          u32 a = true ∧
            u32 b = true ∧
              (dX (bits BinOp.and IntKind.i64 m (15 : Int)) a b c == dX (bits BinOp.and IntKind.i64 m (15 : Int)) a b c) =
                  true ∧
                (false ^^
                      decide ((2147483648 : Int) ≤ dX (bits BinOp.and IntKind.i64 m (15 : Int)) a b c) ==
                          decide ((2147483648 : Int) ≤ dX (bits BinOp.and IntKind.i64 m (15 : Int)) a b c) &&
                        (decide (dX (bits BinOp.and IntKind.i64 m (15 : Int)) a b c = (0 : Int)) ==
                            decide (dX (bits BinOp.and IntKind.i64 m (15 : Int)) a b c = (0 : Int)) &&
                          (dC (bits BinOp.and IntKind.i64 m (15 : Int)) a b c sh ==
                              dC (bits BinOp.and IntKind.i64 m (15 : Int)) a b c sh &&
                            (dV (bits BinOp.and IntKind.i64 m (15 : Int)) a b c v ==
                                dV (bits BinOp.and IntKind.i64 m (15 : Int)) a b c v &&
                              true)))) =
                    true ∧
                  (decide (bits BinOp.and IntKind.i64 m (15 : Int) ≥ (8 : Int)) = true →
                      (decide (bits BinOp.and IntKind.i64 m (15 : Int) ≥ (8 : Int)) = true →
                          (false ^^
                              decide (bits BinOp.and IntKind.i64 m (15 : Int) ≤ (11 : Int)) ==
                                decide (bits BinOp.and IntKind.i64 m (15 : Int) ≤ (11 : Int))) =
                            true) ∧
                        (decide (bits BinOp.and IntKind.i64 m (15 : Int) ≥ (8 : Int)) = false →
                          (false ^^ decide (bits BinOp.and IntKind.i64 m (15 : Int) ≤ (11 : Int)) == false) = true)) ∧
                    (decide (bits BinOp.and IntKind.i64 m (15 : Int) ≥ (8 : Int)) = false →
                      (decide (bits BinOp.and IntKind.i64 m (15 : Int) ≥ (8 : Int)) = true →
                          (false ^^ false == decide (bits BinOp.and IntKind.i64 m (15 : Int) ≤ (11 : Int))) = true) ∧
                        (decide (bits BinOp.and IntKind.i64 m (15 : Int) ≥ (8 : Int)) = false → true = true))) := by kernel_rfl
theorem holds_p (m : Int) (n z c v : Bool) :
    (lawP (fnTree Try.prog orc2 (tabL fns) 1000 Try.f4 [.c (.i false .i64 m), .a [.b false n, .b false z, .b false c, .b false v]] [])) =
    ((false ^^ evS m n z c v == evS m n z c v) = true ∧
        (true ^^ evS m n z c v == evS (bits BinOp.xor IntKind.i64 m (1 : Int)) n z c v) = true) := by kernel_rfl
theorem order_p (a b : Int) (n z c v : Bool) :
    (lawP (fnTree Try.prog orc2 (tabL fns) 1000 Try.f6 [.c (.i false .u32 a), .c (.i false .u32 b), .a [.b false n, .b false z, .b false c, .b false v]] [])) =
    (u32 a = true ∧
        u32 b = true ∧
          u32 a = true ∧
            u32 b = true ∧
              u32 a = true ∧
                u32 (bits BinOp.xor IntKind.u32 (4294967295 : Int) b) = true ∧
                  (false ^^
                        evS (0 : Int) (decide ((2147483648 : Int) ≤ dX (10 : Int) a b c))
                            (decide (dX (10 : Int) a b c = (0 : Int))) (dC (10 : Int) a b c false) (dV (10 : Int) a b c v) ==
                          (a == b)) =
                      true ∧
                    (false ^^
                          evS (2 : Int) (decide ((2147483648 : Int) ≤ dX (10 : Int) a b c))
                              (decide (dX (10 : Int) a b c = (0 : Int))) (dC (10 : Int) a b c false)
                              (dV (10 : Int) a b c v) ==
                            decide (a ≥ b)) =
                        true ∧
                      (false ^^
                            evS (8 : Int) (decide ((2147483648 : Int) ≤ dX (10 : Int) a b c))
                                (decide (dX (10 : Int) a b c = (0 : Int))) (dC (10 : Int) a b c false)
                                (dV (10 : Int) a b c v) ==
                              decide (a > b)) =
                          true ∧
                        (false ^^
                              evS (10 : Int) (decide ((2147483648 : Int) ≤ dX (10 : Int) a b c))
                                  (decide (dX (10 : Int) a b c = (0 : Int))) (dC (10 : Int) a b c false)
                                  (dV (10 : Int) a b c v) ==
                                decide (IntKind.i32.wrap a ≥ IntKind.i32.wrap b)) =
                            true ∧
                          (false ^^
                                evS (12 : Int) (decide ((2147483648 : Int) ≤ dX (10 : Int) a b c))
                                    (decide (dX (10 : Int) a b c = (0 : Int))) (dC (10 : Int) a b c false)
                                    (dV (10 : Int) a b c v) ==
                                  decide (IntKind.i32.wrap a > IntKind.i32.wrap b)) =
                              true ∧
                            (false ^^
                                  decide ((2147483648 : Int) ≤ dX (10 : Int) a b c) ==
                                      decide ((2147483648 : Int) ≤ dX (2 : Int) a b c) &&
                                    (decide (dX (10 : Int) a b c = (0 : Int)) == decide (dX (2 : Int) a b c = (0 : Int)) &&
                                      (dC (10 : Int) a b c false == dC (2 : Int) a b c true &&
                                        (dV (10 : Int) a b c v == dV (2 : Int) a b c v && true)))) =
                                true ∧
                              (dX (2 : Int) a b c == IntKind.u32.wrap (a - b)) = true ∧
                                (dX (2 : Int) a b c ==
                                      dX (5 : Int) a (bits BinOp.xor IntKind.u32 (4294967295 : Int) b) true) =
                                    true ∧
                                  (false ^^
                                      decide ((2147483648 : Int) ≤ dX (2 : Int) a b c) ==
                                          decide
                                            ((2147483648 : Int) ≤
                                              dX (5 : Int) a (bits BinOp.xor IntKind.u32 (4294967295 : Int) b) true) &&
                                        (decide (dX (2 : Int) a b c = (0 : Int)) ==
                                            decide
                                              (dX (5 : Int) a (bits BinOp.xor IntKind.u32 (4294967295 : Int) b) true =
                                                (0 : Int)) &&
                                          (dC (2 : Int) a b c true ==
                                              dC (5 : Int) a (bits BinOp.xor IntKind.u32 (4294967295 : Int) b) true false &&
                                            (dV (2 : Int) a b c v ==
                                                dV (5 : Int) a (bits BinOp.xor IntKind.u32 (4294967295 : Int) b) true false &&
                                              true)))) =
                                    true) := by kernel_rfl
theorem chains_p (a b : Int) :
    (lawP (fnTree Try.prog orc2 (tabL fns) 1000 Try.f7 [.c (.i false .u64 a), .c (.i false .u64 b)] [])) =
    (u32 (IntKind.u32.wrap a) = true ∧
        u32 (IntKind.u32.wrap b) = true ∧
          u32 (IntKind.u32.wrap (a.fdiv (4294967296 : Int))) = true ∧
            u32 (IntKind.u32.wrap (b.fdiv (4294967296 : Int))) = true ∧
              u32 (IntKind.u32.wrap a) = true ∧
                u32 (IntKind.u32.wrap b) = true ∧
                  u32 (IntKind.u32.wrap (a.fdiv (4294967296 : Int))) = true ∧
                    u32 (IntKind.u32.wrap (b.fdiv (4294967296 : Int))) = true ∧
                      (bits BinOp.or IntKind.u64
                              (IntKind.u64.wrap
                                (IntKind.u64.wrap
                                    (dX (5 : Int) (IntKind.u32.wrap (a.fdiv (4294967296 : Int)))
                                      (IntKind.u32.wrap (b.fdiv (4294967296 : Int)))
                                      (dC (4 : Int) (IntKind.u32.wrap a) (IntKind.u32.wrap b) false false)) *
                                  (4294967296 : Int)))
                              (IntKind.u64.wrap (dX (4 : Int) (IntKind.u32.wrap a) (IntKind.u32.wrap b) false)) ==
                            IntKind.u64.wrap (a + b)) =
                          true ∧
                        (false ^^
                              dC (5 : Int) (IntKind.u32.wrap (a.fdiv (4294967296 : Int)))
                                  (IntKind.u32.wrap (b.fdiv (4294967296 : Int)))
                                  (dC (4 : Int) (IntKind.u32.wrap a) (IntKind.u32.wrap b) false false) false ==
                                decide (IntKind.u64.wrap (a + b) < a)) =
                            true ∧
                          (bits BinOp.or IntKind.u64
                                  (IntKind.u64.wrap
                                    (IntKind.u64.wrap
                                        (dX (6 : Int) (IntKind.u32.wrap (a.fdiv (4294967296 : Int)))
                                          (IntKind.u32.wrap (b.fdiv (4294967296 : Int)))
                                          (dC (2 : Int) (IntKind.u32.wrap a) (IntKind.u32.wrap b) false false)) *
                                      (4294967296 : Int)))
                                  (IntKind.u64.wrap (dX (2 : Int) (IntKind.u32.wrap a) (IntKind.u32.wrap b) false)) ==
                                IntKind.u64.wrap (a - b)) =
                              true ∧
                            (false ^^
                                dC (6 : Int) (IntKind.u32.wrap (a.fdiv (4294967296 : Int)))
                                    (IntKind.u32.wrap (b.fdiv (4294967296 : Int)))
                                    (dC (2 : Int) (IntKind.u32.wrap a) (IntKind.u32.wrap b) false false) false ==
                                  decide (a ≥ b)) =
                              true) := by kernel_rfl
theorem w32i (a : Int) (ha : u32 a = true) : IntKind.i32.wrap a = sg a := by
  rw [u32_iff] at ha
  rw [wi32]; unfold sg; split <;> omega
theorem order_l (a b : Int) (n z c v : Bool) (ha : u32 a = true) (hb : u32 b = true) : lawP (fnTree Try.prog orc2 (tabL fns) 1000 Try.f6 [.c (.i false .u32 a), .c (.i false .u32 b), .a [.b false n, .b false z, .b false c, .b false v]] []) := by
  rw [order_p]
  have ha' := (u32_iff _).1 ha
  have hb' := (u32_iff _).1 hb
  have hnb : u32 (4294967295 - b) = true := by rw [u32_iff]; omega
  rw [not_u32 b hb'.1 hb'.2, w32i a ha, w32i b hb, wu32]
  have e0 : ∀ n z c v, evS 0 n z c v = z := fun _ _ _ _ => rfl
  have e2 : ∀ n z c v, evS 2 n z c v = c := fun _ _ _ _ => rfl
  have e8 : ∀ n z c v, evS 8 n z c v = (c && !z) := fun _ _ _ _ => rfl
  have e10 : ∀ n z c v, evS 10 n z c v = (n == v) := fun _ _ _ _ => rfl
  have e12 : ∀ n z c v, evS 12 n z c v = (!z && n == v) := fun _ _ _ _ => rfl
  have x10 : dX 10 a b c = (a - b) % 4294967296 := rfl
  have x2 : dX 2 a b c = (a - b) % 4294967296 := rfl
  have x5 : dX 5 a (4294967295 - b) true = (a + (4294967295 - b) + 1) % 4294967296 := rfl
  have c10 : dC 10 a b c false = decide (0 ≤ a - b) := rfl
  have c2 : dC 2 a b c true = decide (0 ≤ a - b) := rfl
  have c5 : dC 5 a (4294967295 - b) true false = decide (4294967296 ≤ a + (4294967295 - b) + 1) := rfl
  have v10 : dV 10 a b c v = decide (sg a - sg b < -2147483648 ∨ 2147483648 ≤ sg a - sg b) := rfl
  have v2 : dV 2 a b c v = decide (sg a - sg b < -2147483648 ∨ 2147483648 ≤ sg a - sg b) := rfl
  have v5 : dV 5 a (4294967295 - b) true false = decide (sg a + sg (4294967295 - b) + 1 < -2147483648 ∨ 2147483648 ≤ sg a + sg (4294967295 - b) + 1) := rfl
  rw [sg_not b hb] at v5
  have x5' : (a + (4294967295 - b) + 1) % 4294967296 = (a - b) % 4294967296 := by omega
  simp only [e0, e2, e8, e10, e12, x10, x2, x5, x5', c10, c2, c5, v10, v2, v5, Bool.false_xor, Bool.and_true]
  refine ⟨ha, hb, ha, hb, ha, hnb, ?_, ?_, ?_, ?_, ?_, ?_, ?_, ?_, ?_⟩
  · rw [beq_iff_eq, Bool.eq_iff_iff]; simp only [decide_eq_true_eq, beq_iff_eq]; omega
  · rw [beq_iff_eq, decide_eq_decide]; omega
  · rw [beq_iff_eq, Bool.eq_iff_iff]; simp only [Bool.and_eq_true, Bool.not_eq_true', decide_eq_false_iff_not, decide_eq_true_eq]; omega
  · rw [beq_iff_eq, Bool.eq_iff_iff]; simp only [beq_iff_eq, decide_eq_decide, decide_eq_true_eq]; unfold sg; split <;> split <;> omega
  · rw [beq_iff_eq, Bool.eq_iff_iff]; simp only [Bool.and_eq_true, Bool.not_eq_true', decide_eq_false_iff_not, beq_iff_eq, decide_eq_decide, decide_eq_true_eq]; unfold sg; split <;> split <;> omega
  · simp only [beq_self_eq_true, Bool.and_self]
  · simp only [beq_self_eq_true]
  · simp only [beq_self_eq_true]
  · simp only [beq_self_eq_true, Bool.true_and, Bool.and_eq_true, beq_iff_eq, decide_eq_decide]; omega
end Go.Proofs.Ytjacbodjkgiohaa

