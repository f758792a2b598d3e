import Derived.Test.YtfjenbfklpiopaaRows
import Derived.Test.YtfjenbfklpiopaaEw
set_option linter.unusedVariables false
set_option linter.unusedSimpArgs false
namespace Go.Proofs.Ytfjenbfklpiopaa
open Go Go.Proofs Go.Proofs.Ytfjenbfklpiopaa.Ev

noncomputable def fns : List (FuncId × Func) := [(3, Try.f3), (4, Try.f4), (5, Try.f5), (6, Try.f6), (7, Try.f7), (8, Try.f8), (9, Try.f9), (10, Try.f10), (11, Try.f11), (12, Try.f12), (13, Try.f13), (14, Try.f14), (15, Try.f15), (16, Try.f16)]
theorem fns_ok : ∀ p, p ∈ fns → FnOK Try.prog p :=
  fn_cons ⟨Try.func3, by decide, rfl, by decide⟩ <|
  fn_cons ⟨Try.func4, by decide, rfl, by decide⟩ <|
  fn_cons ⟨Try.func5, by decide, rfl, by decide⟩ <|
  fn_cons ⟨Try.func6, by decide, rfl, by decide⟩ <|
  fn_cons ⟨Try.func7, by decide, rfl, by decide⟩ <|
  fn_cons ⟨Try.func8, by decide, rfl, by decide⟩ <|
  fn_cons ⟨Try.func9, by decide, rfl, by decide⟩ <|
  fn_cons ⟨Try.func10, by decide, rfl, by decide⟩ <|
  fn_cons ⟨Try.func11, by decide, rfl, by decide⟩ <|
  fn_cons ⟨Try.func12, by decide, rfl, by decide⟩ <|
  fn_cons ⟨Try.func13, by decide, rfl, by decide⟩ <|
  fn_cons ⟨Try.func14, by decide, rfl, by decide⟩ <|
  fn_cons ⟨Try.func15, by decide, rfl, by decide⟩ <|
  fn_cons ⟨Try.func16, by decide, rfl, by decide⟩ <| fn_nil
theorem tab_ok : TabOK Try.prog (tabL fns) := tabL_ok fns_ok
theorem tab_sz : ∀ g fn, tabL fns g = some fn → fn.ntmps < 4095 := tabL_sz fns_ok
theorem mixed : Try.prog.follows .mixedOrders = true := by kernel_rfl


def u16 (x : Int) : Bool := decide (0 ≤ x ∧ x < 65536)
theorem u16_iff (x : Int) : u16 x = true ↔ 0 ≤ x ∧ x < 65536 := by simp [u16]
def low (n : Int) : Bool := decide (-9223372036854775808 ≤ n ∧ n ≤ 2251799813685248)
theorem low_iff (n : Int) : low n = true ↔ -9223372036854775808 ≤ n ∧ n ≤ 2251799813685248 := by simp [low]
def mx (n : Int) : Int := if n < 0 then 0 else n
def ln (n : Int) : Int := mx n / 1232 % 228
def pl (n : Int) : Int := mx n % 1232
def nx (n : Int) : Int := if pl n < 960 then mx n - pl n + 960 else mx n - pl n + 1232
def stV (n w : Int) : Int := w / 256 * 256 + w / 8 % 8 * 8 + (if 160 ≤ ln n ∧ ln n ≤ 226 then 1 else 0) + (if 960 ≤ pl n then 2 else 0) + (if ln n = w / 256 then 4 else 0)
def asV (n w : Int) : Int := (if pl n = 0 ∧ ln n = 160 ∧ w / 8 % 2 = 1 then 1 else 0) + (if pl n = 960 ∧ w / 16 % 2 = 1 then 2 else 0) + (if pl n = 0 ∧ ln n = w / 256 ∧ w / 32 % 2 = 1 then 4 else 0)
def atS (n : Int) : SV := .t [.c (.i false .i64 (ln n)), .c (.i false .i64 (pl n))]
theorem pl_bd (n : Int) : 0 ≤ pl n ∧ pl n < 1232 := ⟨Int.emod_nonneg _ (by decide), Int.emod_lt_of_pos _ (by decide)⟩
theorem ln_bd (n : Int) : 0 ≤ ln n ∧ ln n < 228 := ⟨Int.emod_nonneg _ (by decide), Int.emod_lt_of_pos _ (by decide)⟩
theorem mx_bd (n : Int) : 0 ≤ mx n ∧ n ≤ mx n := by unfold mx; split <;> omega
theorem mx_lo (n : Int) (h : low n = true) : mx n ≤ 2251799813685248 := by rw [low_iff] at h; unfold mx; split <;> omega
theorem awake_p  :
    (conP (.c (.b true true)) (fnTree Try.prog orcNone (tabL fns) 1000 Try.f7 [] [])) =
    (true = true) := by kernel_rfl
theorem at_p (n : Int) :
    (conP (atS n) (fnTree Try.prog orcNone (tabL fns) 1000 Try.f8 [.c (.i false .i64 n)] [])) =
    ((IntKind.i64 = IntKind.i64 ∧
          (IntKind.i64.wrap ((if (0 : Int) > n then (0 : Int) else n).tdiv (1232 : Int))).tmod (228 : Int) = ln n) ∧
        IntKind.i64 = IntKind.i64 ∧ (if (0 : Int) > n then (0 : Int) else n).tmod (1232 : Int) = pl n) := by kernel_rfl
theorem rat_p (n : Int) :
    (conP (atS n) (fnTree Try.prog orcNone (tabL fns) 1000 Try.f9 [.c (.i false .i64 n)] [])) =
    ((decide (n < (0 : Int)) = true →
          (IntKind.i64 = IntKind.i64 ∧ (0 : Int) = ln n) ∧ IntKind.i64 = IntKind.i64 ∧ (0 : Int) = pl n) ∧
        (decide (n < (0 : Int)) = false →
          (IntKind.i64 = IntKind.i64 ∧ IntKind.i64.wrap ((n.tmod (280896 : Int)).tdiv (1232 : Int)) = ln n) ∧
            IntKind.i64 = IntKind.i64 ∧ (n.tmod (280896 : Int)).tmod (1232 : Int) = pl n)) := by kernel_rfl
theorem at_ok (n : Int) (hn : low n = true) : conP (atS n) (fnTree Try.prog orcNone (tabL fns) 1000 Try.f8 [.c (.i false .i64 n)] []) := by
  rw [at_p]
  have e : (if (0 : Int) > n then 0 else n) = mx n := by unfold mx; split <;> rfl
  have h := mx_bd n
  have h' := mx_lo n hn
  simp only [e]
  simp (disch := first | decide | omega) only [tmod_n, tdiv_n, fdiv_lit, wi64_in, true_and]
  exact ⟨rfl, rfl⟩
theorem rat_ok (n : Int) (hn : low n = true) : conP (atS n) (fnTree Try.prog orcNone (tabL fns) 1000 Try.f9 [.c (.i false .i64 n)] []) := by
  rw [rat_p]
  rw [low_iff] at hn
  unfold ln pl mx
  refine ⟨fun h => ?_, fun h => ?_⟩
  · rw [decide_eq_true_eq] at h
    simp only [h, if_true, true_and]; decide
  · rw [decide_eq_false_iff_not] at h
    simp (disch := first | decide | omega) only [h, if_false, tmod_n, tdiv_n, wi64_in, true_and]
    omega
set_option maxRecDepth 100000 in
theorem awake_c (s : SW) : CallTree Try.prog 7 [] s (.leaf (.c (.b true true), s)) := by
  exact pure_contract (fnTree_sound orcNone_ok tab_ok tab_sz mixed 1000 Try.func7 (by decide) [] []) (by simp [SV.ok, C.ok, okL]) (v := .c (.b true true)) rfl (conP_OK _ (by rw [awake_p])) s
set_option maxRecDepth 100000 in
theorem at_c (l1 : Bool) (n : Int) (s : SW) (hn : (low n) = true) : CallTree Try.prog 8 [.c (.i l1 .i64 n)] s (.leaf (atS n, s)) := by
  refine CallTree.args (vs' := [.c (.i false .i64 n)]) ⟨rfl, rfl⟩ ?_
  exact pure_contract (fnTree_sound orcNone_ok tab_ok tab_sz mixed 1000 Try.func8 (by decide) [.c (.i false .i64 n)] []) (by simp [SV.ok, C.ok, okL]) (v := atS n) rfl (conP_OK _ (at_ok n hn)) s
set_option maxRecDepth 100000 in
theorem rat_c (l1 : Bool) (n : Int) (s : SW) (hn : (low n) = true) : CallTree Try.prog 9 [.c (.i l1 .i64 n)] s (.leaf (atS n, s)) := by
  refine CallTree.args (vs' := [.c (.i false .i64 n)]) ⟨rfl, rfl⟩ ?_
  exact pure_contract (fnTree_sound orcNone_ok tab_ok tab_sz mixed 1000 Try.func9 (by decide) [.c (.i false .i64 n)] []) (by simp [SV.ok, C.ok, okL]) (v := atS n) rfl (conP_OK _ (rat_ok n hn)) s
def orc1 : Orc := fun g vs s => match g, vs with
  | 7, [] => some (.leaf (.c (.b true true), s))
  | 8, [.c (.i _ .i64 n)] => some (.need (low n) (.leaf (atS n, s)))
  | 9, [.c (.i _ .i64 n)] => some (.need (low n) (.leaf (atS n, s)))
  | g, vs => none
theorem orc1_ok : OrcOK Try.prog orc1 := by
  intro g vs s t h
  unfold orc1 at h
  split at h
  · cases h
    exact awake_c s
  · cases h
    exact CallTree.need fun hn => at_c _ _ s hn
  · cases h
    exact CallTree.need fun hn => rat_c _ _ s hn
  · cases h

theorem nx_p (n : Int) :
    (conP (.c (.i false .i64 (nx n))) (fnTree Try.prog orc1 (tabL fns) 1000 Try.f10 [.c (.i false .i64 n)] [])) =
    (low (if (0 : Int) > n then (0 : Int) else n) = true ∧
        (decide (pl (if (0 : Int) > n then (0 : Int) else n) < (960 : Int)) = true →
            IntKind.i64 = IntKind.i64 ∧
              IntKind.i64.wrap
                  (IntKind.i64.wrap ((if (0 : Int) > n then (0 : Int) else n) - pl (if (0 : Int) > n then (0 : Int) else n)) +
                    (960 : Int)) =
                nx n) ∧
          (decide (pl (if (0 : Int) > n then (0 : Int) else n) < (960 : Int)) = false →
            IntKind.i64 = IntKind.i64 ∧
              IntKind.i64.wrap
                  (IntKind.i64.wrap ((if (0 : Int) > n then (0 : Int) else n) - pl (if (0 : Int) > n then (0 : Int) else n)) +
                    (1232 : Int)) =
                nx n)) := by kernel_rfl
theorem st_p (n w : Int) :
    (conP (.c (.i false .u16 (stV n w))) (fnTree Try.prog orc1 (tabL fns) 1000 Try.f12 [.c (.i false .i64 n), .c (.i false .u16 w)] [])) =
    (low n = true ∧
        (decide (ln n ≥ (160 : Int)) = true →
            (decide (ln n ≤ (226 : Int)) = true →
                (decide (pl n ≥ (960 : Int)) = true →
                    ((ln n == IntKind.i64.wrap (w.fdiv (256 : Int))) = true →
                        IntKind.u16 = IntKind.u16 ∧
                          bits BinOp.or IntKind.u16
                              (bits BinOp.or IntKind.u16
                                (bits BinOp.or IntKind.u16 (bits BinOp.and IntKind.u16 w (65336 : Int)) (1 : Int)) (2 : Int))
                              (4 : Int) =
                            stV n w) ∧
                      ((ln n == IntKind.i64.wrap (w.fdiv (256 : Int))) = false →
                        IntKind.u16 = IntKind.u16 ∧
                          bits BinOp.or IntKind.u16
                              (bits BinOp.or IntKind.u16 (bits BinOp.and IntKind.u16 w (65336 : Int)) (1 : Int)) (2 : Int) =
                            stV n w)) ∧
                  (decide (pl n ≥ (960 : Int)) = false →
                    ((ln n == IntKind.i64.wrap (w.fdiv (256 : Int))) = true →
                        IntKind.u16 = IntKind.u16 ∧
                          bits BinOp.or IntKind.u16
                              (bits BinOp.or IntKind.u16 (bits BinOp.and IntKind.u16 w (65336 : Int)) (1 : Int)) (4 : Int) =
                            stV n w) ∧
                      ((ln n == IntKind.i64.wrap (w.fdiv (256 : Int))) = false →
                        IntKind.u16 = IntKind.u16 ∧
                          bits BinOp.or IntKind.u16 (bits BinOp.and IntKind.u16 w (65336 : Int)) (1 : Int) = stV n w))) ∧
              (decide (ln n ≤ (226 : Int)) = false →
                (decide (pl n ≥ (960 : Int)) = true →
                    ((ln n == IntKind.i64.wrap (w.fdiv (256 : Int))) = true →
                        IntKind.u16 = IntKind.u16 ∧
                          bits BinOp.or IntKind.u16
                              (bits BinOp.or IntKind.u16 (bits BinOp.and IntKind.u16 w (65336 : Int)) (2 : Int)) (4 : Int) =
                            stV n w) ∧
                      ((ln n == IntKind.i64.wrap (w.fdiv (256 : Int))) = false →
                        IntKind.u16 = IntKind.u16 ∧
                          bits BinOp.or IntKind.u16 (bits BinOp.and IntKind.u16 w (65336 : Int)) (2 : Int) = stV n w)) ∧
                  (decide (pl n ≥ (960 : Int)) = false →
                    ((ln n == IntKind.i64.wrap (w.fdiv (256 : Int))) = true →
                        IntKind.u16 = IntKind.u16 ∧
                          bits BinOp.or IntKind.u16 (bits BinOp.and IntKind.u16 w (65336 : Int)) (4 : Int) = stV n w) ∧
                      ((ln n == IntKind.i64.wrap (w.fdiv (256 : Int))) = false →
                        IntKind.u16 = IntKind.u16 ∧ bits BinOp.and IntKind.u16 w (65336 : Int) = stV n w)))) ∧
          (decide (ln n ≥ (160 : Int)) = false →
            (decide (pl n ≥ (960 : Int)) = true →
                ((ln n == IntKind.i64.wrap (w.fdiv (256 : Int))) = true →
                    IntKind.u16 = IntKind.u16 ∧
                      bits BinOp.or IntKind.u16
                          (bits BinOp.or IntKind.u16 (bits BinOp.and IntKind.u16 w (65336 : Int)) (2 : Int)) (4 : Int) =
                        stV n w) ∧
                  ((ln n == IntKind.i64.wrap (w.fdiv (256 : Int))) = false →
                    IntKind.u16 = IntKind.u16 ∧
                      bits BinOp.or IntKind.u16 (bits BinOp.and IntKind.u16 w (65336 : Int)) (2 : Int) = stV n w)) ∧
              (decide (pl n ≥ (960 : Int)) = false →
                ((ln n == IntKind.i64.wrap (w.fdiv (256 : Int))) = true →
                    IntKind.u16 = IntKind.u16 ∧
                      bits BinOp.or IntKind.u16 (bits BinOp.and IntKind.u16 w (65336 : Int)) (4 : Int) = stV n w) ∧
                  ((ln n == IntKind.i64.wrap (w.fdiv (256 : Int))) = false →
                    IntKind.u16 = IntKind.u16 ∧ bits BinOp.and IntKind.u16 w (65336 : Int) = stV n w)))) := by kernel_rfl
theorem rst_p (n w : Int) :
    (conP (.c (.i false .u16 (stV n w))) (fnTree Try.prog orc1 (tabL fns) 1000 Try.f13 [.c (.i false .i64 n), .c (.i false .u16 w)] [])) =
    (low n = true ∧
        (((w.fdiv (8 : Int)).tmod (2 : Int) == (1 : Int)) = true →
            (((w.fdiv (16 : Int)).tmod (2 : Int) == (1 : Int)) = true →
                (((w.fdiv (32 : Int)).tmod (2 : Int) == (1 : Int)) = true →
                    (decide (ln n ≥ (160 : Int)) = true →
                        (decide (ln n ≤ (226 : Int)) = true →
                            (decide (pl n ≥ (960 : Int)) = true →
                                ((ln n == IntKind.i64.wrap (IntKind.u16.wrap (w.tdiv (256 : Int)))) = true →
                                    IntKind.u16 = IntKind.u16 ∧
                                      IntKind.u16.wrap
                                          (IntKind.u16.wrap
                                              (IntKind.u16.wrap
                                                  (IntKind.u16.wrap
                                                      (IntKind.u16.wrap
                                                          (IntKind.u16.wrap
                                                              (IntKind.u16.wrap
                                                                  (IntKind.u16.wrap (w.tdiv (256 : Int)) * (256 : Int)) +
                                                                (8 : Int)) +
                                                            (16 : Int)) +
                                                        (32 : Int)) +
                                                    (1 : Int)) +
                                                (2 : Int)) +
                                            (4 : Int)) =
                                        stV n w) ∧
                                  ((ln n == IntKind.i64.wrap (IntKind.u16.wrap (w.tdiv (256 : Int)))) = false →
                                    IntKind.u16 = IntKind.u16 ∧
                                      IntKind.u16.wrap
                                          (IntKind.u16.wrap
                                              (IntKind.u16.wrap
                                                  (IntKind.u16.wrap
                                                      (IntKind.u16.wrap
                                                          (IntKind.u16.wrap
                                                              (IntKind.u16.wrap (w.tdiv (256 : Int)) * (256 : Int)) +
                                                            (8 : Int)) +
                                                        (16 : Int)) +
                                                    (32 : Int)) +
                                                (1 : Int)) +
                                            (2 : Int)) =
                                        stV n w)) ∧
                              (decide (pl n ≥ (960 : Int)) = false →
                                ((ln n == IntKind.i64.wrap (IntKind.u16.wrap (w.tdiv (256 : Int)))) = true →
                                    IntKind.u16 = IntKind.u16 ∧
                                      IntKind.u16.wrap
                                          (IntKind.u16.wrap
                                              (IntKind.u16.wrap
                                                  (IntKind.u16.wrap
                                                      (IntKind.u16.wrap
                                                          (IntKind.u16.wrap
                                                              (IntKind.u16.wrap (w.tdiv (256 : Int)) * (256 : Int)) +
                                                            (8 : Int)) +
                                                        (16 : Int)) +
                                                    (32 : Int)) +
                                                (1 : Int)) +
                                            (4 : Int)) =
                                        stV n w) ∧
                                  ((ln n == IntKind.i64.wrap (IntKind.u16.wrap (w.tdiv (256 : Int)))) = false →
                                    IntKind.u16 = IntKind.u16 ∧
                                      IntKind.u16.wrap
                                          (IntKind.u16.wrap
                                              (IntKind.u16.wrap
                                                  (IntKind.u16.wrap
                                                      (IntKind.u16.wrap
                                                          (IntKind.u16.wrap (w.tdiv (256 : Int)) * (256 : Int)) +
                                                        (8 : Int)) +
                                                    (16 : Int)) +
                                                (32 : Int)) +
                                            (1 : Int)) =
                                        stV n w))) ∧
                          (decide (ln n ≤ (226 : Int)) = false →
                            (decide (pl n ≥ (960 : Int)) = true →
                                ((ln n == IntKind.i64.wrap (IntKind.u16.wrap (w.tdiv (256 : Int)))) = true →
                                    IntKind.u16 = IntKind.u16 ∧
                                      IntKind.u16.wrap
                                          (IntKind.u16.wrap
                                              (IntKind.u16.wrap
                                                  (IntKind.u16.wrap
                                                      (IntKind.u16.wrap
                                                          (IntKind.u16.wrap
                                                              (IntKind.u16.wrap (w.tdiv (256 : Int)) * (256 : Int)) +
                                                            (8 : Int)) +
                                                        (16 : Int)) +
                                                    (32 : Int)) +
                                                (2 : Int)) +
                                            (4 : Int)) =
                                        stV n w) ∧
                                  ((ln n == IntKind.i64.wrap (IntKind.u16.wrap (w.tdiv (256 : Int)))) = false →
                                    IntKind.u16 = IntKind.u16 ∧
                                      IntKind.u16.wrap
                                          (IntKind.u16.wrap
                                              (IntKind.u16.wrap
                                                  (IntKind.u16.wrap
                                                      (IntKind.u16.wrap
                                                          (IntKind.u16.wrap (w.tdiv (256 : Int)) * (256 : Int)) +
                                                        (8 : Int)) +
                                                    (16 : Int)) +
                                                (32 : Int)) +
                                            (2 : Int)) =
                                        stV n w)) ∧
                              (decide (pl n ≥ (960 : Int)) = false →
                                ((ln n == IntKind.i64.wrap (IntKind.u16.wrap (w.tdiv (256 : Int)))) = true →
                                    IntKind.u16 = IntKind.u16 ∧
                                      IntKind.u16.wrap
                                          (IntKind.u16.wrap
                                              (IntKind.u16.wrap
                                                  (IntKind.u16.wrap
                                                      (IntKind.u16.wrap
                                                          (IntKind.u16.wrap (w.tdiv (256 : Int)) * (256 : Int)) +
                                                        (8 : Int)) +
                                                    (16 : Int)) +
                                                (32 : Int)) +
                                            (4 : Int)) =
                                        stV n w) ∧
                                  ((ln n == IntKind.i64.wrap (IntKind.u16.wrap (w.tdiv (256 : Int)))) = false →
                                    IntKind.u16 = IntKind.u16 ∧
                                      IntKind.u16.wrap
                                          (IntKind.u16.wrap
                                              (IntKind.u16.wrap
                                                  (IntKind.u16.wrap (IntKind.u16.wrap (w.tdiv (256 : Int)) * (256 : Int)) +
                                                    (8 : Int)) +
                                                (16 : Int)) +
                                            (32 : Int)) =
                                        stV n w)))) ∧
                      (decide (ln n ≥ (160 : Int)) = false →
                        (decide (pl n ≥ (960 : Int)) = true →
                            ((ln n == IntKind.i64.wrap (IntKind.u16.wrap (w.tdiv (256 : Int)))) = true →
                                IntKind.u16 = IntKind.u16 ∧
                                  IntKind.u16.wrap
                                      (IntKind.u16.wrap
                                          (IntKind.u16.wrap
                                              (IntKind.u16.wrap
                                                  (IntKind.u16.wrap
                                                      (IntKind.u16.wrap
                                                          (IntKind.u16.wrap (w.tdiv (256 : Int)) * (256 : Int)) +
                                                        (8 : Int)) +
                                                    (16 : Int)) +
                                                (32 : Int)) +
                                            (2 : Int)) +
                                        (4 : Int)) =
                                    stV n w) ∧
                              ((ln n == IntKind.i64.wrap (IntKind.u16.wrap (w.tdiv (256 : Int)))) = false →
                                IntKind.u16 = IntKind.u16 ∧
                                  IntKind.u16.wrap
                                      (IntKind.u16.wrap
                                          (IntKind.u16.wrap
                                              (IntKind.u16.wrap
                                                  (IntKind.u16.wrap (IntKind.u16.wrap (w.tdiv (256 : Int)) * (256 : Int)) +
                                                    (8 : Int)) +
                                                (16 : Int)) +
                                            (32 : Int)) +
                                        (2 : Int)) =
                                    stV n w)) ∧
                          (decide (pl n ≥ (960 : Int)) = false →
                            ((ln n == IntKind.i64.wrap (IntKind.u16.wrap (w.tdiv (256 : Int)))) = true →
                                IntKind.u16 = IntKind.u16 ∧
                                  IntKind.u16.wrap
                                      (IntKind.u16.wrap
                                          (IntKind.u16.wrap
                                              (IntKind.u16.wrap
                                                  (IntKind.u16.wrap (IntKind.u16.wrap (w.tdiv (256 : Int)) * (256 : Int)) +
                                                    (8 : Int)) +
                                                (16 : Int)) +
                                            (32 : Int)) +
                                        (4 : Int)) =
                                    stV n w) ∧
                              ((ln n == IntKind.i64.wrap (IntKind.u16.wrap (w.tdiv (256 : Int)))) = false →
                                IntKind.u16 = IntKind.u16 ∧
                                  IntKind.u16.wrap
                                      (IntKind.u16.wrap
                                          (IntKind.u16.wrap
                                              (IntKind.u16.wrap (IntKind.u16.wrap (w.tdiv (256 : Int)) * (256 : Int)) +
                                                (8 : Int)) +
                                            (16 : Int)) +
                                        (32 : Int)) =
                                    stV n w)))) ∧
                  (((w.fdiv (32 : Int)).tmod (2 : Int) == (1 : Int)) = false →
                    (decide (ln n ≥ (160 : Int)) = true →
                        (decide (ln n ≤ (226 : Int)) = true →
                            (decide (pl n ≥ (960 : Int)) = true →
                                ((ln n == IntKind.i64.wrap (IntKind.u16.wrap (w.tdiv (256 : Int)))) = true →
                                    IntKind.u16 = IntKind.u16 ∧
                                      IntKind.u16.wrap
                                          (IntKind.u16.wrap
                                              (IntKind.u16.wrap
                                                  (IntKind.u16.wrap
                                                      (IntKind.u16.wrap
                                                          (IntKind.u16.wrap
                                                              (IntKind.u16.wrap (w.tdiv (256 : Int)) * (256 : Int)) +
                                                            (8 : Int)) +
                                                        (16 : Int)) +
                                                    (1 : Int)) +
                                                (2 : Int)) +
                                            (4 : Int)) =
                                        stV n w) ∧
                                  ((ln n == IntKind.i64.wrap (IntKind.u16.wrap (w.tdiv (256 : Int)))) = false →
                                    IntKind.u16 = IntKind.u16 ∧
                                      IntKind.u16.wrap
                                          (IntKind.u16.wrap
                                              (IntKind.u16.wrap
                                                  (IntKind.u16.wrap
                                                      (IntKind.u16.wrap
                                                          (IntKind.u16.wrap (w.tdiv (256 : Int)) * (256 : Int)) +
                                                        (8 : Int)) +
                                                    (16 : Int)) +
                                                (1 : Int)) +
                                            (2 : Int)) =
                                        stV n w)) ∧
                              (decide (pl n ≥ (960 : Int)) = false →
                                ((ln n == IntKind.i64.wrap (IntKind.u16.wrap (w.tdiv (256 : Int)))) = true →
                                    IntKind.u16 = IntKind.u16 ∧
                                      IntKind.u16.wrap
                                          (IntKind.u16.wrap
                                              (IntKind.u16.wrap
                                                  (IntKind.u16.wrap
                                                      (IntKind.u16.wrap
                                                          (IntKind.u16.wrap (w.tdiv (256 : Int)) * (256 : Int)) +
                                                        (8 : Int)) +
                                                    (16 : Int)) +
                                                (1 : Int)) +
                                            (4 : Int)) =
                                        stV n w) ∧
                                  ((ln n == IntKind.i64.wrap (IntKind.u16.wrap (w.tdiv (256 : Int)))) = false →
                                    IntKind.u16 = IntKind.u16 ∧
                                      IntKind.u16.wrap
                                          (IntKind.u16.wrap
                                              (IntKind.u16.wrap
                                                  (IntKind.u16.wrap (IntKind.u16.wrap (w.tdiv (256 : Int)) * (256 : Int)) +
                                                    (8 : Int)) +
                                                (16 : Int)) +
                                            (1 : Int)) =
                                        stV n w))) ∧
                          (decide (ln n ≤ (226 : Int)) = false →
                            (decide (pl n ≥ (960 : Int)) = true →
                                ((ln n == IntKind.i64.wrap (IntKind.u16.wrap (w.tdiv (256 : Int)))) = true →
                                    IntKind.u16 = IntKind.u16 ∧
                                      IntKind.u16.wrap
                                          (IntKind.u16.wrap
                                              (IntKind.u16.wrap
                                                  (IntKind.u16.wrap
                                                      (IntKind.u16.wrap
                                                          (IntKind.u16.wrap (w.tdiv (256 : Int)) * (256 : Int)) +
                                                        (8 : Int)) +
                                                    (16 : Int)) +
                                                (2 : Int)) +
                                            (4 : Int)) =
                                        stV n w) ∧
                                  ((ln n == IntKind.i64.wrap (IntKind.u16.wrap (w.tdiv (256 : Int)))) = false →
                                    IntKind.u16 = IntKind.u16 ∧
                                      IntKind.u16.wrap
                                          (IntKind.u16.wrap
                                              (IntKind.u16.wrap
                                                  (IntKind.u16.wrap (IntKind.u16.wrap (w.tdiv (256 : Int)) * (256 : Int)) +
                                                    (8 : Int)) +
                                                (16 : Int)) +
                                            (2 : Int)) =
                                        stV n w)) ∧
                              (decide (pl n ≥ (960 : Int)) = false →
                                ((ln n == IntKind.i64.wrap (IntKind.u16.wrap (w.tdiv (256 : Int)))) = true →
                                    IntKind.u16 = IntKind.u16 ∧
                                      IntKind.u16.wrap
                                          (IntKind.u16.wrap
                                              (IntKind.u16.wrap
                                                  (IntKind.u16.wrap (IntKind.u16.wrap (w.tdiv (256 : Int)) * (256 : Int)) +
                                                    (8 : Int)) +
                                                (16 : Int)) +
                                            (4 : Int)) =
                                        stV n w) ∧
                                  ((ln n == IntKind.i64.wrap (IntKind.u16.wrap (w.tdiv (256 : Int)))) = false →
                                    IntKind.u16 = IntKind.u16 ∧
                                      IntKind.u16.wrap
                                          (IntKind.u16.wrap
                                              (IntKind.u16.wrap (IntKind.u16.wrap (w.tdiv (256 : Int)) * (256 : Int)) +
                                                (8 : Int)) +
                                            (16 : Int)) =
                                        stV n w)))) ∧
                      (decide (ln n ≥ (160 : Int)) = false →
                        (decide (pl n ≥ (960 : Int)) = true →
                            ((ln n == IntKind.i64.wrap (IntKind.u16.wrap (w.tdiv (256 : Int)))) = true →
                                IntKind.u16 = IntKind.u16 ∧
                                  IntKind.u16.wrap
                                      (IntKind.u16.wrap
                                          (IntKind.u16.wrap
                                              (IntKind.u16.wrap
                                                  (IntKind.u16.wrap (IntKind.u16.wrap (w.tdiv (256 : Int)) * (256 : Int)) +
                                                    (8 : Int)) +
                                                (16 : Int)) +
                                            (2 : Int)) +
                                        (4 : Int)) =
                                    stV n w) ∧
                              ((ln n == IntKind.i64.wrap (IntKind.u16.wrap (w.tdiv (256 : Int)))) = false →
                                IntKind.u16 = IntKind.u16 ∧
                                  IntKind.u16.wrap
                                      (IntKind.u16.wrap
                                          (IntKind.u16.wrap
                                              (IntKind.u16.wrap (IntKind.u16.wrap (w.tdiv (256 : Int)) * (256 : Int)) +
                                                (8 : Int)) +
                                            (16 : Int)) +
                                        (2 : Int)) =
                                    stV n w)) ∧
                          (decide (pl n ≥ (960 : Int)) = false →
                            ((ln n == IntKind.i64.wrap (IntKind.u16.wrap (w.tdiv (256 : Int)))) = true →
                                IntKind.u16 = IntKind.u16 ∧
                                  IntKind.u16.wrap
                                      (IntKind.u16.wrap
                                          (IntKind.u16.wrap
                                              (IntKind.u16.wrap (IntKind.u16.wrap (w.tdiv (256 : Int)) * (256 : Int)) +
                                                (8 : Int)) +
                                            (16 : Int)) +
                                        (4 : Int)) =
                                    stV n w) ∧
                              ((ln n == IntKind.i64.wrap (IntKind.u16.wrap (w.tdiv (256 : Int)))) = false →
                                IntKind.u16 = IntKind.u16 ∧
                                  IntKind.u16.wrap
                                      (IntKind.u16.wrap
                                          (IntKind.u16.wrap (IntKind.u16.wrap (w.tdiv (256 : Int)) * (256 : Int)) +
                                            (8 : Int)) +
                                        (16 : Int)) =
                                    stV n w))))) ∧
              (((w.fdiv (16 : Int)).tmod (2 : Int) == (1 : Int)) = false →
                (((w.fdiv (32 : Int)).tmod (2 : Int) == (1 : Int)) = true →
                    (decide (ln n ≥ (160 : Int)) = true →
                        (decide (ln n ≤ (226 : Int)) = true →
                            (decide (pl n ≥ (960 : Int)) = true →
                                ((ln n == IntKind.i64.wrap (IntKind.u16.wrap (w.tdiv (256 : Int)))) = true →
                                    IntKind.u16 = IntKind.u16 ∧
                                      IntKind.u16.wrap
                                          (IntKind.u16.wrap
                                              (IntKind.u16.wrap
                                                  (IntKind.u16.wrap
                                                      (IntKind.u16.wrap
                                                          (IntKind.u16.wrap
                                                              (IntKind.u16.wrap (w.tdiv (256 : Int)) * (256 : Int)) +
                                                            (8 : Int)) +
                                                        (32 : Int)) +
                                                    (1 : Int)) +
                                                (2 : Int)) +
                                            (4 : Int)) =
                                        stV n w) ∧
                                  ((ln n == IntKind.i64.wrap (IntKind.u16.wrap (w.tdiv (256 : Int)))) = false →
                                    IntKind.u16 = IntKind.u16 ∧
                                      IntKind.u16.wrap
                                          (IntKind.u16.wrap
                                              (IntKind.u16.wrap
                                                  (IntKind.u16.wrap
                                                      (IntKind.u16.wrap
                                                          (IntKind.u16.wrap (w.tdiv (256 : Int)) * (256 : Int)) +
                                                        (8 : Int)) +
                                                    (32 : Int)) +
                                                (1 : Int)) +
                                            (2 : Int)) =
                                        stV n w)) ∧
                              (decide (pl n ≥ (960 : Int)) = false →
                                ((ln n == IntKind.i64.wrap (IntKind.u16.wrap (w.tdiv (256 : Int)))) = true →
                                    IntKind.u16 = IntKind.u16 ∧
                                      IntKind.u16.wrap
                                          (IntKind.u16.wrap
                                              (IntKind.u16.wrap
                                                  (IntKind.u16.wrap
                                                      (IntKind.u16.wrap
                                                          (IntKind.u16.wrap (w.tdiv (256 : Int)) * (256 : Int)) +
                                                        (8 : Int)) +
                                                    (32 : Int)) +
                                                (1 : Int)) +
                                            (4 : Int)) =
                                        stV n w) ∧
                                  ((ln n == IntKind.i64.wrap (IntKind.u16.wrap (w.tdiv (256 : Int)))) = false →
                                    IntKind.u16 = IntKind.u16 ∧
                                      IntKind.u16.wrap
                                          (IntKind.u16.wrap
                                              (IntKind.u16.wrap
                                                  (IntKind.u16.wrap (IntKind.u16.wrap (w.tdiv (256 : Int)) * (256 : Int)) +
                                                    (8 : Int)) +
                                                (32 : Int)) +
                                            (1 : Int)) =
                                        stV n w))) ∧
                          (decide (ln n ≤ (226 : Int)) = false →
                            (decide (pl n ≥ (960 : Int)) = true →
                                ((ln n == IntKind.i64.wrap (IntKind.u16.wrap (w.tdiv (256 : Int)))) = true →
                                    IntKind.u16 = IntKind.u16 ∧
                                      IntKind.u16.wrap
                                          (IntKind.u16.wrap
                                              (IntKind.u16.wrap
                                                  (IntKind.u16.wrap
                                                      (IntKind.u16.wrap
                                                          (IntKind.u16.wrap (w.tdiv (256 : Int)) * (256 : Int)) +
                                                        (8 : Int)) +
                                                    (32 : Int)) +
                                                (2 : Int)) +
                                            (4 : Int)) =
                                        stV n w) ∧
                                  ((ln n == IntKind.i64.wrap (IntKind.u16.wrap (w.tdiv (256 : Int)))) = false →
                                    IntKind.u16 = IntKind.u16 ∧
                                      IntKind.u16.wrap
                                          (IntKind.u16.wrap
                                              (IntKind.u16.wrap
                                                  (IntKind.u16.wrap (IntKind.u16.wrap (w.tdiv (256 : Int)) * (256 : Int)) +
                                                    (8 : Int)) +
                                                (32 : Int)) +
                                            (2 : Int)) =
                                        stV n w)) ∧
                              (decide (pl n ≥ (960 : Int)) = false →
                                ((ln n == IntKind.i64.wrap (IntKind.u16.wrap (w.tdiv (256 : Int)))) = true →
                                    IntKind.u16 = IntKind.u16 ∧
                                      IntKind.u16.wrap
                                          (IntKind.u16.wrap
                                              (IntKind.u16.wrap
                                                  (IntKind.u16.wrap (IntKind.u16.wrap (w.tdiv (256 : Int)) * (256 : Int)) +
                                                    (8 : Int)) +
                                                (32 : Int)) +
                                            (4 : Int)) =
                                        stV n w) ∧
                                  ((ln n == IntKind.i64.wrap (IntKind.u16.wrap (w.tdiv (256 : Int)))) = false →
                                    IntKind.u16 = IntKind.u16 ∧
                                      IntKind.u16.wrap
                                          (IntKind.u16.wrap
                                              (IntKind.u16.wrap (IntKind.u16.wrap (w.tdiv (256 : Int)) * (256 : Int)) +
                                                (8 : Int)) +
                                            (32 : Int)) =
                                        stV n w)))) ∧
                      (decide (ln n ≥ (160 : Int)) = false →
                        (decide (pl n ≥ (960 : Int)) = true →
                            ((ln n == IntKind.i64.wrap (IntKind.u16.wrap (w.tdiv (256 : Int)))) = true →
                                IntKind.u16 = IntKind.u16 ∧
                                  IntKind.u16.wrap
                                      (IntKind.u16.wrap
                                          (IntKind.u16.wrap
                                              (IntKind.u16.wrap
                                                  (IntKind.u16.wrap (IntKind.u16.wrap (w.tdiv (256 : Int)) * (256 : Int)) +
                                                    (8 : Int)) +
                                                (32 : Int)) +
                                            (2 : Int)) +
                                        (4 : Int)) =
                                    stV n w) ∧
                              ((ln n == IntKind.i64.wrap (IntKind.u16.wrap (w.tdiv (256 : Int)))) = false →
                                IntKind.u16 = IntKind.u16 ∧
                                  IntKind.u16.wrap
                                      (IntKind.u16.wrap
                                          (IntKind.u16.wrap
                                              (IntKind.u16.wrap (IntKind.u16.wrap (w.tdiv (256 : Int)) * (256 : Int)) +
                                                (8 : Int)) +
                                            (32 : Int)) +
                                        (2 : Int)) =
                                    stV n w)) ∧
                          (decide (pl n ≥ (960 : Int)) = false →
                            ((ln n == IntKind.i64.wrap (IntKind.u16.wrap (w.tdiv (256 : Int)))) = true →
                                IntKind.u16 = IntKind.u16 ∧
                                  IntKind.u16.wrap
                                      (IntKind.u16.wrap
                                          (IntKind.u16.wrap
                                              (IntKind.u16.wrap (IntKind.u16.wrap (w.tdiv (256 : Int)) * (256 : Int)) +
                                                (8 : Int)) +
                                            (32 : Int)) +
                                        (4 : Int)) =
                                    stV n w) ∧
                              ((ln n == IntKind.i64.wrap (IntKind.u16.wrap (w.tdiv (256 : Int)))) = false →
                                IntKind.u16 = IntKind.u16 ∧
                                  IntKind.u16.wrap
                                      (IntKind.u16.wrap
                                          (IntKind.u16.wrap (IntKind.u16.wrap (w.tdiv (256 : Int)) * (256 : Int)) +
                                            (8 : Int)) +
                                        (32 : Int)) =
                                    stV n w)))) ∧
                  (((w.fdiv (32 : Int)).tmod (2 : Int) == (1 : Int)) = false →
                    (decide (ln n ≥ (160 : Int)) = true →
                        (decide (ln n ≤ (226 : Int)) = true →
                            (decide (pl n ≥ (960 : Int)) = true →
                                ((ln n == IntKind.i64.wrap (IntKind.u16.wrap (w.tdiv (256 : Int)))) = true →
                                    IntKind.u16 = IntKind.u16 ∧
                                      IntKind.u16.wrap
                                          (IntKind.u16.wrap
                                              (IntKind.u16.wrap
                                                  (IntKind.u16.wrap
                                                      (IntKind.u16.wrap
                                                          (IntKind.u16.wrap (w.tdiv (256 : Int)) * (256 : Int)) +
                                                        (8 : Int)) +
                                                    (1 : Int)) +
                                                (2 : Int)) +
                                            (4 : Int)) =
                                        stV n w) ∧
                                  ((ln n == IntKind.i64.wrap (IntKind.u16.wrap (w.tdiv (256 : Int)))) = false →
                                    IntKind.u16 = IntKind.u16 ∧
                                      IntKind.u16.wrap
                                          (IntKind.u16.wrap
                                              (IntKind.u16.wrap
                                                  (IntKind.u16.wrap (IntKind.u16.wrap (w.tdiv (256 : Int)) * (256 : Int)) +
                                                    (8 : Int)) +
                                                (1 : Int)) +
                                            (2 : Int)) =
                                        stV n w)) ∧
                              (decide (pl n ≥ (960 : Int)) = false →
                                ((ln n == IntKind.i64.wrap (IntKind.u16.wrap (w.tdiv (256 : Int)))) = true →
                                    IntKind.u16 = IntKind.u16 ∧
                                      IntKind.u16.wrap
                                          (IntKind.u16.wrap
                                              (IntKind.u16.wrap
                                                  (IntKind.u16.wrap (IntKind.u16.wrap (w.tdiv (256 : Int)) * (256 : Int)) +
                                                    (8 : Int)) +
                                                (1 : Int)) +
                                            (4 : Int)) =
                                        stV n w) ∧
                                  ((ln n == IntKind.i64.wrap (IntKind.u16.wrap (w.tdiv (256 : Int)))) = false →
                                    IntKind.u16 = IntKind.u16 ∧
                                      IntKind.u16.wrap
                                          (IntKind.u16.wrap
                                              (IntKind.u16.wrap (IntKind.u16.wrap (w.tdiv (256 : Int)) * (256 : Int)) +
                                                (8 : Int)) +
                                            (1 : Int)) =
                                        stV n w))) ∧
                          (decide (ln n ≤ (226 : Int)) = false →
                            (decide (pl n ≥ (960 : Int)) = true →
                                ((ln n == IntKind.i64.wrap (IntKind.u16.wrap (w.tdiv (256 : Int)))) = true →
                                    IntKind.u16 = IntKind.u16 ∧
                                      IntKind.u16.wrap
                                          (IntKind.u16.wrap
                                              (IntKind.u16.wrap
                                                  (IntKind.u16.wrap (IntKind.u16.wrap (w.tdiv (256 : Int)) * (256 : Int)) +
                                                    (8 : Int)) +
                                                (2 : Int)) +
                                            (4 : Int)) =
                                        stV n w) ∧
                                  ((ln n == IntKind.i64.wrap (IntKind.u16.wrap (w.tdiv (256 : Int)))) = false →
                                    IntKind.u16 = IntKind.u16 ∧
                                      IntKind.u16.wrap
                                          (IntKind.u16.wrap
                                              (IntKind.u16.wrap (IntKind.u16.wrap (w.tdiv (256 : Int)) * (256 : Int)) +
                                                (8 : Int)) +
                                            (2 : Int)) =
                                        stV n w)) ∧
                              (decide (pl n ≥ (960 : Int)) = false →
                                ((ln n == IntKind.i64.wrap (IntKind.u16.wrap (w.tdiv (256 : Int)))) = true →
                                    IntKind.u16 = IntKind.u16 ∧
                                      IntKind.u16.wrap
                                          (IntKind.u16.wrap
                                              (IntKind.u16.wrap (IntKind.u16.wrap (w.tdiv (256 : Int)) * (256 : Int)) +
                                                (8 : Int)) +
                                            (4 : Int)) =
                                        stV n w) ∧
                                  ((ln n == IntKind.i64.wrap (IntKind.u16.wrap (w.tdiv (256 : Int)))) = false →
                                    IntKind.u16 = IntKind.u16 ∧
                                      IntKind.u16.wrap
                                          (IntKind.u16.wrap (IntKind.u16.wrap (w.tdiv (256 : Int)) * (256 : Int)) +
                                            (8 : Int)) =
                                        stV n w)))) ∧
                      (decide (ln n ≥ (160 : Int)) = false →
                        (decide (pl n ≥ (960 : Int)) = true →
                            ((ln n == IntKind.i64.wrap (IntKind.u16.wrap (w.tdiv (256 : Int)))) = true →
                                IntKind.u16 = IntKind.u16 ∧
                                  IntKind.u16.wrap
                                      (IntKind.u16.wrap
                                          (IntKind.u16.wrap
                                              (IntKind.u16.wrap (IntKind.u16.wrap (w.tdiv (256 : Int)) * (256 : Int)) +
                                                (8 : Int)) +
                                            (2 : Int)) +
                                        (4 : Int)) =
                                    stV n w) ∧
                              ((ln n == IntKind.i64.wrap (IntKind.u16.wrap (w.tdiv (256 : Int)))) = false →
                                IntKind.u16 = IntKind.u16 ∧
                                  IntKind.u16.wrap
                                      (IntKind.u16.wrap
                                          (IntKind.u16.wrap (IntKind.u16.wrap (w.tdiv (256 : Int)) * (256 : Int)) +
                                            (8 : Int)) +
                                        (2 : Int)) =
                                    stV n w)) ∧
                          (decide (pl n ≥ (960 : Int)) = false →
                            ((ln n == IntKind.i64.wrap (IntKind.u16.wrap (w.tdiv (256 : Int)))) = true →
                                IntKind.u16 = IntKind.u16 ∧
                                  IntKind.u16.wrap
                                      (IntKind.u16.wrap
                                          (IntKind.u16.wrap (IntKind.u16.wrap (w.tdiv (256 : Int)) * (256 : Int)) +
                                            (8 : Int)) +
                                        (4 : Int)) =
                                    stV n w) ∧
                              ((ln n == IntKind.i64.wrap (IntKind.u16.wrap (w.tdiv (256 : Int)))) = false →
                                IntKind.u16 = IntKind.u16 ∧
                                  IntKind.u16.wrap
                                      (IntKind.u16.wrap (IntKind.u16.wrap (w.tdiv (256 : Int)) * (256 : Int)) + (8 : Int)) =
                                    stV n w)))))) ∧
          (((w.fdiv (8 : Int)).tmod (2 : Int) == (1 : Int)) = false →
            (((w.fdiv (16 : Int)).tmod (2 : Int) == (1 : Int)) = true →
                (((w.fdiv (32 : Int)).tmod (2 : Int) == (1 : Int)) = true →
                    (decide (ln n ≥ (160 : Int)) = true →
                        (decide (ln n ≤ (226 : Int)) = true →
                            (decide (pl n ≥ (960 : Int)) = true →
                                ((ln n == IntKind.i64.wrap (IntKind.u16.wrap (w.tdiv (256 : Int)))) = true →
                                    IntKind.u16 = IntKind.u16 ∧
                                      IntKind.u16.wrap
                                          (IntKind.u16.wrap
                                              (IntKind.u16.wrap
                                                  (IntKind.u16.wrap
                                                      (IntKind.u16.wrap
                                                          (IntKind.u16.wrap
                                                              (IntKind.u16.wrap (w.tdiv (256 : Int)) * (256 : Int)) +
                                                            (16 : Int)) +
                                                        (32 : Int)) +
                                                    (1 : Int)) +
                                                (2 : Int)) +
                                            (4 : Int)) =
                                        stV n w) ∧
                                  ((ln n == IntKind.i64.wrap (IntKind.u16.wrap (w.tdiv (256 : Int)))) = false →
                                    IntKind.u16 = IntKind.u16 ∧
                                      IntKind.u16.wrap
                                          (IntKind.u16.wrap
                                              (IntKind.u16.wrap
                                                  (IntKind.u16.wrap
                                                      (IntKind.u16.wrap
                                                          (IntKind.u16.wrap (w.tdiv (256 : Int)) * (256 : Int)) +
                                                        (16 : Int)) +
                                                    (32 : Int)) +
                                                (1 : Int)) +
                                            (2 : Int)) =
                                        stV n w)) ∧
                              (decide (pl n ≥ (960 : Int)) = false →
                                ((ln n == IntKind.i64.wrap (IntKind.u16.wrap (w.tdiv (256 : Int)))) = true →
                                    IntKind.u16 = IntKind.u16 ∧
                                      IntKind.u16.wrap
                                          (IntKind.u16.wrap
                                              (IntKind.u16.wrap
                                                  (IntKind.u16.wrap
                                                      (IntKind.u16.wrap
                                                          (IntKind.u16.wrap (w.tdiv (256 : Int)) * (256 : Int)) +
                                                        (16 : Int)) +
                                                    (32 : Int)) +
                                                (1 : Int)) +
                                            (4 : Int)) =
                                        stV n w) ∧
                                  ((ln n == IntKind.i64.wrap (IntKind.u16.wrap (w.tdiv (256 : Int)))) = false →
                                    IntKind.u16 = IntKind.u16 ∧
                                      IntKind.u16.wrap
                                          (IntKind.u16.wrap
                                              (IntKind.u16.wrap
                                                  (IntKind.u16.wrap (IntKind.u16.wrap (w.tdiv (256 : Int)) * (256 : Int)) +
                                                    (16 : Int)) +
                                                (32 : Int)) +
                                            (1 : Int)) =
                                        stV n w))) ∧
                          (decide (ln n ≤ (226 : Int)) = false →
                            (decide (pl n ≥ (960 : Int)) = true →
                                ((ln n == IntKind.i64.wrap (IntKind.u16.wrap (w.tdiv (256 : Int)))) = true →
                                    IntKind.u16 = IntKind.u16 ∧
                                      IntKind.u16.wrap
                                          (IntKind.u16.wrap
                                              (IntKind.u16.wrap
                                                  (IntKind.u16.wrap
                                                      (IntKind.u16.wrap
                                                          (IntKind.u16.wrap (w.tdiv (256 : Int)) * (256 : Int)) +
                                                        (16 : Int)) +
                                                    (32 : Int)) +
                                                (2 : Int)) +
                                            (4 : Int)) =
                                        stV n w) ∧
                                  ((ln n == IntKind.i64.wrap (IntKind.u16.wrap (w.tdiv (256 : Int)))) = false →
                                    IntKind.u16 = IntKind.u16 ∧
                                      IntKind.u16.wrap
                                          (IntKind.u16.wrap
                                              (IntKind.u16.wrap
                                                  (IntKind.u16.wrap (IntKind.u16.wrap (w.tdiv (256 : Int)) * (256 : Int)) +
                                                    (16 : Int)) +
                                                (32 : Int)) +
                                            (2 : Int)) =
                                        stV n w)) ∧
                              (decide (pl n ≥ (960 : Int)) = false →
                                ((ln n == IntKind.i64.wrap (IntKind.u16.wrap (w.tdiv (256 : Int)))) = true →
                                    IntKind.u16 = IntKind.u16 ∧
                                      IntKind.u16.wrap
                                          (IntKind.u16.wrap
                                              (IntKind.u16.wrap
                                                  (IntKind.u16.wrap (IntKind.u16.wrap (w.tdiv (256 : Int)) * (256 : Int)) +
                                                    (16 : Int)) +
                                                (32 : Int)) +
                                            (4 : Int)) =
                                        stV n w) ∧
                                  ((ln n == IntKind.i64.wrap (IntKind.u16.wrap (w.tdiv (256 : Int)))) = false →
                                    IntKind.u16 = IntKind.u16 ∧
                                      IntKind.u16.wrap
                                          (IntKind.u16.wrap
                                              (IntKind.u16.wrap (IntKind.u16.wrap (w.tdiv (256 : Int)) * (256 : Int)) +
                                                (16 : Int)) +
                                            (32 : Int)) =
                                        stV n w)))) ∧
                      (decide (ln n ≥ (160 : Int)) = false →
                        (decide (pl n ≥ (960 : Int)) = true →
                            ((ln n == IntKind.i64.wrap (IntKind.u16.wrap (w.tdiv (256 : Int)))) = true →
                                IntKind.u16 = IntKind.u16 ∧
                                  IntKind.u16.wrap
                                      (IntKind.u16.wrap
                                          (IntKind.u16.wrap
                                              (IntKind.u16.wrap
                                                  (IntKind.u16.wrap (IntKind.u16.wrap (w.tdiv (256 : Int)) * (256 : Int)) +
                                                    (16 : Int)) +
                                                (32 : Int)) +
                                            (2 : Int)) +
                                        (4 : Int)) =
                                    stV n w) ∧
                              ((ln n == IntKind.i64.wrap (IntKind.u16.wrap (w.tdiv (256 : Int)))) = false →
                                IntKind.u16 = IntKind.u16 ∧
                                  IntKind.u16.wrap
                                      (IntKind.u16.wrap
                                          (IntKind.u16.wrap
                                              (IntKind.u16.wrap (IntKind.u16.wrap (w.tdiv (256 : Int)) * (256 : Int)) +
                                                (16 : Int)) +
                                            (32 : Int)) +
                                        (2 : Int)) =
                                    stV n w)) ∧
                          (decide (pl n ≥ (960 : Int)) = false →
                            ((ln n == IntKind.i64.wrap (IntKind.u16.wrap (w.tdiv (256 : Int)))) = true →
                                IntKind.u16 = IntKind.u16 ∧
                                  IntKind.u16.wrap
                                      (IntKind.u16.wrap
                                          (IntKind.u16.wrap
                                              (IntKind.u16.wrap (IntKind.u16.wrap (w.tdiv (256 : Int)) * (256 : Int)) +
                                                (16 : Int)) +
                                            (32 : Int)) +
                                        (4 : Int)) =
                                    stV n w) ∧
                              ((ln n == IntKind.i64.wrap (IntKind.u16.wrap (w.tdiv (256 : Int)))) = false →
                                IntKind.u16 = IntKind.u16 ∧
                                  IntKind.u16.wrap
                                      (IntKind.u16.wrap
                                          (IntKind.u16.wrap (IntKind.u16.wrap (w.tdiv (256 : Int)) * (256 : Int)) +
                                            (16 : Int)) +
                                        (32 : Int)) =
                                    stV n w)))) ∧
                  (((w.fdiv (32 : Int)).tmod (2 : Int) == (1 : Int)) = false →
                    (decide (ln n ≥ (160 : Int)) = true →
                        (decide (ln n ≤ (226 : Int)) = true →
                            (decide (pl n ≥ (960 : Int)) = true →
                                ((ln n == IntKind.i64.wrap (IntKind.u16.wrap (w.tdiv (256 : Int)))) = true →
                                    IntKind.u16 = IntKind.u16 ∧
                                      IntKind.u16.wrap
                                          (IntKind.u16.wrap
                                              (IntKind.u16.wrap
                                                  (IntKind.u16.wrap
                                                      (IntKind.u16.wrap
                                                          (IntKind.u16.wrap (w.tdiv (256 : Int)) * (256 : Int)) +
                                                        (16 : Int)) +
                                                    (1 : Int)) +
                                                (2 : Int)) +
                                            (4 : Int)) =
                                        stV n w) ∧
                                  ((ln n == IntKind.i64.wrap (IntKind.u16.wrap (w.tdiv (256 : Int)))) = false →
                                    IntKind.u16 = IntKind.u16 ∧
                                      IntKind.u16.wrap
                                          (IntKind.u16.wrap
                                              (IntKind.u16.wrap
                                                  (IntKind.u16.wrap (IntKind.u16.wrap (w.tdiv (256 : Int)) * (256 : Int)) +
                                                    (16 : Int)) +
                                                (1 : Int)) +
                                            (2 : Int)) =
                                        stV n w)) ∧
                              (decide (pl n ≥ (960 : Int)) = false →
                                ((ln n == IntKind.i64.wrap (IntKind.u16.wrap (w.tdiv (256 : Int)))) = true →
                                    IntKind.u16 = IntKind.u16 ∧
                                      IntKind.u16.wrap
                                          (IntKind.u16.wrap
                                              (IntKind.u16.wrap
                                                  (IntKind.u16.wrap (IntKind.u16.wrap (w.tdiv (256 : Int)) * (256 : Int)) +
                                                    (16 : Int)) +
                                                (1 : Int)) +
                                            (4 : Int)) =
                                        stV n w) ∧
                                  ((ln n == IntKind.i64.wrap (IntKind.u16.wrap (w.tdiv (256 : Int)))) = false →
                                    IntKind.u16 = IntKind.u16 ∧
                                      IntKind.u16.wrap
                                          (IntKind.u16.wrap
                                              (IntKind.u16.wrap (IntKind.u16.wrap (w.tdiv (256 : Int)) * (256 : Int)) +
                                                (16 : Int)) +
                                            (1 : Int)) =
                                        stV n w))) ∧
                          (decide (ln n ≤ (226 : Int)) = false →
                            (decide (pl n ≥ (960 : Int)) = true →
                                ((ln n == IntKind.i64.wrap (IntKind.u16.wrap (w.tdiv (256 : Int)))) = true →
                                    IntKind.u16 = IntKind.u16 ∧
                                      IntKind.u16.wrap
                                          (IntKind.u16.wrap
                                              (IntKind.u16.wrap
                                                  (IntKind.u16.wrap (IntKind.u16.wrap (w.tdiv (256 : Int)) * (256 : Int)) +
                                                    (16 : Int)) +
                                                (2 : Int)) +
                                            (4 : Int)) =
                                        stV n w) ∧
                                  ((ln n == IntKind.i64.wrap (IntKind.u16.wrap (w.tdiv (256 : Int)))) = false →
                                    IntKind.u16 = IntKind.u16 ∧
                                      IntKind.u16.wrap
                                          (IntKind.u16.wrap
                                              (IntKind.u16.wrap (IntKind.u16.wrap (w.tdiv (256 : Int)) * (256 : Int)) +
                                                (16 : Int)) +
                                            (2 : Int)) =
                                        stV n w)) ∧
                              (decide (pl n ≥ (960 : Int)) = false →
                                ((ln n == IntKind.i64.wrap (IntKind.u16.wrap (w.tdiv (256 : Int)))) = true →
                                    IntKind.u16 = IntKind.u16 ∧
                                      IntKind.u16.wrap
                                          (IntKind.u16.wrap
                                              (IntKind.u16.wrap (IntKind.u16.wrap (w.tdiv (256 : Int)) * (256 : Int)) +
                                                (16 : Int)) +
                                            (4 : Int)) =
                                        stV n w) ∧
                                  ((ln n == IntKind.i64.wrap (IntKind.u16.wrap (w.tdiv (256 : Int)))) = false →
                                    IntKind.u16 = IntKind.u16 ∧
                                      IntKind.u16.wrap
                                          (IntKind.u16.wrap (IntKind.u16.wrap (w.tdiv (256 : Int)) * (256 : Int)) +
                                            (16 : Int)) =
                                        stV n w)))) ∧
                      (decide (ln n ≥ (160 : Int)) = false →
                        (decide (pl n ≥ (960 : Int)) = true →
                            ((ln n == IntKind.i64.wrap (IntKind.u16.wrap (w.tdiv (256 : Int)))) = true →
                                IntKind.u16 = IntKind.u16 ∧
                                  IntKind.u16.wrap
                                      (IntKind.u16.wrap
                                          (IntKind.u16.wrap
                                              (IntKind.u16.wrap (IntKind.u16.wrap (w.tdiv (256 : Int)) * (256 : Int)) +
                                                (16 : Int)) +
                                            (2 : Int)) +
                                        (4 : Int)) =
                                    stV n w) ∧
                              ((ln n == IntKind.i64.wrap (IntKind.u16.wrap (w.tdiv (256 : Int)))) = false →
                                IntKind.u16 = IntKind.u16 ∧
                                  IntKind.u16.wrap
                                      (IntKind.u16.wrap
                                          (IntKind.u16.wrap (IntKind.u16.wrap (w.tdiv (256 : Int)) * (256 : Int)) +
                                            (16 : Int)) +
                                        (2 : Int)) =
                                    stV n w)) ∧
                          (decide (pl n ≥ (960 : Int)) = false →
                            ((ln n == IntKind.i64.wrap (IntKind.u16.wrap (w.tdiv (256 : Int)))) = true →
                                IntKind.u16 = IntKind.u16 ∧
                                  IntKind.u16.wrap
                                      (IntKind.u16.wrap
                                          (IntKind.u16.wrap (IntKind.u16.wrap (w.tdiv (256 : Int)) * (256 : Int)) +
                                            (16 : Int)) +
                                        (4 : Int)) =
                                    stV n w) ∧
                              ((ln n == IntKind.i64.wrap (IntKind.u16.wrap (w.tdiv (256 : Int)))) = false →
                                IntKind.u16 = IntKind.u16 ∧
                                  IntKind.u16.wrap
                                      (IntKind.u16.wrap (IntKind.u16.wrap (w.tdiv (256 : Int)) * (256 : Int)) + (16 : Int)) =
                                    stV n w))))) ∧
              (((w.fdiv (16 : Int)).tmod (2 : Int) == (1 : Int)) = false →
                (((w.fdiv (32 : Int)).tmod (2 : Int) == (1 : Int)) = true →
                    (decide (ln n ≥ (160 : Int)) = true →
                        (decide (ln n ≤ (226 : Int)) = true →
                            (decide (pl n ≥ (960 : Int)) = true →
                                ((ln n == IntKind.i64.wrap (IntKind.u16.wrap (w.tdiv (256 : Int)))) = true →
                                    IntKind.u16 = IntKind.u16 ∧
                                      IntKind.u16.wrap
                                          (IntKind.u16.wrap
                                              (IntKind.u16.wrap
                                                  (IntKind.u16.wrap
                                                      (IntKind.u16.wrap
                                                          (IntKind.u16.wrap (w.tdiv (256 : Int)) * (256 : Int)) +
                                                        (32 : Int)) +
                                                    (1 : Int)) +
                                                (2 : Int)) +
                                            (4 : Int)) =
                                        stV n w) ∧
                                  ((ln n == IntKind.i64.wrap (IntKind.u16.wrap (w.tdiv (256 : Int)))) = false →
                                    IntKind.u16 = IntKind.u16 ∧
                                      IntKind.u16.wrap
                                          (IntKind.u16.wrap
                                              (IntKind.u16.wrap
                                                  (IntKind.u16.wrap (IntKind.u16.wrap (w.tdiv (256 : Int)) * (256 : Int)) +
                                                    (32 : Int)) +
                                                (1 : Int)) +
                                            (2 : Int)) =
                                        stV n w)) ∧
                              (decide (pl n ≥ (960 : Int)) = false →
                                ((ln n == IntKind.i64.wrap (IntKind.u16.wrap (w.tdiv (256 : Int)))) = true →
                                    IntKind.u16 = IntKind.u16 ∧
                                      IntKind.u16.wrap
                                          (IntKind.u16.wrap
                                              (IntKind.u16.wrap
                                                  (IntKind.u16.wrap (IntKind.u16.wrap (w.tdiv (256 : Int)) * (256 : Int)) +
                                                    (32 : Int)) +
                                                (1 : Int)) +
                                            (4 : Int)) =
                                        stV n w) ∧
                                  ((ln n == IntKind.i64.wrap (IntKind.u16.wrap (w.tdiv (256 : Int)))) = false →
                                    IntKind.u16 = IntKind.u16 ∧
                                      IntKind.u16.wrap
                                          (IntKind.u16.wrap
                                              (IntKind.u16.wrap (IntKind.u16.wrap (w.tdiv (256 : Int)) * (256 : Int)) +
                                                (32 : Int)) +
                                            (1 : Int)) =
                                        stV n w))) ∧
                          (decide (ln n ≤ (226 : Int)) = false →
                            (decide (pl n ≥ (960 : Int)) = true →
                                ((ln n == IntKind.i64.wrap (IntKind.u16.wrap (w.tdiv (256 : Int)))) = true →
                                    IntKind.u16 = IntKind.u16 ∧
                                      IntKind.u16.wrap
                                          (IntKind.u16.wrap
                                              (IntKind.u16.wrap
                                                  (IntKind.u16.wrap (IntKind.u16.wrap (w.tdiv (256 : Int)) * (256 : Int)) +
                                                    (32 : Int)) +
                                                (2 : Int)) +
                                            (4 : Int)) =
                                        stV n w) ∧
                                  ((ln n == IntKind.i64.wrap (IntKind.u16.wrap (w.tdiv (256 : Int)))) = false →
                                    IntKind.u16 = IntKind.u16 ∧
                                      IntKind.u16.wrap
                                          (IntKind.u16.wrap
                                              (IntKind.u16.wrap (IntKind.u16.wrap (w.tdiv (256 : Int)) * (256 : Int)) +
                                                (32 : Int)) +
                                            (2 : Int)) =
                                        stV n w)) ∧
                              (decide (pl n ≥ (960 : Int)) = false →
                                ((ln n == IntKind.i64.wrap (IntKind.u16.wrap (w.tdiv (256 : Int)))) = true →
                                    IntKind.u16 = IntKind.u16 ∧
                                      IntKind.u16.wrap
                                          (IntKind.u16.wrap
                                              (IntKind.u16.wrap (IntKind.u16.wrap (w.tdiv (256 : Int)) * (256 : Int)) +
                                                (32 : Int)) +
                                            (4 : Int)) =
                                        stV n w) ∧
                                  ((ln n == IntKind.i64.wrap (IntKind.u16.wrap (w.tdiv (256 : Int)))) = false →
                                    IntKind.u16 = IntKind.u16 ∧
                                      IntKind.u16.wrap
                                          (IntKind.u16.wrap (IntKind.u16.wrap (w.tdiv (256 : Int)) * (256 : Int)) +
                                            (32 : Int)) =
                                        stV n w)))) ∧
                      (decide (ln n ≥ (160 : Int)) = false →
                        (decide (pl n ≥ (960 : Int)) = true →
                            ((ln n == IntKind.i64.wrap (IntKind.u16.wrap (w.tdiv (256 : Int)))) = true →
                                IntKind.u16 = IntKind.u16 ∧
                                  IntKind.u16.wrap
                                      (IntKind.u16.wrap
                                          (IntKind.u16.wrap
                                              (IntKind.u16.wrap (IntKind.u16.wrap (w.tdiv (256 : Int)) * (256 : Int)) +
                                                (32 : Int)) +
                                            (2 : Int)) +
                                        (4 : Int)) =
                                    stV n w) ∧
                              ((ln n == IntKind.i64.wrap (IntKind.u16.wrap (w.tdiv (256 : Int)))) = false →
                                IntKind.u16 = IntKind.u16 ∧
                                  IntKind.u16.wrap
                                      (IntKind.u16.wrap
                                          (IntKind.u16.wrap (IntKind.u16.wrap (w.tdiv (256 : Int)) * (256 : Int)) +
                                            (32 : Int)) +
                                        (2 : Int)) =
                                    stV n w)) ∧
                          (decide (pl n ≥ (960 : Int)) = false →
                            ((ln n == IntKind.i64.wrap (IntKind.u16.wrap (w.tdiv (256 : Int)))) = true →
                                IntKind.u16 = IntKind.u16 ∧
                                  IntKind.u16.wrap
                                      (IntKind.u16.wrap
                                          (IntKind.u16.wrap (IntKind.u16.wrap (w.tdiv (256 : Int)) * (256 : Int)) +
                                            (32 : Int)) +
                                        (4 : Int)) =
                                    stV n w) ∧
                              ((ln n == IntKind.i64.wrap (IntKind.u16.wrap (w.tdiv (256 : Int)))) = false →
                                IntKind.u16 = IntKind.u16 ∧
                                  IntKind.u16.wrap
                                      (IntKind.u16.wrap (IntKind.u16.wrap (w.tdiv (256 : Int)) * (256 : Int)) + (32 : Int)) =
                                    stV n w)))) ∧
                  (((w.fdiv (32 : Int)).tmod (2 : Int) == (1 : Int)) = false →
                    (decide (ln n ≥ (160 : Int)) = true →
                        (decide (ln n ≤ (226 : Int)) = true →
                            (decide (pl n ≥ (960 : Int)) = true →
                                ((ln n == IntKind.i64.wrap (IntKind.u16.wrap (w.tdiv (256 : Int)))) = true →
                                    IntKind.u16 = IntKind.u16 ∧
                                      IntKind.u16.wrap
                                          (IntKind.u16.wrap
                                              (IntKind.u16.wrap
                                                  (IntKind.u16.wrap (IntKind.u16.wrap (w.tdiv (256 : Int)) * (256 : Int)) +
                                                    (1 : Int)) +
                                                (2 : Int)) +
                                            (4 : Int)) =
                                        stV n w) ∧
                                  ((ln n == IntKind.i64.wrap (IntKind.u16.wrap (w.tdiv (256 : Int)))) = false →
                                    IntKind.u16 = IntKind.u16 ∧
                                      IntKind.u16.wrap
                                          (IntKind.u16.wrap
                                              (IntKind.u16.wrap (IntKind.u16.wrap (w.tdiv (256 : Int)) * (256 : Int)) +
                                                (1 : Int)) +
                                            (2 : Int)) =
                                        stV n w)) ∧
                              (decide (pl n ≥ (960 : Int)) = false →
                                ((ln n == IntKind.i64.wrap (IntKind.u16.wrap (w.tdiv (256 : Int)))) = true →
                                    IntKind.u16 = IntKind.u16 ∧
                                      IntKind.u16.wrap
                                          (IntKind.u16.wrap
                                              (IntKind.u16.wrap (IntKind.u16.wrap (w.tdiv (256 : Int)) * (256 : Int)) +
                                                (1 : Int)) +
                                            (4 : Int)) =
                                        stV n w) ∧
                                  ((ln n == IntKind.i64.wrap (IntKind.u16.wrap (w.tdiv (256 : Int)))) = false →
                                    IntKind.u16 = IntKind.u16 ∧
                                      IntKind.u16.wrap
                                          (IntKind.u16.wrap (IntKind.u16.wrap (w.tdiv (256 : Int)) * (256 : Int)) +
                                            (1 : Int)) =
                                        stV n w))) ∧
                          (decide (ln n ≤ (226 : Int)) = false →
                            (decide (pl n ≥ (960 : Int)) = true →
                                ((ln n == IntKind.i64.wrap (IntKind.u16.wrap (w.tdiv (256 : Int)))) = true →
                                    IntKind.u16 = IntKind.u16 ∧
                                      IntKind.u16.wrap
                                          (IntKind.u16.wrap
                                              (IntKind.u16.wrap (IntKind.u16.wrap (w.tdiv (256 : Int)) * (256 : Int)) +
                                                (2 : Int)) +
                                            (4 : Int)) =
                                        stV n w) ∧
                                  ((ln n == IntKind.i64.wrap (IntKind.u16.wrap (w.tdiv (256 : Int)))) = false →
                                    IntKind.u16 = IntKind.u16 ∧
                                      IntKind.u16.wrap
                                          (IntKind.u16.wrap (IntKind.u16.wrap (w.tdiv (256 : Int)) * (256 : Int)) +
                                            (2 : Int)) =
                                        stV n w)) ∧
                              (decide (pl n ≥ (960 : Int)) = false →
                                ((ln n == IntKind.i64.wrap (IntKind.u16.wrap (w.tdiv (256 : Int)))) = true →
                                    IntKind.u16 = IntKind.u16 ∧
                                      IntKind.u16.wrap
                                          (IntKind.u16.wrap (IntKind.u16.wrap (w.tdiv (256 : Int)) * (256 : Int)) +
                                            (4 : Int)) =
                                        stV n w) ∧
                                  ((ln n == IntKind.i64.wrap (IntKind.u16.wrap (w.tdiv (256 : Int)))) = false →
                                    IntKind.u16 = IntKind.u16 ∧
                                      IntKind.u16.wrap (IntKind.u16.wrap (w.tdiv (256 : Int)) * (256 : Int)) = stV n w)))) ∧
                      (decide (ln n ≥ (160 : Int)) = false →
                        (decide (pl n ≥ (960 : Int)) = true →
                            ((ln n == IntKind.i64.wrap (IntKind.u16.wrap (w.tdiv (256 : Int)))) = true →
                                IntKind.u16 = IntKind.u16 ∧
                                  IntKind.u16.wrap
                                      (IntKind.u16.wrap
                                          (IntKind.u16.wrap (IntKind.u16.wrap (w.tdiv (256 : Int)) * (256 : Int)) +
                                            (2 : Int)) +
                                        (4 : Int)) =
                                    stV n w) ∧
                              ((ln n == IntKind.i64.wrap (IntKind.u16.wrap (w.tdiv (256 : Int)))) = false →
                                IntKind.u16 = IntKind.u16 ∧
                                  IntKind.u16.wrap
                                      (IntKind.u16.wrap (IntKind.u16.wrap (w.tdiv (256 : Int)) * (256 : Int)) + (2 : Int)) =
                                    stV n w)) ∧
                          (decide (pl n ≥ (960 : Int)) = false →
                            ((ln n == IntKind.i64.wrap (IntKind.u16.wrap (w.tdiv (256 : Int)))) = true →
                                IntKind.u16 = IntKind.u16 ∧
                                  IntKind.u16.wrap
                                      (IntKind.u16.wrap (IntKind.u16.wrap (w.tdiv (256 : Int)) * (256 : Int)) + (4 : Int)) =
                                    stV n w) ∧
                              ((ln n == IntKind.i64.wrap (IntKind.u16.wrap (w.tdiv (256 : Int)))) = false →
                                IntKind.u16 = IntKind.u16 ∧
                                  IntKind.u16.wrap (IntKind.u16.wrap (w.tdiv (256 : Int)) * (256 : Int)) = stV n w))))))) := by kernel_rfl
theorem as_p (n w : Int) :
    (conP (.c (.i false .u16 (asV n w))) (fnTree Try.prog orc1 (tabL fns) 1000 Try.f14 [.c (.i false .i64 n), .c (.i false .u16 w)] [])) =
    (low n = true ∧
        ((pl n == (0 : Int)) = true →
            ((ln n == (160 : Int)) = true →
                ((bits BinOp.and IntKind.u16 w (8 : Int) != (0 : Int)) = true →
                    ((ln n == IntKind.i64.wrap (w.fdiv (256 : Int))) = true →
                        ((bits BinOp.and IntKind.u16 w (32 : Int) != (0 : Int)) = true →
                            IntKind.u16 = IntKind.u16 ∧ (5 : Int) = asV n w) ∧
                          ((bits BinOp.and IntKind.u16 w (32 : Int) != (0 : Int)) = false →
                            IntKind.u16 = IntKind.u16 ∧ (1 : Int) = asV n w)) ∧
                      ((ln n == IntKind.i64.wrap (w.fdiv (256 : Int))) = false →
                        IntKind.u16 = IntKind.u16 ∧ (1 : Int) = asV n w)) ∧
                  ((bits BinOp.and IntKind.u16 w (8 : Int) != (0 : Int)) = false →
                    ((ln n == IntKind.i64.wrap (w.fdiv (256 : Int))) = true →
                        ((bits BinOp.and IntKind.u16 w (32 : Int) != (0 : Int)) = true →
                            IntKind.u16 = IntKind.u16 ∧ (4 : Int) = asV n w) ∧
                          ((bits BinOp.and IntKind.u16 w (32 : Int) != (0 : Int)) = false →
                            IntKind.u16 = IntKind.u16 ∧ (0 : Int) = asV n w)) ∧
                      ((ln n == IntKind.i64.wrap (w.fdiv (256 : Int))) = false →
                        IntKind.u16 = IntKind.u16 ∧ (0 : Int) = asV n w))) ∧
              ((ln n == (160 : Int)) = false →
                ((ln n == IntKind.i64.wrap (w.fdiv (256 : Int))) = true →
                    ((bits BinOp.and IntKind.u16 w (32 : Int) != (0 : Int)) = true →
                        IntKind.u16 = IntKind.u16 ∧ (4 : Int) = asV n w) ∧
                      ((bits BinOp.and IntKind.u16 w (32 : Int) != (0 : Int)) = false →
                        IntKind.u16 = IntKind.u16 ∧ (0 : Int) = asV n w)) ∧
                  ((ln n == IntKind.i64.wrap (w.fdiv (256 : Int))) = false →
                    IntKind.u16 = IntKind.u16 ∧ (0 : Int) = asV n w))) ∧
          ((pl n == (0 : Int)) = false →
            ((pl n == (960 : Int)) = true →
                ((bits BinOp.and IntKind.u16 w (16 : Int) != (0 : Int)) = true →
                    IntKind.u16 = IntKind.u16 ∧ (2 : Int) = asV n w) ∧
                  ((bits BinOp.and IntKind.u16 w (16 : Int) != (0 : Int)) = false →
                    IntKind.u16 = IntKind.u16 ∧ (0 : Int) = asV n w)) ∧
              ((pl n == (960 : Int)) = false → IntKind.u16 = IntKind.u16 ∧ (0 : Int) = asV n w))) := by kernel_rfl
theorem ras_p (n w : Int) :
    (conP (.c (.i false .u16 (asV n w))) (fnTree Try.prog orc1 (tabL fns) 1000 Try.f15 [.c (.i false .i64 n), .c (.i false .u16 w)] [])) =
    (low n = true ∧
        ((pl n == (0 : Int)) = true →
            ((ln n == (160 : Int)) = true →
                (((w.fdiv (8 : Int)).tmod (2 : Int) == (1 : Int)) = true →
                    ((pl n == (960 : Int)) = true →
                        (((w.fdiv (16 : Int)).tmod (2 : Int) == (1 : Int)) = true →
                            ((pl n == (0 : Int)) = true →
                                ((ln n == IntKind.i64.wrap (IntKind.u16.wrap (w.tdiv (256 : Int)))) = true →
                                    (((w.fdiv (32 : Int)).tmod (2 : Int) == (1 : Int)) = true →
                                        IntKind.u16 = IntKind.u16 ∧ (7 : Int) = asV n w) ∧
                                      (((w.fdiv (32 : Int)).tmod (2 : Int) == (1 : Int)) = false →
                                        IntKind.u16 = IntKind.u16 ∧ (3 : Int) = asV n w)) ∧
                                  ((ln n == IntKind.i64.wrap (IntKind.u16.wrap (w.tdiv (256 : Int)))) = false →
                                    IntKind.u16 = IntKind.u16 ∧ (3 : Int) = asV n w)) ∧
                              ((pl n == (0 : Int)) = false → IntKind.u16 = IntKind.u16 ∧ (3 : Int) = asV n w)) ∧
                          (((w.fdiv (16 : Int)).tmod (2 : Int) == (1 : Int)) = false →
                            ((pl n == (0 : Int)) = true →
                                ((ln n == IntKind.i64.wrap (IntKind.u16.wrap (w.tdiv (256 : Int)))) = true →
                                    (((w.fdiv (32 : Int)).tmod (2 : Int) == (1 : Int)) = true →
                                        IntKind.u16 = IntKind.u16 ∧ (5 : Int) = asV n w) ∧
                                      (((w.fdiv (32 : Int)).tmod (2 : Int) == (1 : Int)) = false →
                                        IntKind.u16 = IntKind.u16 ∧ (1 : Int) = asV n w)) ∧
                                  ((ln n == IntKind.i64.wrap (IntKind.u16.wrap (w.tdiv (256 : Int)))) = false →
                                    IntKind.u16 = IntKind.u16 ∧ (1 : Int) = asV n w)) ∧
                              ((pl n == (0 : Int)) = false → IntKind.u16 = IntKind.u16 ∧ (1 : Int) = asV n w))) ∧
                      ((pl n == (960 : Int)) = false →
                        ((pl n == (0 : Int)) = true →
                            ((ln n == IntKind.i64.wrap (IntKind.u16.wrap (w.tdiv (256 : Int)))) = true →
                                (((w.fdiv (32 : Int)).tmod (2 : Int) == (1 : Int)) = true →
                                    IntKind.u16 = IntKind.u16 ∧ (5 : Int) = asV n w) ∧
                                  (((w.fdiv (32 : Int)).tmod (2 : Int) == (1 : Int)) = false →
                                    IntKind.u16 = IntKind.u16 ∧ (1 : Int) = asV n w)) ∧
                              ((ln n == IntKind.i64.wrap (IntKind.u16.wrap (w.tdiv (256 : Int)))) = false →
                                IntKind.u16 = IntKind.u16 ∧ (1 : Int) = asV n w)) ∧
                          ((pl n == (0 : Int)) = false → IntKind.u16 = IntKind.u16 ∧ (1 : Int) = asV n w))) ∧
                  (((w.fdiv (8 : Int)).tmod (2 : Int) == (1 : Int)) = false →
                    ((pl n == (960 : Int)) = true →
                        (((w.fdiv (16 : Int)).tmod (2 : Int) == (1 : Int)) = true →
                            ((pl n == (0 : Int)) = true →
                                ((ln n == IntKind.i64.wrap (IntKind.u16.wrap (w.tdiv (256 : Int)))) = true →
                                    (((w.fdiv (32 : Int)).tmod (2 : Int) == (1 : Int)) = true →
                                        IntKind.u16 = IntKind.u16 ∧ (6 : Int) = asV n w) ∧
                                      (((w.fdiv (32 : Int)).tmod (2 : Int) == (1 : Int)) = false →
                                        IntKind.u16 = IntKind.u16 ∧ (2 : Int) = asV n w)) ∧
                                  ((ln n == IntKind.i64.wrap (IntKind.u16.wrap (w.tdiv (256 : Int)))) = false →
                                    IntKind.u16 = IntKind.u16 ∧ (2 : Int) = asV n w)) ∧
                              ((pl n == (0 : Int)) = false → IntKind.u16 = IntKind.u16 ∧ (2 : Int) = asV n w)) ∧
                          (((w.fdiv (16 : Int)).tmod (2 : Int) == (1 : Int)) = false →
                            ((pl n == (0 : Int)) = true →
                                ((ln n == IntKind.i64.wrap (IntKind.u16.wrap (w.tdiv (256 : Int)))) = true →
                                    (((w.fdiv (32 : Int)).tmod (2 : Int) == (1 : Int)) = true →
                                        IntKind.u16 = IntKind.u16 ∧ (4 : Int) = asV n w) ∧
                                      (((w.fdiv (32 : Int)).tmod (2 : Int) == (1 : Int)) = false →
                                        IntKind.u16 = IntKind.u16 ∧ (0 : Int) = asV n w)) ∧
                                  ((ln n == IntKind.i64.wrap (IntKind.u16.wrap (w.tdiv (256 : Int)))) = false →
                                    IntKind.u16 = IntKind.u16 ∧ (0 : Int) = asV n w)) ∧
                              ((pl n == (0 : Int)) = false → IntKind.u16 = IntKind.u16 ∧ (0 : Int) = asV n w))) ∧
                      ((pl n == (960 : Int)) = false →
                        ((pl n == (0 : Int)) = true →
                            ((ln n == IntKind.i64.wrap (IntKind.u16.wrap (w.tdiv (256 : Int)))) = true →
                                (((w.fdiv (32 : Int)).tmod (2 : Int) == (1 : Int)) = true →
                                    IntKind.u16 = IntKind.u16 ∧ (4 : Int) = asV n w) ∧
                                  (((w.fdiv (32 : Int)).tmod (2 : Int) == (1 : Int)) = false →
                                    IntKind.u16 = IntKind.u16 ∧ (0 : Int) = asV n w)) ∧
                              ((ln n == IntKind.i64.wrap (IntKind.u16.wrap (w.tdiv (256 : Int)))) = false →
                                IntKind.u16 = IntKind.u16 ∧ (0 : Int) = asV n w)) ∧
                          ((pl n == (0 : Int)) = false → IntKind.u16 = IntKind.u16 ∧ (0 : Int) = asV n w)))) ∧
              ((ln n == (160 : Int)) = false →
                ((pl n == (960 : Int)) = true →
                    (((w.fdiv (16 : Int)).tmod (2 : Int) == (1 : Int)) = true →
                        ((pl n == (0 : Int)) = true →
                            ((ln n == IntKind.i64.wrap (IntKind.u16.wrap (w.tdiv (256 : Int)))) = true →
                                (((w.fdiv (32 : Int)).tmod (2 : Int) == (1 : Int)) = true →
                                    IntKind.u16 = IntKind.u16 ∧ (6 : Int) = asV n w) ∧
                                  (((w.fdiv (32 : Int)).tmod (2 : Int) == (1 : Int)) = false →
                                    IntKind.u16 = IntKind.u16 ∧ (2 : Int) = asV n w)) ∧
                              ((ln n == IntKind.i64.wrap (IntKind.u16.wrap (w.tdiv (256 : Int)))) = false →
                                IntKind.u16 = IntKind.u16 ∧ (2 : Int) = asV n w)) ∧
                          ((pl n == (0 : Int)) = false → IntKind.u16 = IntKind.u16 ∧ (2 : Int) = asV n w)) ∧
                      (((w.fdiv (16 : Int)).tmod (2 : Int) == (1 : Int)) = false →
                        ((pl n == (0 : Int)) = true →
                            ((ln n == IntKind.i64.wrap (IntKind.u16.wrap (w.tdiv (256 : Int)))) = true →
                                (((w.fdiv (32 : Int)).tmod (2 : Int) == (1 : Int)) = true →
                                    IntKind.u16 = IntKind.u16 ∧ (4 : Int) = asV n w) ∧
                                  (((w.fdiv (32 : Int)).tmod (2 : Int) == (1 : Int)) = false →
                                    IntKind.u16 = IntKind.u16 ∧ (0 : Int) = asV n w)) ∧
                              ((ln n == IntKind.i64.wrap (IntKind.u16.wrap (w.tdiv (256 : Int)))) = false →
                                IntKind.u16 = IntKind.u16 ∧ (0 : Int) = asV n w)) ∧
                          ((pl n == (0 : Int)) = false → IntKind.u16 = IntKind.u16 ∧ (0 : Int) = asV n w))) ∧
                  ((pl n == (960 : Int)) = false →
                    ((pl n == (0 : Int)) = true →
                        ((ln n == IntKind.i64.wrap (IntKind.u16.wrap (w.tdiv (256 : Int)))) = true →
                            (((w.fdiv (32 : Int)).tmod (2 : Int) == (1 : Int)) = true →
                                IntKind.u16 = IntKind.u16 ∧ (4 : Int) = asV n w) ∧
                              (((w.fdiv (32 : Int)).tmod (2 : Int) == (1 : Int)) = false →
                                IntKind.u16 = IntKind.u16 ∧ (0 : Int) = asV n w)) ∧
                          ((ln n == IntKind.i64.wrap (IntKind.u16.wrap (w.tdiv (256 : Int)))) = false →
                            IntKind.u16 = IntKind.u16 ∧ (0 : Int) = asV n w)) ∧
                      ((pl n == (0 : Int)) = false → IntKind.u16 = IntKind.u16 ∧ (0 : Int) = asV n w)))) ∧
          ((pl n == (0 : Int)) = false →
            ((pl n == (960 : Int)) = true →
                (((w.fdiv (16 : Int)).tmod (2 : Int) == (1 : Int)) = true →
                    ((pl n == (0 : Int)) = true →
                        ((ln n == IntKind.i64.wrap (IntKind.u16.wrap (w.tdiv (256 : Int)))) = true →
                            (((w.fdiv (32 : Int)).tmod (2 : Int) == (1 : Int)) = true →
                                IntKind.u16 = IntKind.u16 ∧ (6 : Int) = asV n w) ∧
                              (((w.fdiv (32 : Int)).tmod (2 : Int) == (1 : Int)) = false →
                                IntKind.u16 = IntKind.u16 ∧ (2 : Int) = asV n w)) ∧
                          ((ln n == IntKind.i64.wrap (IntKind.u16.wrap (w.tdiv (256 : Int)))) = false →
                            IntKind.u16 = IntKind.u16 ∧ (2 : Int) = asV n w)) ∧
                      ((pl n == (0 : Int)) = false → IntKind.u16 = IntKind.u16 ∧ (2 : Int) = asV n w)) ∧
                  (((w.fdiv (16 : Int)).tmod (2 : Int) == (1 : Int)) = false →
                    ((pl n == (0 : Int)) = true →
                        ((ln n == IntKind.i64.wrap (IntKind.u16.wrap (w.tdiv (256 : Int)))) = true →
                            (((w.fdiv (32 : Int)).tmod (2 : Int) == (1 : Int)) = true →
                                IntKind.u16 = IntKind.u16 ∧ (4 : Int) = asV n w) ∧
                              (((w.fdiv (32 : Int)).tmod (2 : Int) == (1 : Int)) = false →
                                IntKind.u16 = IntKind.u16 ∧ (0 : Int) = asV n w)) ∧
                          ((ln n == IntKind.i64.wrap (IntKind.u16.wrap (w.tdiv (256 : Int)))) = false →
                            IntKind.u16 = IntKind.u16 ∧ (0 : Int) = asV n w)) ∧
                      ((pl n == (0 : Int)) = false → IntKind.u16 = IntKind.u16 ∧ (0 : Int) = asV n w))) ∧
              ((pl n == (960 : Int)) = false →
                ((pl n == (0 : Int)) = true →
                    ((ln n == IntKind.i64.wrap (IntKind.u16.wrap (w.tdiv (256 : Int)))) = true →
                        (((w.fdiv (32 : Int)).tmod (2 : Int) == (1 : Int)) = true →
                            IntKind.u16 = IntKind.u16 ∧ (4 : Int) = asV n w) ∧
                          (((w.fdiv (32 : Int)).tmod (2 : Int) == (1 : Int)) = false →
                            IntKind.u16 = IntKind.u16 ∧ (0 : Int) = asV n w)) ∧
                      ((ln n == IntKind.i64.wrap (IntKind.u16.wrap (w.tdiv (256 : Int)))) = false →
                        IntKind.u16 = IntKind.u16 ∧ (0 : Int) = asV n w)) ∧
                  ((pl n == (0 : Int)) = false → IntKind.u16 = IntKind.u16 ∧ (0 : Int) = asV n w)))) := by kernel_rfl
end Go.Proofs.Ytfjenbfklpiopaa

