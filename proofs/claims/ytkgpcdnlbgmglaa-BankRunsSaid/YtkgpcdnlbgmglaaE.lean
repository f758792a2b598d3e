import Derived.Test.YtkgpcdnlbgmglaaB
set_option linter.unusedVariables false
set_option linter.unusedSimpArgs false
namespace Go.Proofs.Ytkgpcdnlbgmglaa
open Go Go.Proofs Go.Proofs.Ytkgpcdnlbgmglaa.Ev
def ofL : List C → Nat → Int
  | .i _ _ v :: _, 0 => v
  | _ :: l, j + 1 => ofL l j
  | _, _ => 0
def wfL : Nat → List C → Bool
  | 0, [] => true
  | n + 1, .i false .u32 _ :: l => wfL n l
  | _, _ => false
def unL (f : Nat → Int) : Nat → Nat → List C
  | 0, _ => []
  | n + 1, j => .i false .u32 (f j) :: unL f n (j + 1)
theorem unL_ext (f g : Nat → Int) : ∀ n j k, (∀ m, m < n → f (j + m) = g (k + m)) → unL f n j = unL g n k
  | 0, _, _, _ => rfl
  | n + 1, j, k, h => by
    have h0 : f j = g k := h 0 (by omega)
    rw [unL, unL, h0, unL_ext f g n (j + 1) (k + 1) (fun m hm => by
      have := h (m + 1) (by omega)
      rwa [show j + 1 + m = j + (m + 1) by omega, show k + 1 + m = k + (m + 1) by omega])]
theorem wfL_eq : ∀ n l, wfL n l = true → l = unL (ofL l) n 0
  | 0, [], _ => rfl
  | 0, _ :: _, h => by simp [wfL] at h
  | n + 1, l, h => by
    unfold wfL at h
    split at h
    · omega
    · rename_i v l' hn
      cases hn
      rw [unL]
      congr 1
      rw [← unL_ext (ofL l') (ofL (.i false .u32 v :: l')) n 0 (0 + 1) (fun m _ => by rw [show 0 + 1 + m = m + 1 by omega, show 0 + m = m by omega]; rfl)]
      exact wfL_eq n l' h
    · cases h
theorem bk_eq (l : List C) (h : wfL 45 l = true) : l = bk (ofL l) := wfL_eq 45 l h
def opB (l : List C) (S : SW) : FuncId → List SV → Option (Tree (SV × SW)) := fun g vs => match g, vs with
  | 19, [.c (.p 0 0), .c (.i _ .i64 i)] => some (.leaf (.c (.i false .u32 (getV (ofL l) i)), ⟨l, 59⟩ :: S))
  | 17, [.c (.p 0 0)] => some (.leaf (.c (.i false .u32 (savV (ofL l))), ⟨l, 59⟩ :: S))
  | 28, [.c (.p 0 0), .c (.i _ .i64 i), .c (.i _ .u32 x)] => some (.leaf (.t [], ⟨bk (setC (ofL l) i x), 59⟩ :: S))
  | 29, [.c (.p 0 0), .c (.i _ .u32 x)] => some (.leaf (.t [], ⟨bk (setSv (ofL l) x), 59⟩ :: S))
  | 21, [.c (.p 0 0), .c (.i _ .i64 i)] => some (.leaf (.c (.i false .u32 (userV (ofL l) i)), ⟨l, 59⟩ :: S))
  | 23, [.c (.p 0 0), .c (.i _ .u32 x)] => some (.leaf (.t [], ⟨bk (setSt (ofL l) x), 59⟩ :: S))
  | 30, [.c (.p 0 0), .c (.i _ .i64 i), .c (.i _ .u32 x)] => some (.leaf (.t [], ⟨bk (setU (ofL l) i x), 59⟩ :: S))
  | _, _ => none
theorem opB_ok {E : World} (c : Nat → Int) {l : List C} {S : SW} {g : FuncId} {vs : List SV} {t : Tree (SV × SW)} (hl : l = bk (ofL l)) (h : opB l S g vs = some t) : CallTree (pe E) g vs (⟨l, 59⟩ :: S) t := by
  unfold opB at h
  split at h
  · cases h
    rename_i _ i
    refine CallTree.args (vs' := [.c (.p 0 0), .c (.i false .i64 i)]) (by simp [simL, SV.sim, S1.sim, C.sim]) ?_
    have K : ∀ d, l = bk d → CallTree (pe E) 19 [.c (.p 0 0), .c (.i false .i64 i)] (⟨l, 59⟩ :: S) (.leaf (.c (.i false .u32 (getV d i)), ⟨l, 59⟩ :: S)) := by
      intro d e
      rw [e]
      exact get_c E i d S
    exact K _ hl
  · cases h
    refine CallTree.args (vs' := [.c (.p 0 0)]) (by simp [simL, SV.sim, S1.sim, C.sim]) ?_
    have K : ∀ d, l = bk d → CallTree (pe E) 17 [.c (.p 0 0)] (⟨l, 59⟩ :: S) (.leaf (.c (.i false .u32 (savV d)), ⟨l, 59⟩ :: S)) := by
      intro d e
      rw [e]
      exact sav_c E  d S
    exact K _ hl
  · cases h
    rename_i _ i _ x
    refine CallTree.args (vs' := [.c (.p 0 0), .c (.i false .i64 i), .c (.i false .u32 x)]) (by simp [simL, SV.sim, S1.sim, C.sim]) ?_
    have K : ∀ d, l = bk d → CallTree (pe E) 28 [.c (.p 0 0), .c (.i false .i64 i), .c (.i false .u32 x)] (⟨l, 59⟩ :: S) (.leaf (.t [], ⟨bk (setC d i x), 59⟩ :: S)) := by
      intro d e
      rw [e]
      exact set_c E i x d S
    exact K _ hl
  · cases h
    rename_i _ x
    refine CallTree.args (vs' := [.c (.p 0 0), .c (.i false .u32 x)]) (by simp [simL, SV.sim, S1.sim, C.sim]) ?_
    have K : ∀ d, l = bk d → CallTree (pe E) 29 [.c (.p 0 0), .c (.i false .u32 x)] (⟨l, 59⟩ :: S) (.leaf (.t [], ⟨bk (setSv d x), 59⟩ :: S)) := by
      intro d e
      rw [e]
      exact ssv_c E x d S
    exact K _ hl
  · cases h
    rename_i _ i
    refine CallTree.args (vs' := [.c (.p 0 0), .c (.i false .i64 i)]) (by simp [simL, SV.sim, S1.sim, C.sim]) ?_
    have K : ∀ d, l = bk d → CallTree (pe E) 21 [.c (.p 0 0), .c (.i false .i64 i)] (⟨l, 59⟩ :: S) (.leaf (.c (.i false .u32 (userV d i)), ⟨l, 59⟩ :: S)) := by
      intro d e
      rw [e]
      exact usr_c E i d S
    exact K _ hl
  · cases h
    rename_i _ x
    refine CallTree.args (vs' := [.c (.p 0 0), .c (.i false .u32 x)]) (by simp [simL, SV.sim, S1.sim, C.sim]) ?_
    have K : ∀ d, l = bk d → CallTree (pe E) 23 [.c (.p 0 0), .c (.i false .u32 x)] (⟨l, 59⟩ :: S) (.leaf (.t [], ⟨bk (setSt d x), 59⟩ :: S)) := by
      intro d e
      rw [e]
      exact sst_c E x d S
    exact K _ hl
  · cases h
    rename_i _ i _ x
    refine CallTree.args (vs' := [.c (.p 0 0), .c (.i false .i64 i), .c (.i false .u32 x)]) (by simp [simL, SV.sim, S1.sim, C.sim]) ?_
    have K : ∀ d, l = bk d → CallTree (pe E) 30 [.c (.p 0 0), .c (.i false .i64 i), .c (.i false .u32 x)] (⟨l, 59⟩ :: S) (.leaf (.t [], ⟨bk (setU d i x), 59⟩ :: S)) := by
      intro d e
      rw [e]
      exact sus_c E i x d S
    exact K _ hl
  · cases h
def orcB (E : World) : Orc := fun g vs s => match s with
  | ⟨l, ty⟩ :: S => cond (Nat.beq ty 59 && wfL 45 l) (match opB l S g vs with | some t => some t | none => orcA E g vs s) (orcA E g vs s)
  | _ => orcA E g vs s
theorem orcB_ok {E : World} : OrcOK (pe E) (orcB E) := by
  intro g vs s t h
  unfold orcB at h
  split at h
  · rename_i l ty S
    cases hb : (Nat.beq ty 59 && wfL 45 l) with
    | false => rw [hb] at h; exact orcA_ok _ _ _ _ h
    | true =>
      rw [hb] at h
      simp only [cond_true] at h
      rw [Bool.and_eq_true] at hb
      obtain rfl : ty = 59 := Nat.eq_of_beq_eq_true hb.1
      split at h
      · rename_i t' ht
        cases h
        exact opB_ok (ofL l) (bk_eq l hb.2) ht
      · exact orcA_ok _ _ _ _ h
  · exact orcA_ok _ _ _ _ h
theorem ofL_un (f : Nat → Int) : ∀ n k j, j < n → ofL (unL f n k) j = f (k + j)
  | 0, _, _, h => by omega
  | n + 1, k, 0, _ => rfl
  | n + 1, k, j + 1, h => by
    rw [show k + (j + 1) = (k + 1) + j by omega, ← ofL_un f n (k + 1) j (by omega)]; rfl
theorem ofL_bk (f : Nat → Int) (j : Nat) (h : j < 45) : ofL (bk f) j = f j := by
  have := ofL_un f 45 0 j h
  rwa [Nat.zero_add] at this
theorem bk_ext (f g : Nat → Int) (h : ∀ j, j < 45 → f j = g j) : bk f = bk g :=
  unL_ext f g 45 0 0 (fun m hm => by rw [Nat.zero_add]; exact h m hm)
theorem md_lt (x : Int) : md x < 6 := by
  unfold md
  cases (bits .and .u32 x 31 == 17) <;> cases (bits .and .u32 x 31 == 18) <;> cases (bits .and .u32 x 31 == 19) <;> cases (bits .and .u32 x 31 == 23) <;> cases (bits .and .u32 x 31 == 27) <;> decide
set_option maxRecDepth 100000 in
theorem pm_lt : ∀ a, a < 6 → ∀ b, b < 6 → ∀ j, j < 45 → pm a b j < 45 := by decide +kernel
theorem setSt_ext (f g : Nat → Int) (x : Int) (h : ∀ j, j < 45 → f j = g j) (j : Nat) (hj : j < 45) : setSt f x j = setSt g x j := by
  unfold setSt
  rw [h 0 (by decide)]
  split
  · rfl
  · exact h _ (pm_lt _ (md_lt _) _ (md_lt _) _ hj)
theorem setSv_ext (f g : Nat → Int) (x : Int) (h : ∀ j, j < 45 → f j = g j) (j : Nat) (hj : j < 45) : setSv f x j = setSv g x j := by
  unfold setSv
  rw [h 0 (by decide), h j hj]
theorem setC_ext (f g : Nat → Int) (i x : Int) (h : ∀ j, j < 45 → f j = g j) (j : Nat) (hj : j < 45) : setC f i x j = setC g i x j := by
  unfold setC
  rw [h j hj]
  simp only [h _ (show 1 < 45 by decide), h _ (show 2 < 45 by decide), h _ (show 3 < 45 by decide), h _ (show 4 < 45 by decide), h _ (show 5 < 45 by decide), h _ (show 6 < 45 by decide), h _ (show 7 < 45 by decide), h _ (show 8 < 45 by decide), h _ (show 9 < 45 by decide), h _ (show 10 < 45 by decide), h _ (show 11 < 45 by decide), h _ (show 12 < 45 by decide), h _ (show 13 < 45 by decide), h _ (show 14 < 45 by decide), h _ (show 15 < 45 by decide), h _ (show 16 < 45 by decide)]
def entW (c : Nat → Int) (m : Int) : Int := bits .or .u32 (bits .or .u32 (bits .andNot .u32 (c 0) 63) (bits .and .u32 m 31)) 128
def entV (c : Nat → Int) (m x : Int) : Nat → Int := setC (setSv (setSt c (entW c m)) (c 0)) 14 x
theorem entL (c : Nat → Int) (m x w : Int) (hw : w = entW c m) (j : Nat) (hj : j < 45) : setC (ofL (bk (setSv (ofL (bk (setSt (ofL (bk c)) w))) (c 0)))) 14 x j = entV c m x j := by
  subst hw
  refine setC_ext _ _ _ _ (fun j hj => ?_) j hj
  rw [ofL_bk _ _ hj]
  refine setSv_ext _ _ _ (fun j hj => ?_) j hj
  rw [ofL_bk _ _ hj]
  exact setSt_ext _ _ _ (fun j hj => ofL_bk c j hj) j hj
theorem ent_p (E : World) (m x : Int) (c : Nat → Int) (S : SW) :
    (conB (.t []) (bk (entV c m x)) 59 S (fnTree (pe E) (orcB E) (tabL fns) 20000 Try.f25 [.c (.p 0 0), .c (.i false .u32 m), .c (.i false .u32 x)] (⟨bk c, 59⟩ :: S))) =
    (True ∧ ((IntKind.u32 = IntKind.u32 ∧ setC (ofL (bk (setSv (ofL (bk (setSt (ofL (bk c)) (bits BinOp.or IntKind.u32 (bits BinOp.or IntKind.u32 (bits BinOp.andNot IntKind.u32
      (c (0 : Nat)) (63 : Int)) (bits BinOp.and IntKind.u32 m (31 : Int))) (128 : Int))))) (c (0 : Nat))))) (14 : Int) x (0 : Nat) = entV c m x (0 : Nat)) ∧ (IntKind.u32 =
      IntKind.u32 ∧ setC (ofL (bk (setSv (ofL (bk (setSt (ofL (bk c)) (bits BinOp.or IntKind.u32 (bits BinOp.or IntKind.u32 (bits BinOp.andNot IntKind.u32 (c (0 : Nat)) (63 :
      Int)) (bits BinOp.and IntKind.u32 m (31 : Int))) (128 : Int))))) (c (0 : Nat))))) (14 : Int) x (1 : Nat) = entV c m x (1 : Nat)) ∧ (IntKind.u32 = IntKind.u32 ∧ setC (ofL
      (bk (setSv (ofL (bk (setSt (ofL (bk c)) (bits BinOp.or IntKind.u32 (bits BinOp.or IntKind.u32 (bits BinOp.andNot IntKind.u32 (c (0 : Nat)) (63 : Int)) (bits BinOp.and
      IntKind.u32 m (31 : Int))) (128 : Int))))) (c (0 : Nat))))) (14 : Int) x (2 : Nat) = entV c m x (2 : Nat)) ∧ (IntKind.u32 = IntKind.u32 ∧ setC (ofL (bk (setSv (ofL (bk
      (setSt (ofL (bk c)) (bits BinOp.or IntKind.u32 (bits BinOp.or IntKind.u32 (bits BinOp.andNot IntKind.u32 (c (0 : Nat)) (63 : Int)) (bits BinOp.and IntKind.u32 m (31 :
      Int))) (128 : Int))))) (c (0 : Nat))))) (14 : Int) x (3 : Nat) = entV c m x (3 : Nat)) ∧ (IntKind.u32 = IntKind.u32 ∧ setC (ofL (bk (setSv (ofL (bk (setSt (ofL (bk c))
      (bits BinOp.or IntKind.u32 (bits BinOp.or IntKind.u32 (bits BinOp.andNot IntKind.u32 (c (0 : Nat)) (63 : Int)) (bits BinOp.and IntKind.u32 m (31 : Int))) (128 : Int)))))
      (c (0 : Nat))))) (14 : Int) x (4 : Nat) = entV c m x (4 : Nat)) ∧ (IntKind.u32 = IntKind.u32 ∧ setC (ofL (bk (setSv (ofL (bk (setSt (ofL (bk c)) (bits BinOp.or IntKind.u32
      (bits BinOp.or IntKind.u32 (bits BinOp.andNot IntKind.u32 (c (0 : Nat)) (63 : Int)) (bits BinOp.and IntKind.u32 m (31 : Int))) (128 : Int))))) (c (0 : Nat))))) (14 : Int)
      x (5 : Nat) = entV c m x (5 : Nat)) ∧ (IntKind.u32 = IntKind.u32 ∧ setC (ofL (bk (setSv (ofL (bk (setSt (ofL (bk c)) (bits BinOp.or IntKind.u32 (bits BinOp.or IntKind.u32
      (bits BinOp.andNot IntKind.u32 (c (0 : Nat)) (63 : Int)) (bits BinOp.and IntKind.u32 m (31 : Int))) (128 : Int))))) (c (0 : Nat))))) (14 : Int) x (6 : Nat) = entV c m x (6
      : Nat)) ∧ (IntKind.u32 = IntKind.u32 ∧ setC (ofL (bk (setSv (ofL (bk (setSt (ofL (bk c)) (bits BinOp.or IntKind.u32 (bits BinOp.or IntKind.u32 (bits BinOp.andNot
      IntKind.u32 (c (0 : Nat)) (63 : Int)) (bits BinOp.and IntKind.u32 m (31 : Int))) (128 : Int))))) (c (0 : Nat))))) (14 : Int) x (7 : Nat) = entV c m x (7 : Nat)) ∧
      (IntKind.u32 = IntKind.u32 ∧ setC (ofL (bk (setSv (ofL (bk (setSt (ofL (bk c)) (bits BinOp.or IntKind.u32 (bits BinOp.or IntKind.u32 (bits BinOp.andNot IntKind.u32 (c (0 :
      Nat)) (63 : Int)) (bits BinOp.and IntKind.u32 m (31 : Int))) (128 : Int))))) (c (0 : Nat))))) (14 : Int) x (8 : Nat) = entV c m x (8 : Nat)) ∧ (IntKind.u32 = IntKind.u32 ∧
      setC (ofL (bk (setSv (ofL (bk (setSt (ofL (bk c)) (bits BinOp.or IntKind.u32 (bits BinOp.or IntKind.u32 (bits BinOp.andNot IntKind.u32 (c (0 : Nat)) (63 : Int)) (bits
      BinOp.and IntKind.u32 m (31 : Int))) (128 : Int))))) (c (0 : Nat))))) (14 : Int) x (9 : Nat) = entV c m x (9 : Nat)) ∧ (IntKind.u32 = IntKind.u32 ∧ setC (ofL (bk (setSv
      (ofL (bk (setSt (ofL (bk c)) (bits BinOp.or IntKind.u32 (bits BinOp.or IntKind.u32 (bits BinOp.andNot IntKind.u32 (c (0 : Nat)) (63 : Int)) (bits BinOp.and IntKind.u32 m
      (31 : Int))) (128 : Int))))) (c (0 : Nat))))) (14 : Int) x (10 : Nat) = entV c m x (10 : Nat)) ∧ (IntKind.u32 = IntKind.u32 ∧ setC (ofL (bk (setSv (ofL (bk (setSt (ofL (bk
      c)) (bits BinOp.or IntKind.u32 (bits BinOp.or IntKind.u32 (bits BinOp.andNot IntKind.u32 (c (0 : Nat)) (63 : Int)) (bits BinOp.and IntKind.u32 m (31 : Int))) (128 :
      Int))))) (c (0 : Nat))))) (14 : Int) x (11 : Nat) = entV c m x (11 : Nat)) ∧ (IntKind.u32 = IntKind.u32 ∧ setC (ofL (bk (setSv (ofL (bk (setSt (ofL (bk c)) (bits BinOp.or
      IntKind.u32 (bits BinOp.or IntKind.u32 (bits BinOp.andNot IntKind.u32 (c (0 : Nat)) (63 : Int)) (bits BinOp.and IntKind.u32 m (31 : Int))) (128 : Int))))) (c (0 : Nat)))))
      (14 : Int) x (12 : Nat) = entV c m x (12 : Nat)) ∧ (IntKind.u32 = IntKind.u32 ∧ setC (ofL (bk (setSv (ofL (bk (setSt (ofL (bk c)) (bits BinOp.or IntKind.u32 (bits BinOp.or
      IntKind.u32 (bits BinOp.andNot IntKind.u32 (c (0 : Nat)) (63 : Int)) (bits BinOp.and IntKind.u32 m (31 : Int))) (128 : Int))))) (c (0 : Nat))))) (14 : Int) x (13 : Nat) =
      entV c m x (13 : Nat)) ∧ (IntKind.u32 = IntKind.u32 ∧ setC (ofL (bk (setSv (ofL (bk (setSt (ofL (bk c)) (bits BinOp.or IntKind.u32 (bits BinOp.or IntKind.u32 (bits
      BinOp.andNot IntKind.u32 (c (0 : Nat)) (63 : Int)) (bits BinOp.and IntKind.u32 m (31 : Int))) (128 : Int))))) (c (0 : Nat))))) (14 : Int) x (14 : Nat) = entV c m x (14 :
      Nat)) ∧ (IntKind.u32 = IntKind.u32 ∧ setC (ofL (bk (setSv (ofL (bk (setSt (ofL (bk c)) (bits BinOp.or IntKind.u32 (bits BinOp.or IntKind.u32 (bits BinOp.andNot IntKind.u32
      (c (0 : Nat)) (63 : Int)) (bits BinOp.and IntKind.u32 m (31 : Int))) (128 : Int))))) (c (0 : Nat))))) (14 : Int) x (15 : Nat) = entV c m x (15 : Nat)) ∧ (IntKind.u32 =
      IntKind.u32 ∧ setC (ofL (bk (setSv (ofL (bk (setSt (ofL (bk c)) (bits BinOp.or IntKind.u32 (bits BinOp.or IntKind.u32 (bits BinOp.andNot IntKind.u32 (c (0 : Nat)) (63 :
      Int)) (bits BinOp.and IntKind.u32 m (31 : Int))) (128 : Int))))) (c (0 : Nat))))) (14 : Int) x (16 : Nat) = entV c m x (16 : Nat)) ∧ (IntKind.u32 = IntKind.u32 ∧ setC (ofL
      (bk (setSv (ofL (bk (setSt (ofL (bk c)) (bits BinOp.or IntKind.u32 (bits BinOp.or IntKind.u32 (bits BinOp.andNot IntKind.u32 (c (0 : Nat)) (63 : Int)) (bits BinOp.and
      IntKind.u32 m (31 : Int))) (128 : Int))))) (c (0 : Nat))))) (14 : Int) x (17 : Nat) = entV c m x (17 : Nat)) ∧ (IntKind.u32 = IntKind.u32 ∧ setC (ofL (bk (setSv (ofL (bk
      (setSt (ofL (bk c)) (bits BinOp.or IntKind.u32 (bits BinOp.or IntKind.u32 (bits BinOp.andNot IntKind.u32 (c (0 : Nat)) (63 : Int)) (bits BinOp.and IntKind.u32 m (31 :
      Int))) (128 : Int))))) (c (0 : Nat))))) (14 : Int) x (18 : Nat) = entV c m x (18 : Nat)) ∧ (IntKind.u32 = IntKind.u32 ∧ setC (ofL (bk (setSv (ofL (bk (setSt (ofL (bk c))
      (bits BinOp.or IntKind.u32 (bits BinOp.or IntKind.u32 (bits BinOp.andNot IntKind.u32 (c (0 : Nat)) (63 : Int)) (bits BinOp.and IntKind.u32 m (31 : Int))) (128 : Int)))))
      (c (0 : Nat))))) (14 : Int) x (19 : Nat) = entV c m x (19 : Nat)) ∧ (IntKind.u32 = IntKind.u32 ∧ setC (ofL (bk (setSv (ofL (bk (setSt (ofL (bk c)) (bits BinOp.or
      IntKind.u32 (bits BinOp.or IntKind.u32 (bits BinOp.andNot IntKind.u32 (c (0 : Nat)) (63 : Int)) (bits BinOp.and IntKind.u32 m (31 : Int))) (128 : Int))))) (c (0 : Nat)))))
      (14 : Int) x (20 : Nat) = entV c m x (20 : Nat)) ∧ (IntKind.u32 = IntKind.u32 ∧ setC (ofL (bk (setSv (ofL (bk (setSt (ofL (bk c)) (bits BinOp.or IntKind.u32 (bits BinOp.or
      IntKind.u32 (bits BinOp.andNot IntKind.u32 (c (0 : Nat)) (63 : Int)) (bits BinOp.and IntKind.u32 m (31 : Int))) (128 : Int))))) (c (0 : Nat))))) (14 : Int) x (21 : Nat) =
      entV c m x (21 : Nat)) ∧ (IntKind.u32 = IntKind.u32 ∧ setC (ofL (bk (setSv (ofL (bk (setSt (ofL (bk c)) (bits BinOp.or IntKind.u32 (bits BinOp.or IntKind.u32 (bits
      BinOp.andNot IntKind.u32 (c (0 : Nat)) (63 : Int)) (bits BinOp.and IntKind.u32 m (31 : Int))) (128 : Int))))) (c (0 : Nat))))) (14 : Int) x (22 : Nat) = entV c m x (22 :
      Nat)) ∧ (IntKind.u32 = IntKind.u32 ∧ setC (ofL (bk (setSv (ofL (bk (setSt (ofL (bk c)) (bits BinOp.or IntKind.u32 (bits BinOp.or IntKind.u32 (bits BinOp.andNot IntKind.u32
      (c (0 : Nat)) (63 : Int)) (bits BinOp.and IntKind.u32 m (31 : Int))) (128 : Int))))) (c (0 : Nat))))) (14 : Int) x (23 : Nat) = entV c m x (23 : Nat)) ∧ (IntKind.u32 =
      IntKind.u32 ∧ setC (ofL (bk (setSv (ofL (bk (setSt (ofL (bk c)) (bits BinOp.or IntKind.u32 (bits BinOp.or IntKind.u32 (bits BinOp.andNot IntKind.u32 (c (0 : Nat)) (63 :
      Int)) (bits BinOp.and IntKind.u32 m (31 : Int))) (128 : Int))))) (c (0 : Nat))))) (14 : Int) x (24 : Nat) = entV c m x (24 : Nat)) ∧ (IntKind.u32 = IntKind.u32 ∧ setC (ofL
      (bk (setSv (ofL (bk (setSt (ofL (bk c)) (bits BinOp.or IntKind.u32 (bits BinOp.or IntKind.u32 (bits BinOp.andNot IntKind.u32 (c (0 : Nat)) (63 : Int)) (bits BinOp.and
      IntKind.u32 m (31 : Int))) (128 : Int))))) (c (0 : Nat))))) (14 : Int) x (25 : Nat) = entV c m x (25 : Nat)) ∧ (IntKind.u32 = IntKind.u32 ∧ setC (ofL (bk (setSv (ofL (bk
      (setSt (ofL (bk c)) (bits BinOp.or IntKind.u32 (bits BinOp.or IntKind.u32 (bits BinOp.andNot IntKind.u32 (c (0 : Nat)) (63 : Int)) (bits BinOp.and IntKind.u32 m (31 :
      Int))) (128 : Int))))) (c (0 : Nat))))) (14 : Int) x (26 : Nat) = entV c m x (26 : Nat)) ∧ (IntKind.u32 = IntKind.u32 ∧ setC (ofL (bk (setSv (ofL (bk (setSt (ofL (bk c))
      (bits BinOp.or IntKind.u32 (bits BinOp.or IntKind.u32 (bits BinOp.andNot IntKind.u32 (c (0 : Nat)) (63 : Int)) (bits BinOp.and IntKind.u32 m (31 : Int))) (128 : Int)))))
      (c (0 : Nat))))) (14 : Int) x (27 : Nat) = entV c m x (27 : Nat)) ∧ (IntKind.u32 = IntKind.u32 ∧ setC (ofL (bk (setSv (ofL (bk (setSt (ofL (bk c)) (bits BinOp.or
      IntKind.u32 (bits BinOp.or IntKind.u32 (bits BinOp.andNot IntKind.u32 (c (0 : Nat)) (63 : Int)) (bits BinOp.and IntKind.u32 m (31 : Int))) (128 : Int))))) (c (0 : Nat)))))
      (14 : Int) x (28 : Nat) = entV c m x (28 : Nat)) ∧ (IntKind.u32 = IntKind.u32 ∧ setC (ofL (bk (setSv (ofL (bk (setSt (ofL (bk c)) (bits BinOp.or IntKind.u32 (bits BinOp.or
      IntKind.u32 (bits BinOp.andNot IntKind.u32 (c (0 : Nat)) (63 : Int)) (bits BinOp.and IntKind.u32 m (31 : Int))) (128 : Int))))) (c (0 : Nat))))) (14 : Int) x (29 : Nat) =
      entV c m x (29 : Nat)) ∧ (IntKind.u32 = IntKind.u32 ∧ setC (ofL (bk (setSv (ofL (bk (setSt (ofL (bk c)) (bits BinOp.or IntKind.u32 (bits BinOp.or IntKind.u32 (bits
      BinOp.andNot IntKind.u32 (c (0 : Nat)) (63 : Int)) (bits BinOp.and IntKind.u32 m (31 : Int))) (128 : Int))))) (c (0 : Nat))))) (14 : Int) x (30 : Nat) = entV c m x (30 :
      Nat)) ∧ (IntKind.u32 = IntKind.u32 ∧ setC (ofL (bk (setSv (ofL (bk (setSt (ofL (bk c)) (bits BinOp.or IntKind.u32 (bits BinOp.or IntKind.u32 (bits BinOp.andNot IntKind.u32
      (c (0 : Nat)) (63 : Int)) (bits BinOp.and IntKind.u32 m (31 : Int))) (128 : Int))))) (c (0 : Nat))))) (14 : Int) x (31 : Nat) = entV c m x (31 : Nat)) ∧ (IntKind.u32 =
      IntKind.u32 ∧ setC (ofL (bk (setSv (ofL (bk (setSt (ofL (bk c)) (bits BinOp.or IntKind.u32 (bits BinOp.or IntKind.u32 (bits BinOp.andNot IntKind.u32 (c (0 : Nat)) (63 :
      Int)) (bits BinOp.and IntKind.u32 m (31 : Int))) (128 : Int))))) (c (0 : Nat))))) (14 : Int) x (32 : Nat) = entV c m x (32 : Nat)) ∧ (IntKind.u32 = IntKind.u32 ∧ setC (ofL
      (bk (setSv (ofL (bk (setSt (ofL (bk c)) (bits BinOp.or IntKind.u32 (bits BinOp.or IntKind.u32 (bits BinOp.andNot IntKind.u32 (c (0 : Nat)) (63 : Int)) (bits BinOp.and
      IntKind.u32 m (31 : Int))) (128 : Int))))) (c (0 : Nat))))) (14 : Int) x (33 : Nat) = entV c m x (33 : Nat)) ∧ (IntKind.u32 = IntKind.u32 ∧ setC (ofL (bk (setSv (ofL (bk
      (setSt (ofL (bk c)) (bits BinOp.or IntKind.u32 (bits BinOp.or IntKind.u32 (bits BinOp.andNot IntKind.u32 (c (0 : Nat)) (63 : Int)) (bits BinOp.and IntKind.u32 m (31 :
      Int))) (128 : Int))))) (c (0 : Nat))))) (14 : Int) x (34 : Nat) = entV c m x (34 : Nat)) ∧ (IntKind.u32 = IntKind.u32 ∧ setC (ofL (bk (setSv (ofL (bk (setSt (ofL (bk c))
      (bits BinOp.or IntKind.u32 (bits BinOp.or IntKind.u32 (bits BinOp.andNot IntKind.u32 (c (0 : Nat)) (63 : Int)) (bits BinOp.and IntKind.u32 m (31 : Int))) (128 : Int)))))
      (c (0 : Nat))))) (14 : Int) x (35 : Nat) = entV c m x (35 : Nat)) ∧ (IntKind.u32 = IntKind.u32 ∧ setC (ofL (bk (setSv (ofL (bk (setSt (ofL (bk c)) (bits BinOp.or
      IntKind.u32 (bits BinOp.or IntKind.u32 (bits BinOp.andNot IntKind.u32 (c (0 : Nat)) (63 : Int)) (bits BinOp.and IntKind.u32 m (31 : Int))) (128 : Int))))) (c (0 : Nat)))))
      (14 : Int) x (36 : Nat) = entV c m x (36 : Nat)) ∧ (IntKind.u32 = IntKind.u32 ∧ setC (ofL (bk (setSv (ofL (bk (setSt (ofL (bk c)) (bits BinOp.or IntKind.u32 (bits BinOp.or
      IntKind.u32 (bits BinOp.andNot IntKind.u32 (c (0 : Nat)) (63 : Int)) (bits BinOp.and IntKind.u32 m (31 : Int))) (128 : Int))))) (c (0 : Nat))))) (14 : Int) x (37 : Nat) =
      entV c m x (37 : Nat)) ∧ (IntKind.u32 = IntKind.u32 ∧ setC (ofL (bk (setSv (ofL (bk (setSt (ofL (bk c)) (bits BinOp.or IntKind.u32 (bits BinOp.or IntKind.u32 (bits
      BinOp.andNot IntKind.u32 (c (0 : Nat)) (63 : Int)) (bits BinOp.and IntKind.u32 m (31 : Int))) (128 : Int))))) (c (0 : Nat))))) (14 : Int) x (38 : Nat) = entV c m x (38 :
      Nat)) ∧ (IntKind.u32 = IntKind.u32 ∧ setC (ofL (bk (setSv (ofL (bk (setSt (ofL (bk c)) (bits BinOp.or IntKind.u32 (bits BinOp.or IntKind.u32 (bits BinOp.andNot IntKind.u32
      (c (0 : Nat)) (63 : Int)) (bits BinOp.and IntKind.u32 m (31 : Int))) (128 : Int))))) (c (0 : Nat))))) (14 : Int) x (39 : Nat) = entV c m x (39 : Nat)) ∧ (IntKind.u32 =
      IntKind.u32 ∧ setC (ofL (bk (setSv (ofL (bk (setSt (ofL (bk c)) (bits BinOp.or IntKind.u32 (bits BinOp.or IntKind.u32 (bits BinOp.andNot IntKind.u32 (c (0 : Nat)) (63 :
      Int)) (bits BinOp.and IntKind.u32 m (31 : Int))) (128 : Int))))) (c (0 : Nat))))) (14 : Int) x (40 : Nat) = entV c m x (40 : Nat)) ∧ (IntKind.u32 = IntKind.u32 ∧ setC (ofL
      (bk (setSv (ofL (bk (setSt (ofL (bk c)) (bits BinOp.or IntKind.u32 (bits BinOp.or IntKind.u32 (bits BinOp.andNot IntKind.u32 (c (0 : Nat)) (63 : Int)) (bits BinOp.and
      IntKind.u32 m (31 : Int))) (128 : Int))))) (c (0 : Nat))))) (14 : Int) x (41 : Nat) = entV c m x (41 : Nat)) ∧ (IntKind.u32 = IntKind.u32 ∧ setC (ofL (bk (setSv (ofL (bk
      (setSt (ofL (bk c)) (bits BinOp.or IntKind.u32 (bits BinOp.or IntKind.u32 (bits BinOp.andNot IntKind.u32 (c (0 : Nat)) (63 : Int)) (bits BinOp.and IntKind.u32 m (31 :
      Int))) (128 : Int))))) (c (0 : Nat))))) (14 : Int) x (42 : Nat) = entV c m x (42 : Nat)) ∧ (IntKind.u32 = IntKind.u32 ∧ setC (ofL (bk (setSv (ofL (bk (setSt (ofL (bk c))
      (bits BinOp.or IntKind.u32 (bits BinOp.or IntKind.u32 (bits BinOp.andNot IntKind.u32 (c (0 : Nat)) (63 : Int)) (bits BinOp.and IntKind.u32 m (31 : Int))) (128 : Int)))))
      (c (0 : Nat))))) (14 : Int) x (43 : Nat) = entV c m x (43 : Nat)) ∧ IntKind.u32 = IntKind.u32 ∧ setC (ofL (bk (setSv (ofL (bk (setSt (ofL (bk c)) (bits BinOp.or
      IntKind.u32 (bits BinOp.or IntKind.u32 (bits BinOp.andNot IntKind.u32 (c (0 : Nat)) (63 : Int)) (bits BinOp.and IntKind.u32 m (31 : Int))) (128 : Int))))) (c (0 : Nat)))))
      (14 : Int) x (44 : Nat) = entV c m x (44 : Nat)) ∧ (59 : Nat) = (59 : Nat) ∧ S = S) := by kernel_rfl
theorem ent_h (E : World) (m x : Int) (c : Nat → Int) (S : SW) : Holds (conB (.t []) (bk (entV c m x)) 59 S (fnTree (pe E) (orcB E) (tabL fns) 20000 Try.f25 [.c (.p 0 0), .c (.i false .u32 m), .c (.i false .u32 x)] (⟨bk c, 59⟩ :: S))) := ⟨by
  rw [ent_p]
  repeat' first | exact trivial | exact entL _ _ _ _ rfl _ (by decide) | exact rfl | apply And.intro⟩
set_option maxRecDepth 100000 in
theorem ent_c (E : World) (m x : Int) (c : Nat → Int) (S : SW) : CallTree (pe E) 25 [.c (.p 0 0), .c (.i false .u32 m), .c (.i false .u32 x)] (⟨bk c, 59⟩ :: S) (.leaf (.t [], ⟨bk (entV c m x), 59⟩ :: S)) :=
  heap_contractB (fnTree_sound (P := pe E) orcB_ok tab_ok tab_sz mixed 20000 Try.func25 (by decide) [.c (.p 0 0), .c (.i false .u32 m), .c (.i false .u32 x)] (⟨bk c, 59⟩ :: S)) rfl (ent_h E m x c S)
def opE (l : List C) (S : SW) : FuncId → List SV → Option (Tree (SV × SW)) := fun g vs => match g, vs with
  | 25, [.c (.p 0 0), .c (.i _ .u32 m), .c (.i _ .u32 x)] => some (.leaf (.t [], ⟨bk (entV (ofL l) m x), 59⟩ :: S))
  | _, _ => none
theorem opE_ok {E : World} (c : Nat → Int) {l : List C} {S : SW} {g : FuncId} {vs : List SV} {t : Tree (SV × SW)} (hl : l = bk (ofL l)) (h : opE l S g vs = some t) : CallTree (pe E) g vs (⟨l, 59⟩ :: S) t := by
  unfold opE at h
  split at h
  · cases h
    rename_i _ m _ x
    refine CallTree.args (vs' := [.c (.p 0 0), .c (.i false .u32 m), .c (.i false .u32 x)]) (by simp [simL, SV.sim, S1.sim, C.sim]) ?_
    have K : ∀ d, l = bk d → CallTree (pe E) 25 [.c (.p 0 0), .c (.i false .u32 m), .c (.i false .u32 x)] (⟨l, 59⟩ :: S) (.leaf (.t [], ⟨bk (entV d m x), 59⟩ :: S)) := by
      intro d e
      rw [e]
      exact ent_c E m x d S
    exact K _ hl
  · cases h
def orcE (E : World) : Orc := fun g vs s => match s with
  | ⟨l, ty⟩ :: S => cond (Nat.beq ty 59 && wfL 45 l) (match opE l S g vs with | some t => some t | none => orcB E g vs s) (orcB E g vs s)
  | _ => orcB E g vs s
theorem orcE_ok {E : World} : OrcOK (pe E) (orcE E) := by
  intro g vs s t h
  unfold orcE at h
  split at h
  · rename_i l ty S
    cases hb : (Nat.beq ty 59 && wfL 45 l) with
    | false => rw [hb] at h; exact orcB_ok _ _ _ _ h
    | true =>
      rw [hb] at h
      simp only [cond_true] at h
      rw [Bool.and_eq_true] at hb
      obtain rfl : ty = 59 := Nat.eq_of_beq_eq_true hb.1
      split at h
      · rename_i t' ht
        cases h
        exact opE_ok (ofL l) (bk_eq l hb.2) ht
      · exact orcB_ok _ _ _ _ h
  · exact orcB_ok _ _ _ _ h
end Go.Proofs.Ytkgpcdnlbgmglaa

