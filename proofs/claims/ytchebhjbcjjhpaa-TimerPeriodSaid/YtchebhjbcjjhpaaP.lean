import Derived.Test.YtchebhjbcjjhpaaA
set_option linter.unusedVariables false
set_option linter.unusedSimpArgs false
namespace Go.Proofs.Ytchebhjbcjjhpaa
open Go Go.Proofs Go.Proofs.Ytchebhjbcjjhpaa.Ev
def stp (c : Int) : Int := selI [1, 64, 256, 1024] (bits .and .u16 c 3)
def due (c n z : Int) : Int := IntKind.i64.wrap (z + IntKind.i64.wrap (IntKind.i64.wrap (65536 - IntKind.i64.wrap n) * stp c))
def runs (c : Int) : Bool := bits .and .u16 c 128 != 0
theorem step_p (E : World) (r c n z : Int) :
    (conP (.c (.i false .i64 (stp c))) (fnTree (pe E) orcNone (tabL fns) 1000 Try.f26 [.a [.i false .u16 r, .i false .u16 c, .i false .u16 n, .i false .i64 z]] [])) =
    (inB (bits BinOp.and IntKind.u16 c (3 : Int)) (4 : Nat) = true ∧ IntKind.i64 = IntKind.i64 ∧ selI [(1 : Int), (64 : Int), (256 : Int), (1024 : Int)] (bits BinOp.and
      IntKind.u16 c (3 : Int)) = stp c) := by kernel_rfl
theorem in4 (c : Int) : inB (bits .and .u16 c 3) 4 = true := by
  rw [and_m2 .u16 c (by decide)]
  simp only [inB, Bool.and_eq_true, decide_eq_true_eq]; omega
set_option maxRecDepth 100000 in
theorem step_c (E : World) (l1 l2 l3 l4 : Bool) (r : Int) (c : Int) (n : Int) (z : Int) (s : SW) : CallTree (pe E) 26 [.a [.i l1 .u16 r, .i l2 .u16 c, .i l3 .u16 n, .i l4 .i64 z]] s (.leaf (.c (.i false .i64 (stp c)), s)) := by
  refine CallTree.args (vs' := [.a [.i false .u16 r, .i false .u16 c, .i false .u16 n, .i false .i64 z]]) ⟨⟨rfl, rfl⟩, ⟨rfl, rfl⟩, ⟨rfl, rfl⟩, ⟨rfl, rfl⟩⟩ ?_
  exact pure_contractH (fnTree_sound (P := pe E) orcNone_ok tab_ok tab_sz mixed 1000 Try.func26 (by decide) [.a [.i false .u16 r, .i false .u16 c, .i false .u16 n, .i false .i64 z]] []) (by simp [SV.ok, C.ok, okL]) (v := .c (.i false .i64 (stp c))) rfl ⟨by rw [step_p]; exact ⟨in4 c, rfl, rfl⟩⟩ s
def orcS (E : World) : Orc := fun g vs s => match g, vs with
  | 26, [.a [.i _ .u16 r, .i _ .u16 c, .i _ .u16 n, .i _ .i64 z]] => some (.leaf (.c (.i false .i64 (stp c)), s))
  | g, vs => none
theorem orcS_ok {E : World} : OrcOK (pe E) (orcS E) := by
  intro g vs s t h
  unfold orcS at h
  split at h
  · cases h
    exact step_c E _ _ _ _ _ _ _ _ s
  · cases h
theorem due_p (E : World) (r c n z : Int) :
    (conP (.c (.i false .i64 (due c n z))) (fnTree (pe E) (orcS E) (tabL fns) 1000 Try.f27 [.a [.i false .u16 r, .i false .u16 c, .i false .u16 n, .i false .i64 z]] [])) =
    (IntKind.i64 = IntKind.i64 ∧ IntKind.i64.wrap (z + IntKind.i64.wrap (IntKind.i64.wrap ((65536 : Int) - IntKind.i64.wrap n) * stp c)) = due c n z) := by kernel_rfl
set_option maxRecDepth 100000 in
theorem due_c (E : World) (l1 l2 l3 l4 : Bool) (r : Int) (c : Int) (n : Int) (z : Int) (s : SW) : CallTree (pe E) 27 [.a [.i l1 .u16 r, .i l2 .u16 c, .i l3 .u16 n, .i l4 .i64 z]] s (.leaf (.c (.i false .i64 (due c n z)), s)) := by
  refine CallTree.args (vs' := [.a [.i false .u16 r, .i false .u16 c, .i false .u16 n, .i false .i64 z]]) ⟨⟨rfl, rfl⟩, ⟨rfl, rfl⟩, ⟨rfl, rfl⟩, ⟨rfl, rfl⟩⟩ ?_
  exact pure_contractH (fnTree_sound (P := pe E) orcS_ok tab_ok tab_sz mixed 1000 Try.func27 (by decide) [.a [.i false .u16 r, .i false .u16 c, .i false .u16 n, .i false .i64 z]] []) (by simp [SV.ok, C.ok, okL]) (v := .c (.i false .i64 (due c n z))) rfl ⟨by rw [due_p]; exact ⟨rfl, rfl⟩⟩ s
def orcD (E : World) : Orc := fun g vs s => match g, vs with
  | 27, [.a [.i _ .u16 r, .i _ .u16 c, .i _ .u16 n, .i _ .i64 z]] => some (.leaf (.c (.i false .i64 (due c n z)), s))
  | 8, [] => some (.leaf (.c (.b true true), s))
  | g, vs => (orcS E) g vs s
theorem orcD_ok {E : World} : OrcOK (pe E) (orcD E) := by
  intro g vs s t h
  unfold orcD at h
  split at h
  · cases h
    exact due_c E _ _ _ _ _ _ _ _ s
  · cases h
    exact awake_c E s
  · exact orcS_ok _ _ _ _ h
theorem runs_node (c : Int) (h : runs c = true) : (bits .and .u16 c 128 != 0) = true := h
theorem counts_p (E : World) (l : Bool) (r c : Int) (rest : List C) (S : SW) :
    (conS (.c (.b true true)) (⟨.i l .u16 r :: .i false .u16 c :: rest, 56⟩ :: S) (fnTree (pe E) orcNone (tabL fns) 1000 Try.f24 [.c (.p 0 0), .c (.i true .i64 0)] (⟨.i l .u16 r :: .i false .u16 c :: rest, 56⟩ :: S))) =
    ((bits BinOp.and IntKind.u16 c (128 : Int) != (0 : Int)) = true ∧ Bl.mk (C.i l IntKind.u16 r :: C.i false IntKind.u16 c :: rest) (56 : TypeId) :: S = Bl.mk (C.i l
      IntKind.u16 r :: C.i false IntKind.u16 c :: rest) (56 : TypeId) :: S) := by kernel_rfl
theorem counts_c (E : World) (l : Bool) (r c : Int) (rest : List C) (S : SW) (h : runs c = true) : CallTree (pe E) 24 [.c (.p 0 0), .c (.i true .i64 0)] (⟨.i l .u16 r :: .i false .u16 c :: rest, 56⟩ :: S) (.leaf (.c (.b true true), ⟨.i l .u16 r :: .i false .u16 c :: rest, 56⟩ :: S)) := by
  refine heap_contractS (fnTree_sound (P := pe E) orcNone_ok tab_ok tab_sz mixed 1000 Try.func24 (by decide) [.c (.p 0 0), .c (.i true .i64 0)] (⟨.i l .u16 r :: .i false .u16 c :: rest, 56⟩ :: S)) rfl ⟨?_⟩
  rw [counts_p]
  exact ⟨h, rfl⟩
def orcC (E : World) : Orc := fun g vs s => match g, vs, s with
  | 24, [.c (.p 0 0), .c (.i true .i64 0)], ⟨.i l .u16 r :: .i false .u16 c :: rest, 56⟩ :: S  => some (.need (runs c) (.leaf (.c (.b true true), ⟨.i l .u16 r :: .i false .u16 c :: rest, 56⟩ :: S)))
  | g, vs, s => orcD E g vs s
theorem orcC_ok {E : World} : OrcOK (pe E) (orcC E) := by
  intro g vs s t h
  unfold orcC at h
  split at h
  · cases h
    exact CallTree.need fun h => counts_c E _ _ _ _ _ h
  · exact orcD_ok _ _ _ _ h
def mm (n : Int) : Int := (n.tmod 50 + 50) % 50 + 2
def k1 (cw : Int) : Int := bits .or .u16 (bits .and .u16 cw 195) 128
def kk (cw : Int) : Int := bits .and .u16 (k1 cw) 199
def sp (r cw : Int) : Int := (65536 - r) * stp (k1 cw)
noncomputable def c5 : Code := Try.f5.body.getD .skip
noncomputable def hd5 (E : World) : List Item := headOf (run (pe E) (orcC E) (tabL fns) 20000 1606938044258990275541962092341162602522202993782792835301375 [.code c5] ⟨Try.f5.ntmps, mkFrGo (Tr.mk 12) 0 [.c (.i true .u16 0), .c (.i true .u16 0), .c (.i true .i64 0)]⟩ [])
def lv5 (E : World) (r : Int) (cw : Int) (n : Int) (x : Int) : List (Nat × SV) := [(0, .c (.i false .u16 r)), (7, .c (.p 0 0)), (8, .c (.i false .i64 (sp r cw))), (41, .c (.i false .i64 (mm n))), (42, .c (.i false .i64 x))]
def sv5 (E : World) (r : Int) (cw : Int) (n : Int) (x : Int) : SW := [⟨[.i false .u16 r, .i false .u16 (kk cw), .i false .u16 r, .i false .i64 (7 + x * sp r cw), .i true .u16 0, .i true .u16 0, .i true .u16 0, .i true .i64 0, .i true .u16 0, .i true .u16 0, .i true .u16 0, .i true .i64 0, .i true .u16 0, .i true .u16 0, .i true .u16 0, .i true .i64 0], 56⟩]
def hh5 (E : World) (r : Int) (cw : Int) (n : Int) (x : Int) : Prop := 0 ≤ x ∧ x ≤ mm n
def mu5 (E : World) (r : Int) (cw : Int) (n : Int) (x : Int) : Nat := (mm n - x).toNat
theorem period_pro (E : World) (r : Int) (cw : Int) (n : Int) :
    (loopP (pe E) Try.f5 (fun v _ => SV.sim v (.c (.b false true))) (fun todo fr s' => ∃ x : Int, hh5 E r cw n x ∧ todo = hd5 E ∧ fr.nt = Try.f5.ntmps ∧ refP fr (lv5 E r cw n x) ∧ refT s' (sv5 E r cw n x)) (run (pe E) (orcC E) (tabL fns) 20000 1606938044258990275541962092341162602522202993782792835301375 [.code c5] ⟨Try.f5.ntmps, mkFrGo (Tr.mk 12) 0 [.c (.i false .u16 r), .c (.i false .u16 cw), .c (.i false .i64 n)]⟩ [])) =
    (runs (bits BinOp.and IntKind.u16 (bits BinOp.or IntKind.u16 (bits BinOp.and IntKind.u16 cw (195 : Int)) (128 : Int)) (199 : Int)) = true ∧ inB (bits BinOp.and IntKind.u16
      (bits BinOp.or IntKind.u16 (bits BinOp.and IntKind.u16 cw (195 : Int)) (128 : Int)) (3 : Int)) (4 : Nat) = true ∧ ∃ (x : Int), ((0 : Int) ≤ x ∧ x ≤ mm n) ∧ hd5 E = hd5 E ∧
      (95 : Nat) = (95 : Nat) ∧ ((IntKind.u16 = IntKind.u16 ∧ r = r) ∧ C.p (0 : Nat) (0 : Nat) = C.p (0 : Nat) (0 : Nat) ∧ (IntKind.i64 = IntKind.i64 ∧ IntKind.i64.wrap
      (IntKind.i64.wrap ((65536 : Int) - IntKind.i64.wrap r) * selI [(1 : Int), (64 : Int), (256 : Int), (1024 : Int)] (bits BinOp.and IntKind.u16 (bits BinOp.or IntKind.u16
      (bits BinOp.and IntKind.u16 cw (195 : Int)) (128 : Int)) (3 : Int))) = sp r cw) ∧ (IntKind.i64 = IntKind.i64 ∧ IntKind.i64.wrap ((IntKind.i64.wrap (n.tmod (50 : Int) + (50
      : Int))).tmod (50 : Int) + (2 : Int)) = mm n) ∧ IntKind.i64 = IntKind.i64 ∧ (0 : Int) = x) ∧ ((56 : Nat) = (56 : Nat) ∧ (IntKind.u16 = IntKind.u16 ∧ r = r) ∧ (IntKind.u16
      = IntKind.u16 ∧ bits BinOp.and IntKind.u16 (bits BinOp.or IntKind.u16 (bits BinOp.and IntKind.u16 cw (195 : Int)) (128 : Int)) (199 : Int) = kk cw) ∧ (IntKind.u16 =
      IntKind.u16 ∧ r = r) ∧ (IntKind.i64 = IntKind.i64 ∧ (7 : Int) = (7 : Int) + x * sp r cw) ∧ (IntKind.u16 = IntKind.u16 ∧ (0 : Int) = (0 : Int)) ∧ (IntKind.u16 = IntKind.u16
      ∧ (0 : Int) = (0 : Int)) ∧ (IntKind.u16 = IntKind.u16 ∧ (0 : Int) = (0 : Int)) ∧ (IntKind.i64 = IntKind.i64 ∧ (0 : Int) = (0 : Int)) ∧ (IntKind.u16 = IntKind.u16 ∧ (0 :
      Int) = (0 : Int)) ∧ (IntKind.u16 = IntKind.u16 ∧ (0 : Int) = (0 : Int)) ∧ (IntKind.u16 = IntKind.u16 ∧ (0 : Int) = (0 : Int)) ∧ (IntKind.i64 = IntKind.i64 ∧ (0 : Int) = (0
      : Int)) ∧ (IntKind.u16 = IntKind.u16 ∧ (0 : Int) = (0 : Int)) ∧ (IntKind.u16 = IntKind.u16 ∧ (0 : Int) = (0 : Int)) ∧ (IntKind.u16 = IntKind.u16 ∧ (0 : Int) = (0 : Int)) ∧
      IntKind.i64 = IntKind.i64 ∧ (0 : Int) = (0 : Int)) ∧ True) := by kernel_rfl
theorem period_round (E : World) (r : Int) (cw : Int) (n : Int) (j : Int) :
    (loopP (pe E) Try.f5 (fun v _ => SV.sim v (.c (.b false true))) (fun todo fr s' => ∃ x : Int, hh5 E r cw n x ∧ mu5 E r cw n x < mu5 E r cw n j ∧ todo = hd5 E ∧ fr.nt = Try.f5.ntmps ∧ refP fr (lv5 E r cw n x) ∧ refT s' (sv5 E r cw n x)) (run (pe E) (orcC E) (tabL fns) 20000 1606938044258990275541962092341162602522202993782792835301375 (hd5 E) (mkL Try.f5.ntmps (lv5 E r cw n j)) (sv5 E r cw n j))) =
    ((decide (j < mm n) = true → runs (kk cw) = true ∧ ((due (kk cw) r ((7 : Int) + j * sp r cw) != IntKind.i64.wrap ((7 : Int) + IntKind.i64.wrap (IntKind.i64.wrap (j + (1 :
      Int)) * sp r cw))) = true → false = true) ∧ ((due (kk cw) r ((7 : Int) + j * sp r cw) != IntKind.i64.wrap ((7 : Int) + IntKind.i64.wrap (IntKind.i64.wrap (j + (1 : Int)) *
      sp r cw))) = false → runs (kk cw) = true ∧ (decide (due (kk cw) r ((7 : Int) + j * sp r cw) > IntKind.i64.wrap (due (kk cw) r ((7 : Int) + j * sp r cw) - (1 : Int))) =
      true → runs (kk cw) = true ∧ (decide (due (kk cw) r ((7 : Int) + j * sp r cw) > due (kk cw) r ((7 : Int) + j * sp r cw)) = true → (((0 : Int) != due (kk cw) r ((7 : Int) +
      j * sp r cw)) = true → false = true) ∧ (((0 : Int) != due (kk cw) r ((7 : Int) + j * sp r cw)) = false → false = true)) ∧ (decide (due (kk cw) r ((7 : Int) + j * sp r cw)
      > due (kk cw) r ((7 : Int) + j * sp r cw)) = false → runs (kk cw) = true ∧ ((due (kk cw) r ((7 : Int) + j * sp r cw) != due (kk cw) r ((7 : Int) + j * sp r cw)) = true →
      ((due (kk cw) r ((7 : Int) + j * sp r cw) != due (kk cw) r ((7 : Int) + j * sp r cw)) = true → false = true) ∧ ((due (kk cw) r ((7 : Int) + j * sp r cw) != due (kk cw) r
      ((7 : Int) + j * sp r cw)) = false → false = true)) ∧ ((due (kk cw) r ((7 : Int) + j * sp r cw) != due (kk cw) r ((7 : Int) + j * sp r cw)) = false → ((due (kk cw) r ((7 :
      Int) + j * sp r cw) != due (kk cw) r ((7 : Int) + j * sp r cw)) = true → false = true) ∧ ((due (kk cw) r ((7 : Int) + j * sp r cw) != due (kk cw) r ((7 : Int) + j * sp r
      cw)) = false → runs (kk cw) = true ∧ (!decide (stp (kk cw) = (0 : Int))) = true ∧ ((IntKind.u16.wrap (IntKind.i64.wrap (IntKind.i64.wrap r + IntKind.i64.wrap
      ((IntKind.i64.wrap (due (kk cw) r ((7 : Int) + j * sp r cw) - due (kk cw) r ((7 : Int) + j * sp r cw))).tdiv (stp (kk cw))))) != r) = true → false = true) ∧
      ((IntKind.u16.wrap (IntKind.i64.wrap (IntKind.i64.wrap r + IntKind.i64.wrap ((IntKind.i64.wrap (due (kk cw) r ((7 : Int) + j * sp r cw) - due (kk cw) r ((7 : Int) + j * sp
      r cw))).tdiv (stp (kk cw))))) != r) = false → ∃ (x : Int), ((0 : Int) ≤ x ∧ x ≤ mm n) ∧ mu5 E r cw n x < mu5 E r cw n j ∧ hd5 E = hd5 E ∧ (95 : Nat) = (95 : Nat) ∧
      ((IntKind.u16 = IntKind.u16 ∧ r = r) ∧ C.p (0 : Nat) (0 : Nat) = C.p (0 : Nat) (0 : Nat) ∧ (IntKind.i64 = IntKind.i64 ∧ sp r cw = sp r cw) ∧ (IntKind.i64 = IntKind.i64 ∧
      mm n = mm n) ∧ IntKind.i64 = IntKind.i64 ∧ IntKind.i64.wrap (j + (1 : Int)) = x) ∧ ((56 : Nat) = (56 : Nat) ∧ (IntKind.u16 = IntKind.u16 ∧ r = r) ∧ (IntKind.u16 =
      IntKind.u16 ∧ kk cw = kk cw) ∧ (IntKind.u16 = IntKind.u16 ∧ r = r) ∧ (IntKind.i64 = IntKind.i64 ∧ due (kk cw) r ((7 : Int) + j * sp r cw) = (7 : Int) + x * sp r cw) ∧
      (IntKind.u16 = IntKind.u16 ∧ (0 : Int) = (0 : Int)) ∧ (IntKind.u16 = IntKind.u16 ∧ (0 : Int) = (0 : Int)) ∧ (IntKind.u16 = IntKind.u16 ∧ (0 : Int) = (0 : Int)) ∧
      (IntKind.i64 = IntKind.i64 ∧ (0 : Int) = (0 : Int)) ∧ (IntKind.u16 = IntKind.u16 ∧ (0 : Int) = (0 : Int)) ∧ (IntKind.u16 = IntKind.u16 ∧ (0 : Int) = (0 : Int)) ∧
      (IntKind.u16 = IntKind.u16 ∧ (0 : Int) = (0 : Int)) ∧ (IntKind.i64 = IntKind.i64 ∧ (0 : Int) = (0 : Int)) ∧ (IntKind.u16 = IntKind.u16 ∧ (0 : Int) = (0 : Int)) ∧
      (IntKind.u16 = IntKind.u16 ∧ (0 : Int) = (0 : Int)) ∧ (IntKind.u16 = IntKind.u16 ∧ (0 : Int) = (0 : Int)) ∧ IntKind.i64 = IntKind.i64 ∧ (0 : Int) = (0 : Int)) ∧ True)))))
      ∧ (decide (due (kk cw) r ((7 : Int) + j * sp r cw) > IntKind.i64.wrap (due (kk cw) r ((7 : Int) + j * sp r cw) - (1 : Int))) = false → runs (kk cw) = true ∧ ((due (kk cw)
      r ((7 : Int) + j * sp r cw) != due (kk cw) r ((7 : Int) + j * sp r cw)) = true → ((due (kk cw) r ((7 : Int) + j * sp r cw) != (0 : Int)) = true → false = true) ∧ ((due (kk
      cw) r ((7 : Int) + j * sp r cw) != (0 : Int)) = false → runs (kk cw) = true ∧ (decide (due (kk cw) r ((7 : Int) + j * sp r cw) > due (kk cw) r ((7 : Int) + j * sp r cw)) =
      true → (((0 : Int) != due (kk cw) r ((7 : Int) + j * sp r cw)) = true → false = true) ∧ (((0 : Int) != due (kk cw) r ((7 : Int) + j * sp r cw)) = false → false = true)) ∧
      (decide (due (kk cw) r ((7 : Int) + j * sp r cw) > due (kk cw) r ((7 : Int) + j * sp r cw)) = false → runs (kk cw) = true ∧ ((due (kk cw) r ((7 : Int) + j * sp r cw) !=
      due (kk cw) r ((7 : Int) + j * sp r cw)) = true → ((due (kk cw) r ((7 : Int) + j * sp r cw) != due (kk cw) r ((7 : Int) + j * sp r cw)) = true → false = true) ∧ ((due (kk
      cw) r ((7 : Int) + j * sp r cw) != due (kk cw) r ((7 : Int) + j * sp r cw)) = false → false = true)) ∧ ((due (kk cw) r ((7 : Int) + j * sp r cw) != due (kk cw) r ((7 :
      Int) + j * sp r cw)) = false → ((due (kk cw) r ((7 : Int) + j * sp r cw) != due (kk cw) r ((7 : Int) + j * sp r cw)) = true → false = true) ∧ ((due (kk cw) r ((7 : Int) +
      j * sp r cw) != due (kk cw) r ((7 : Int) + j * sp r cw)) = false → runs (kk cw) = true ∧ (!decide (stp (kk cw) = (0 : Int))) = true ∧ ((IntKind.u16.wrap (IntKind.i64.wrap
      (IntKind.i64.wrap r + IntKind.i64.wrap ((IntKind.i64.wrap (due (kk cw) r ((7 : Int) + j * sp r cw) - due (kk cw) r ((7 : Int) + j * sp r cw))).tdiv (stp (kk cw))))) != r)
      = true → false = true) ∧ ((IntKind.u16.wrap (IntKind.i64.wrap (IntKind.i64.wrap r + IntKind.i64.wrap ((IntKind.i64.wrap (due (kk cw) r ((7 : Int) + j * sp r cw) - due (kk
      cw) r ((7 : Int) + j * sp r cw))).tdiv (stp (kk cw))))) != r) = false → ∃ (x : Int), ((0 : Int) ≤ x ∧ x ≤ mm n) ∧ mu5 E r cw n x < mu5 E r cw n j ∧ hd5 E = hd5 E ∧ (95 :
      Nat) = (95 : Nat) ∧ ((IntKind.u16 = IntKind.u16 ∧ r = r) ∧ C.p (0 : Nat) (0 : Nat) = C.p (0 : Nat) (0 : Nat) ∧ (IntKind.i64 = IntKind.i64 ∧ sp r cw = sp r cw) ∧
      (IntKind.i64 = IntKind.i64 ∧ mm n = mm n) ∧ IntKind.i64 = IntKind.i64 ∧ IntKind.i64.wrap (j + (1 : Int)) = x) ∧ ((56 : Nat) = (56 : Nat) ∧ (IntKind.u16 = IntKind.u16 ∧ r =
      r) ∧ (IntKind.u16 = IntKind.u16 ∧ kk cw = kk cw) ∧ (IntKind.u16 = IntKind.u16 ∧ r = r) ∧ (IntKind.i64 = IntKind.i64 ∧ due (kk cw) r ((7 : Int) + j * sp r cw) = (7 : Int) +
      x * sp r cw) ∧ (IntKind.u16 = IntKind.u16 ∧ (0 : Int) = (0 : Int)) ∧ (IntKind.u16 = IntKind.u16 ∧ (0 : Int) = (0 : Int)) ∧ (IntKind.u16 = IntKind.u16 ∧ (0 : Int) = (0 :
      Int)) ∧ (IntKind.i64 = IntKind.i64 ∧ (0 : Int) = (0 : Int)) ∧ (IntKind.u16 = IntKind.u16 ∧ (0 : Int) = (0 : Int)) ∧ (IntKind.u16 = IntKind.u16 ∧ (0 : Int) = (0 : Int)) ∧
      (IntKind.u16 = IntKind.u16 ∧ (0 : Int) = (0 : Int)) ∧ (IntKind.i64 = IntKind.i64 ∧ (0 : Int) = (0 : Int)) ∧ (IntKind.u16 = IntKind.u16 ∧ (0 : Int) = (0 : Int)) ∧
      (IntKind.u16 = IntKind.u16 ∧ (0 : Int) = (0 : Int)) ∧ (IntKind.u16 = IntKind.u16 ∧ (0 : Int) = (0 : Int)) ∧ IntKind.i64 = IntKind.i64 ∧ (0 : Int) = (0 : Int)) ∧ True))))))
      ∧ ((due (kk cw) r ((7 : Int) + j * sp r cw) != due (kk cw) r ((7 : Int) + j * sp r cw)) = false → ((due (kk cw) r ((7 : Int) + j * sp r cw) != (0 : Int)) = true → false =
      true) ∧ ((due (kk cw) r ((7 : Int) + j * sp r cw) != (0 : Int)) = false → false = true))))) ∧ (decide (j < mm n) = false → true = true)) := by kernel_rfl

theorem nat_of (x : Int) (op : BinOp) (y : Int) : ∃ m : Nat, m < 65536 ∧ bits op .u16 x y = m := by
  have h := bits_bd op .u16 rfl x y
  obtain ⟨m, hm⟩ := Int.eq_ofNat_of_zero_le h.1
  refine ⟨m, ?_, hm⟩
  have := h.2
  rw [hm] at this
  have e : ((2 : Int) ^ IntKind.u16.bits) = 65536 := by decide
  rw [e] at this
  omega
theorem kk_nat (cw : Int) : ∃ a : Nat, a < 65536 ∧ k1 cw = ((a ||| 128 : Nat) : Int) ∧ kk cw = (((a ||| 128) &&& 199 : Nat) : Int) := by
  obtain ⟨a, ha, ea⟩ := nat_of cw .and 195
  have h1 : k1 cw = ((a ||| 128 : Nat) : Int) := by unfold k1; rw [ea]; exact bits_or_n .u16 rfl a 128 ha (by decide)
  have h2 : a ||| 128 < 2 ^ 16 := Nat.or_lt_two_pow ha (by decide)
  refine ⟨a, ha, h1, ?_⟩
  unfold kk; rw [h1]; exact bits_and_n .u16 rfl _ 199 h2 (by decide)
theorem kk_runs (cw : Int) : runs (kk cw) = true := by
  obtain ⟨a, ha, _, e⟩ := kk_nat cw
  have h2 : (a ||| 128) &&& 199 < 2 ^ 16 := Nat.lt_of_le_of_lt Nat.and_le_right (by decide)
  have h3 : bits .and .u16 (kk cw) 128 = ((((a ||| 128) &&& 199) &&& 128 : Nat) : Int) := by rw [e]; exact bits_and_n .u16 rfl _ 128 h2 (by decide)
  have h4 : ((a ||| 128) &&& 199) &&& 128 = (a &&& 128) ||| 128 := by
    rw [Nat.and_assoc, show 199 &&& 128 = 128 from rfl, Nat.and_or_distrib_right]; rfl
  unfold runs
  rw [h3, h4, bne0, decide_eq_true_eq]
  have : 128 ≤ (a &&& 128) ||| 128 := Nat.right_le_or
  omega
theorem kk_stp (cw : Int) : stp (kk cw) = stp (k1 cw) := by
  obtain ⟨a, ha, e1, e⟩ := kk_nat cw
  have h2 : (a ||| 128) &&& 199 < 2 ^ 16 := Nat.lt_of_le_of_lt Nat.and_le_right (by decide)
  have h3 : a ||| 128 < 2 ^ 16 := Nat.or_lt_two_pow ha (by decide)
  unfold stp
  have h4 : bits .and .u16 (kk cw) 3 = bits .and .u16 (k1 cw) 3 := by
    rw [e, e1]
    rw [show bits .and .u16 (((a ||| 128) &&& 199 : Nat) : Int) 3 = _ from bits_and_n .u16 rfl _ 3 h2 (by decide), show bits .and .u16 ((a ||| 128 : Nat) : Int) 3 = _ from bits_and_n .u16 rfl _ 3 h3 (by decide), Nat.and_assoc]
    rfl
  rw [h4]
theorem stp_in (c : Int) : stp c = 1 ∨ stp c = 64 ∨ stp c = 256 ∨ stp c = 1024 := by
  unfold stp
  rw [and_m2 .u16 c (by decide)]
  have : c % 4 = 0 ∨ c % 4 = 1 ∨ c % 4 = 2 ∨ c % 4 = 3 := by omega
  rcases this with h | h | h | h <;> rw [h] <;> simp [selI]
theorem mm_bd (n : Int) : 2 ≤ mm n ∧ mm n ≤ 51 := by unfold mm; omega
theorem mm_of (n : Int) : IntKind.i64.wrap ((IntKind.i64.wrap (n.tmod 50 + 50)).tmod 50 + 2) = mm n := by
  have h1 := Int.tmod_lt_of_pos n (show (0 : Int) < 50 by decide)
  have h2 := Int.lt_tmod_of_pos n (show (0 : Int) < 50 by decide)
  have h3 := mm_bd n
  unfold mm at *
  rw [wi64_in (n.tmod 50 + 50) (by omega) (by omega), tmod_n _ _ (by omega), wi64_in _ (by omega) (by omega)]
theorem sp_bd (r cw : Int) (h0 : 0 ≤ r) (h1 : r < 65536) : 1 ≤ sp r cw ∧ sp r cw ≤ 67108864 := by
  unfold sp
  rcases stp_in (k1 cw) with h | h | h | h <;> rw [h] <;> omega
theorem due_of (r cw z : Int) (h0 : 0 ≤ r) (h1 : r < 65536) (h2 : 0 ≤ z) (h3 : z < 1099511627776) : due (kk cw) r z = z + sp r cw := by
  have hb := sp_bd r cw h0 h1
  unfold due
  rw [kk_stp, wi64_in r (by omega) (by omega), wi64_in (65536 - r) (by omega) (by omega)]
  rw [show (65536 - r) * stp (k1 cw) = sp r cw from rfl, wi64_in (sp r cw) (by omega) (by omega), wi64_in _ (by omega) (by omega)]
theorem period_calls (W : World) (r cw n : Int) (h0 : 0 ≤ r) (h1 : r < 65536) : Calls Try.prog 5 #[.int .u16 r, .int .u16 cw, .int .i64 n] W fun e w' => e = .returned (.bool true) ∧ RowKit.Grown W w' := by
  have hE : ExtI W Rh0 0 W := ExtI.refl W _
  have hm := mm_bd n
  have hp := sp_bd r cw h0 h1
  have hr := kk_runs cw
  have hS : (!decide (stp (kk cw) = (0 : Int))) = true := by
    rw [kk_stp]
    rcases stp_in (k1 cw) with h | h | h | h <;> rw [h] <;> rfl
  have er : IntKind.i64.wrap r = r := wi64_in _ (by omega) (by omega)
  have er6 : IntKind.u16.wrap r = r := wu16_in _ h0 h1
  refine law_of_calls (P := pe W) (ρ := Rh0) ?_
  refine calls_loopT (c := c5) (P := pe W) orcC_ok tab_ok tab_sz mixed Try.func5 rfl (by decide) (vs := [.c (.i false .u16 r), .c (.i false .u16 cw), .c (.i false .i64 n)]) (s := []) (Nat.le_of_ble_eq_true rfl) 20000 1606938044258990275541962092341162602522202993782792835301375 (hh5 W r cw n) (mu5 W r cw n) (fun _ => hd5 W) (lv5 W r cw n) (sv5 W r cw n) (fun _ => rfl) (fun x hx => ⟨rfl, rfl, Nat.le_of_ble_eq_true rfl⟩)
    (fun v _ => SV.sim v (.c (.b false true))) ?_ ?_ W 0 _ W (Inv.start hE) (by simp [SV.ok, C.ok, okL])
  · rw [period_pro]
    refine ⟨hr, in4 _, (0 : Int), ⟨by show (0 : Int) ≤ 0; omega, by show (0 : Int) ≤ mm n; omega⟩, rfl, rfl, ⟨⟨rfl, rfl⟩, rfl, ⟨rfl, ?_⟩, ⟨rfl, mm_of n⟩, rfl, rfl⟩, ⟨rfl, ⟨rfl, rfl⟩, ⟨rfl, rfl⟩, ⟨rfl, rfl⟩, ⟨rfl, ?_⟩, ⟨rfl, rfl⟩, ⟨rfl, rfl⟩, ⟨rfl, rfl⟩, ⟨rfl, rfl⟩, ⟨rfl, rfl⟩, ⟨rfl, rfl⟩, ⟨rfl, rfl⟩, ⟨rfl, rfl⟩, ⟨rfl, rfl⟩, ⟨rfl, rfl⟩, ⟨rfl, rfl⟩, rfl, rfl⟩, trivial⟩
    · rw [er, wi64_in (65536 - r) (by omega) (by omega)]
      exact wi64_in (sp r cw) (by omega) (by omega)
    · omega
  · intro j hj
    rw [period_round]
    have hj : 0 ≤ j ∧ j ≤ mm n := hj
    refine ⟨fun h => ?_, fun _ => rfl⟩
    rw [decide_eq_true_eq] at h
    have h : j < mm n := h
    have hQ0 : 0 ≤ j * sp r cw := Int.mul_nonneg hj.1 (by omega)
    have hQ1 : j * sp r cw ≤ 51 * 67108864 := Int.mul_le_mul (by omega) hp.2 (by omega) (by omega)
    have hjP : (j + 1) * sp r cw = j * sp r cw + sp r cw := by rw [Int.add_mul, Int.one_mul]
    have hD := due_of r cw (7 + j * sp r cw) h0 h1 (by omega) (by omega)
    have e1 : IntKind.i64.wrap (j + 1) = j + 1 := wi64_in _ (by omega) (by omega)
    obtain ⟨D, hDd⟩ : ∃ D, due (kk cw) r (7 + j * sp r cw) = D := ⟨_, rfl⟩
    rw [hDd] at hD
    have w1 : IntKind.i64.wrap (7 + IntKind.i64.wrap ((j + 1) * sp r cw)) = D := by rw [hjP, wi64_in (j * sp r cw + sp r cw) (by omega) (by omega), wi64_in _ (by omega) (by omega)]; omega
    have w2 : IntKind.i64.wrap (D - 1) = D - 1 := wi64_in _ (by omega) (by omega)
    have w3 : IntKind.u16.wrap (IntKind.i64.wrap (r + IntKind.i64.wrap ((IntKind.i64.wrap (D - D)).tdiv (stp (kk cw))))) = r := by
      rw [Int.sub_self, show IntKind.i64.wrap 0 = 0 from by decide, Int.zero_tdiv, show IntKind.i64.wrap 0 = 0 from by decide, Int.add_zero, er, er6]
    rw [hDd, e1, w1, w2, er, w3]
    have f1 : ¬ ((D != D) = true) := by simp
    have f2 : ¬ (decide (D > D) = true) := by simp
    have f3 : ¬ (decide (D > D - 1) = false) := by simp; omega
    have f5 : ¬ ((r != r) = true) := by simp
    refine ⟨hr, fun h1 => absurd h1 f1, fun _ => ⟨hr, fun _ => ⟨hr, fun h2 => absurd h2 f2, fun _ => ⟨hr, fun h3 => absurd h3 f1, fun _ => ⟨fun h4 => absurd h4 f1, fun _ => ⟨hr, hS, fun h5 => absurd h5 f5, fun _ => ?_⟩⟩⟩⟩, fun h2 => absurd h2 f3⟩⟩
    refine ⟨j + 1, ⟨by show 0 ≤ j + 1; omega, by show j + 1 ≤ mm n; omega⟩, (by show (mm n - (j + 1)).toNat < (mm n - j).toNat; omega), rfl, rfl, ⟨⟨rfl, rfl⟩, rfl, ⟨rfl, rfl⟩, ⟨rfl, rfl⟩, rfl, rfl⟩, ⟨rfl, ⟨rfl, rfl⟩, ⟨rfl, rfl⟩, ⟨rfl, rfl⟩, ⟨rfl, ?_⟩, ⟨rfl, rfl⟩, ⟨rfl, rfl⟩, ⟨rfl, rfl⟩, ⟨rfl, rfl⟩, ⟨rfl, rfl⟩, ⟨rfl, rfl⟩, ⟨rfl, rfl⟩, ⟨rfl, rfl⟩, ⟨rfl, rfl⟩, ⟨rfl, rfl⟩, ⟨rfl, rfl⟩, rfl, rfl⟩, trivial⟩
    rw [hjP]; omega
end Go.Proofs.Ytchebhjbcjjhpaa

