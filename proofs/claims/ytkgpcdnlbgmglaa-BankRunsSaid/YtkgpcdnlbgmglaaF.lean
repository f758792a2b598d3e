import Derived.Test.YtkgpcdnlbgmglaaE
import Derived.Test.YtkgpcdnlbgmglaaEw
set_option linter.unusedVariables false
set_option linter.unusedSimpArgs false
namespace Go.Proofs.Ytkgpcdnlbgmglaa
open Go Go.Proofs Go.Proofs.Ytkgpcdnlbgmglaa.Ev
def kdV (x : Int) : Int := cond (bits .and .u32 x 31 == 17) (bits .and .u32 x 31) (cond (bits .and .u32 x 31 == 18) (bits .and .u32 x 31) (cond (bits .and .u32 x 31 == 19) (bits .and .u32 x 31) (cond (bits .and .u32 x 31 == 23) (bits .and .u32 x 31) (cond (bits .and .u32 x 31 == 27) (bits .and .u32 x 31) 0))))
theorem kd_p (E : World) (x : Int) :
    (conP (.c (.i false .u32 (kdV x))) (fnTree (pe E) (orcE E) (tabL fns) 1000 Try.f24 [.c (.i false .u32 x)] [])) =
    (((bits BinOp.and IntKind.u32 x (31 : Int) == (17 : Int)) = true → IntKind.u32 = IntKind.u32 ∧ bits BinOp.and IntKind.u32 x (31 : Int) = kdV x) ∧ ((bits BinOp.and
      IntKind.u32 x (31 : Int) == (17 : Int)) = false → ((bits BinOp.and IntKind.u32 x (31 : Int) == (18 : Int)) = true → IntKind.u32 = IntKind.u32 ∧ bits BinOp.and IntKind.u32
      x (31 : Int) = kdV x) ∧ ((bits BinOp.and IntKind.u32 x (31 : Int) == (18 : Int)) = false → ((bits BinOp.and IntKind.u32 x (31 : Int) == (19 : Int)) = true → IntKind.u32 =
      IntKind.u32 ∧ bits BinOp.and IntKind.u32 x (31 : Int) = kdV x) ∧ ((bits BinOp.and IntKind.u32 x (31 : Int) == (19 : Int)) = false → ((bits BinOp.and IntKind.u32 x (31 :
      Int) == (23 : Int)) = true → IntKind.u32 = IntKind.u32 ∧ bits BinOp.and IntKind.u32 x (31 : Int) = kdV x) ∧ ((bits BinOp.and IntKind.u32 x (31 : Int) == (23 : Int)) =
      false → ((bits BinOp.and IntKind.u32 x (31 : Int) == (27 : Int)) = true → IntKind.u32 = IntKind.u32 ∧ bits BinOp.and IntKind.u32 x (31 : Int) = kdV x) ∧ ((bits BinOp.and
      IntKind.u32 x (31 : Int) == (27 : Int)) = false → IntKind.u32 = IntKind.u32 ∧ (0 : Int) = kdV x)))))) := by kernel_rfl
theorem kd_ok (E : World) (x : Int) : conP (.c (.i false .u32 (kdV x))) (fnTree (pe E) (orcE E) (tabL fns) 1000 Try.f24 [.c (.i false .u32 x)] []) := by
  rw [kd_p]
  unfold kdV
  repeat' first | exact rfl | intro _ | apply And.intro
  all_goals simp only [*, cond_true, cond_false, and_self]
set_option maxRecDepth 100000 in
theorem kd_c (E : World) (l1 : Bool) (x : Int) (s : SW) : CallTree (pe E) 24 [.c (.i l1 .u32 x)] s (.leaf (.c (.i false .u32 (kdV x)), s)) := by
  refine CallTree.args (vs' := [.c (.i false .u32 x)]) ⟨rfl, rfl⟩ ?_
  exact pure_contractH (fnTree_sound (P := pe E) orcE_ok tab_ok tab_sz mixed 1000 Try.func24 (by decide) [.c (.i false .u32 x)] []) (by simp [SV.ok, C.ok, okL]) (v := .c (.i false .u32 (kdV x))) rfl ⟨kd_ok E x⟩ s
def orcF (E : World) : Orc := fun g vs s => match g, vs with
  | 24, [.c (.i _ .u32 x)] => some (.leaf (.c (.i false .u32 (kdV x)), s))
  | g, vs => (orcE E) g vs s
theorem orcF_ok {E : World} : OrcOK (pe E) (orcF E) := by
  intro g vs s t h
  unfold orcF at h
  split at h
  · cases h
    exact kd_c E _ _ s
  · exact orcE_ok _ _ _ _ h
noncomputable def c5 : Code := Try.f5.body.getD .skip
noncomputable def hd5 (E : World) : List Item := headOf (run (pe E) (orcF E) (tabL fns) 20000 4 [.code c5] ⟨Try.f5.ntmps, mkFrGo (Tr.mk 12) 0 [.c (.es none 0 0), .c (.i true .u32 0), .c (.i true .u32 0)]⟩ [])
noncomputable def hdb5 (E : World) : List Item := headOf (run (pe E) (orcF E) (tabL fns) 20000 4 (hd5 E) (mkL Try.f5.ntmps [(1, .c (.i true .u32 0)), (2, .c (.i true .u32 0)), (7, .c (.p 0 0)), (20, .c (.es none 0 0)), (21, .c (.i true .i64 0)), (22, .c (.i true .i64 0))]) [⟨bk (fun _ => 0), 59⟩])
def la5 (a : Option Addr) (n c : Nat) (mode to : Int) (x : Nat × (Nat → Int)) : List (Nat × SV) := [(1, .c (.i false .u32 mode)), (2, .c (.i false .u32 to)), (7, .c (.p 0 0)), (20, .c (.es a n c)), (21, .c (.i false .i64 (n : Int))), (22, .c (.i false .i64 (x.1 : Int)))]
def sa5 (x : Nat × (Nat → Int)) : SW := [⟨bk x.2, 59⟩]
def lb5 (mode to : Int) (d : Nat → Int) : List (Nat × SV) := [(1, .c (.i false .u32 mode)), (2, .c (.i false .u32 to)), (7, .c (.p 0 0)), (10, .c (.i false .u32 (d 0))), (11, .c (.p 1 0)), (32, .c (.i true .i64 0))]
def sb5 (d : Nat → Int) : SW := [⟨bk d, 59⟩, ⟨[.i true .u32 0, .i true .u32 0, .i true .u32 0, .i true .u32 0, .i true .u32 0, .i true .u32 0, .i true .u32 0, .i true .u32 0, .i true .u32 0, .i true .u32 0, .i true .u32 0, .i true .u32 0, .i true .u32 0, .i true .u32 0, .i true .u32 0, .i true .u32 0], 33⟩]
def usr33 : SW → Bool | _ :: ⟨_, ty⟩ :: _ => Nat.beq ty 33 | _ => false
def Q5 (E : World) (a : Option Addr) (n c : Nat) (mode to : Int) (k : Nat) (todo : List Item) (fr : Fr) (s' : SW) : Prop :=
  cond (usr33 s') (∃ d : Nat → Int, (0 ≤ d 0 ∧ d 0 < 4294967296) ∧ todo = hdb5 E ∧ fr.nt = Try.f5.ntmps ∧ refP fr (lb5 mode to d) ∧ refT s' (sb5 d))
    (∃ x : Nat × (Nat → Int), (x.1 ≤ n ∧ 0 ≤ x.2 0 ∧ x.2 0 < 4294967296) ∧ n - x.1 + 1 < k ∧ todo = hd5 E ∧ fr.nt = Try.f5.ntmps ∧ refP fr (la5 a n c mode to x) ∧ refT s' (sa5 x))
theorem enters_pro (E : World) (a : Option Addr) (n c : Nat) (mode to : Int) :
    (loopP (pe E) Try.f5 (fun v _ => SV.sim v (.c (.b false true))) (Q5 E a n c mode to (n + 2)) (run (pe E) (orcF E) (tabL fns) 20000 4 [.code c5] ⟨Try.f5.ntmps, mkFrGo (Tr.mk 12) 0 [.c (.es a n c), .c (.i false .u32 mode), .c (.i false .u32 to)]⟩ [])) =
    ((decide ((↑n : Int) > (300 : Int)) = true → true = true) ∧ (decide ((↑n : Int) > (300 : Int)) = false → ∃ (x : Nat × (Nat → Int)), (x.fst ≤ n ∧ (0 : Int) ≤ x.snd (0 : Nat)
      ∧ x.snd (0 : Nat) < (4294967296 : Int)) ∧ n - x.fst + (1 : Nat) < n + (2 : Nat) ∧ hd5 E = hd5 E ∧ (108 : Nat) = (108 : Nat) ∧ ((IntKind.u32 = IntKind.u32 ∧ mode = mode) ∧
      (IntKind.u32 = IntKind.u32 ∧ to = to) ∧ C.p (0 : Nat) (0 : Nat) = C.p (0 : Nat) (0 : Nat) ∧ C.es a n c = C.es a n c ∧ (IntKind.i64 = IntKind.i64 ∧ (↑n : Int) = (↑n : Int))
      ∧ IntKind.i64 = IntKind.i64 ∧ (0 : Int) = (↑x.fst : Int)) ∧ ((59 : Nat) = (59 : Nat) ∧ (IntKind.u32 = IntKind.u32 ∧ (31 : Int) = x.snd (0 : Nat)) ∧ (IntKind.u32 =
      IntKind.u32 ∧ (0 : Int) = x.snd (1 : Nat)) ∧ (IntKind.u32 = IntKind.u32 ∧ (0 : Int) = x.snd (2 : Nat)) ∧ (IntKind.u32 = IntKind.u32 ∧ (0 : Int) = x.snd (3 : Nat)) ∧
      (IntKind.u32 = IntKind.u32 ∧ (0 : Int) = x.snd (4 : Nat)) ∧ (IntKind.u32 = IntKind.u32 ∧ (0 : Int) = x.snd (5 : Nat)) ∧ (IntKind.u32 = IntKind.u32 ∧ (0 : Int) = x.snd (6 :
      Nat)) ∧ (IntKind.u32 = IntKind.u32 ∧ (0 : Int) = x.snd (7 : Nat)) ∧ (IntKind.u32 = IntKind.u32 ∧ (0 : Int) = x.snd (8 : Nat)) ∧ (IntKind.u32 = IntKind.u32 ∧ (0 : Int) =
      x.snd (9 : Nat)) ∧ (IntKind.u32 = IntKind.u32 ∧ (0 : Int) = x.snd (10 : Nat)) ∧ (IntKind.u32 = IntKind.u32 ∧ (0 : Int) = x.snd (11 : Nat)) ∧ (IntKind.u32 = IntKind.u32 ∧
      (0 : Int) = x.snd (12 : Nat)) ∧ (IntKind.u32 = IntKind.u32 ∧ (0 : Int) = x.snd (13 : Nat)) ∧ (IntKind.u32 = IntKind.u32 ∧ (0 : Int) = x.snd (14 : Nat)) ∧ (IntKind.u32 =
      IntKind.u32 ∧ (0 : Int) = x.snd (15 : Nat)) ∧ (IntKind.u32 = IntKind.u32 ∧ (0 : Int) = x.snd (16 : Nat)) ∧ (IntKind.u32 = IntKind.u32 ∧ (0 : Int) = x.snd (17 : Nat)) ∧
      (IntKind.u32 = IntKind.u32 ∧ (0 : Int) = x.snd (18 : Nat)) ∧ (IntKind.u32 = IntKind.u32 ∧ (0 : Int) = x.snd (19 : Nat)) ∧ (IntKind.u32 = IntKind.u32 ∧ (0 : Int) = x.snd
      (20 : Nat)) ∧ (IntKind.u32 = IntKind.u32 ∧ (0 : Int) = x.snd (21 : Nat)) ∧ (IntKind.u32 = IntKind.u32 ∧ (0 : Int) = x.snd (22 : Nat)) ∧ (IntKind.u32 = IntKind.u32 ∧ (0 :
      Int) = x.snd (23 : Nat)) ∧ (IntKind.u32 = IntKind.u32 ∧ (0 : Int) = x.snd (24 : Nat)) ∧ (IntKind.u32 = IntKind.u32 ∧ (0 : Int) = x.snd (25 : Nat)) ∧ (IntKind.u32 =
      IntKind.u32 ∧ (0 : Int) = x.snd (26 : Nat)) ∧ (IntKind.u32 = IntKind.u32 ∧ (0 : Int) = x.snd (27 : Nat)) ∧ (IntKind.u32 = IntKind.u32 ∧ (0 : Int) = x.snd (28 : Nat)) ∧
      (IntKind.u32 = IntKind.u32 ∧ (0 : Int) = x.snd (29 : Nat)) ∧ (IntKind.u32 = IntKind.u32 ∧ (0 : Int) = x.snd (30 : Nat)) ∧ (IntKind.u32 = IntKind.u32 ∧ (0 : Int) = x.snd
      (31 : Nat)) ∧ (IntKind.u32 = IntKind.u32 ∧ (0 : Int) = x.snd (32 : Nat)) ∧ (IntKind.u32 = IntKind.u32 ∧ (0 : Int) = x.snd (33 : Nat)) ∧ (IntKind.u32 = IntKind.u32 ∧ (0 :
      Int) = x.snd (34 : Nat)) ∧ (IntKind.u32 = IntKind.u32 ∧ (0 : Int) = x.snd (35 : Nat)) ∧ (IntKind.u32 = IntKind.u32 ∧ (0 : Int) = x.snd (36 : Nat)) ∧ (IntKind.u32 =
      IntKind.u32 ∧ (0 : Int) = x.snd (37 : Nat)) ∧ (IntKind.u32 = IntKind.u32 ∧ (0 : Int) = x.snd (38 : Nat)) ∧ (IntKind.u32 = IntKind.u32 ∧ (0 : Int) = x.snd (39 : Nat)) ∧
      (IntKind.u32 = IntKind.u32 ∧ (0 : Int) = x.snd (40 : Nat)) ∧ (IntKind.u32 = IntKind.u32 ∧ (0 : Int) = x.snd (41 : Nat)) ∧ (IntKind.u32 = IntKind.u32 ∧ (0 : Int) = x.snd
      (42 : Nat)) ∧ (IntKind.u32 = IntKind.u32 ∧ (0 : Int) = x.snd (43 : Nat)) ∧ IntKind.u32 = IntKind.u32 ∧ (0 : Int) = x.snd (44 : Nat)) ∧ True)) := by kernel_rfl
theorem enters_round (E : World) (a : Option Addr) (n c : Nat) (mode to : Int) (j : Nat × (Nat → Int)) :
    (loopP (pe E) Try.f5 (fun v _ => SV.sim v (.c (.b false true))) (Q5 E a n c mode to (n - j.1 + 1)) (run (pe E) (orcF E) (tabL fns) 20000 4 (hd5 E) (mkL Try.f5.ntmps (la5 a n c mode to j)) (sa5 j))) =
    ((decide ((↑j.fst : Int) < (↑n : Int)) = true → inB (↑j.fst : Int) n = true ∧ a.isSome = true ∧ eRow E a ((↑j.fst : Int).toNat * (3 : Nat) + (0 : Nat)) ([EK.i IntKind.i64]
      ++ ([EK.i IntKind.i64] ++ ([EK.i IntKind.u32] ++ []))) = true ∧ ((eI E a ((↑j.fst : Int).toNat * (3 : Nat) + (0 : Nat)) == (0 : Int)) = true → ∃ (x : Nat × (Nat → Int)),
      (x.fst ≤ n ∧ (0 : Int) ≤ x.snd (0 : Nat) ∧ x.snd (0 : Nat) < (4294967296 : Int)) ∧ n - x.fst + (1 : Nat) < n - j.fst + (1 : Nat) ∧ hd5 E = hd5 E ∧ (108 : Nat) = (108 :
      Nat) ∧ ((IntKind.u32 = IntKind.u32 ∧ mode = mode) ∧ (IntKind.u32 = IntKind.u32 ∧ to = to) ∧ C.p (0 : Nat) (0 : Nat) = C.p (0 : Nat) (0 : Nat) ∧ C.es a n c = C.es a n c ∧
      (IntKind.i64 = IntKind.i64 ∧ (↑n : Int) = (↑n : Int)) ∧ IntKind.i64 = IntKind.i64 ∧ IntKind.i64.wrap ((↑j.fst : Int) + (1 : Int)) = (↑x.fst : Int)) ∧ ((59 : Nat) = (59 :
      Nat) ∧ (IntKind.u32 = IntKind.u32 ∧ setC (ofL (bk j.snd)) (eI E a ((↑j.fst : Int).toNat * (3 : Nat) + (1 : Nat))) (eI E a ((↑j.fst : Int).toNat * (3 : Nat) + (2 : Nat)))
      (0 : Nat) = x.snd (0 : Nat)) ∧ (IntKind.u32 = IntKind.u32 ∧ setC (ofL (bk j.snd)) (eI E a ((↑j.fst : Int).toNat * (3 : Nat) + (1 : Nat))) (eI E a ((↑j.fst : Int).toNat *
      (3 : Nat) + (2 : Nat))) (1 : Nat) = x.snd (1 : Nat)) ∧ (IntKind.u32 = IntKind.u32 ∧ setC (ofL (bk j.snd)) (eI E a ((↑j.fst : Int).toNat * (3 : Nat) + (1 : Nat))) (eI E a
      ((↑j.fst : Int).toNat * (3 : Nat) + (2 : Nat))) (2 : Nat) = x.snd (2 : Nat)) ∧ (IntKind.u32 = IntKind.u32 ∧ setC (ofL (bk j.snd)) (eI E a ((↑j.fst : Int).toNat * (3 : Nat)
      + (1 : Nat))) (eI E a ((↑j.fst : Int).toNat * (3 : Nat) + (2 : Nat))) (3 : Nat) = x.snd (3 : Nat)) ∧ (IntKind.u32 = IntKind.u32 ∧ setC (ofL (bk j.snd)) (eI E a ((↑j.fst :
      Int).toNat * (3 : Nat) + (1 : Nat))) (eI E a ((↑j.fst : Int).toNat * (3 : Nat) + (2 : Nat))) (4 : Nat) = x.snd (4 : Nat)) ∧ (IntKind.u32 = IntKind.u32 ∧ setC (ofL (bk
      j.snd)) (eI E a ((↑j.fst : Int).toNat * (3 : Nat) + (1 : Nat))) (eI E a ((↑j.fst : Int).toNat * (3 : Nat) + (2 : Nat))) (5 : Nat) = x.snd (5 : Nat)) ∧ (IntKind.u32 =
      IntKind.u32 ∧ setC (ofL (bk j.snd)) (eI E a ((↑j.fst : Int).toNat * (3 : Nat) + (1 : Nat))) (eI E a ((↑j.fst : Int).toNat * (3 : Nat) + (2 : Nat))) (6 : Nat) = x.snd (6 :
      Nat)) ∧ (IntKind.u32 = IntKind.u32 ∧ setC (ofL (bk j.snd)) (eI E a ((↑j.fst : Int).toNat * (3 : Nat) + (1 : Nat))) (eI E a ((↑j.fst : Int).toNat * (3 : Nat) + (2 : Nat)))
      (7 : Nat) = x.snd (7 : Nat)) ∧ (IntKind.u32 = IntKind.u32 ∧ setC (ofL (bk j.snd)) (eI E a ((↑j.fst : Int).toNat * (3 : Nat) + (1 : Nat))) (eI E a ((↑j.fst : Int).toNat *
      (3 : Nat) + (2 : Nat))) (8 : Nat) = x.snd (8 : Nat)) ∧ (IntKind.u32 = IntKind.u32 ∧ setC (ofL (bk j.snd)) (eI E a ((↑j.fst : Int).toNat * (3 : Nat) + (1 : Nat))) (eI E a
      ((↑j.fst : Int).toNat * (3 : Nat) + (2 : Nat))) (9 : Nat) = x.snd (9 : Nat)) ∧ (IntKind.u32 = IntKind.u32 ∧ setC (ofL (bk j.snd)) (eI E a ((↑j.fst : Int).toNat * (3 : Nat)
      + (1 : Nat))) (eI E a ((↑j.fst : Int).toNat * (3 : Nat) + (2 : Nat))) (10 : Nat) = x.snd (10 : Nat)) ∧ (IntKind.u32 = IntKind.u32 ∧ setC (ofL (bk j.snd)) (eI E a ((↑j.fst
      : Int).toNat * (3 : Nat) + (1 : Nat))) (eI E a ((↑j.fst : Int).toNat * (3 : Nat) + (2 : Nat))) (11 : Nat) = x.snd (11 : Nat)) ∧ (IntKind.u32 = IntKind.u32 ∧ setC (ofL (bk
      j.snd)) (eI E a ((↑j.fst : Int).toNat * (3 : Nat) + (1 : Nat))) (eI E a ((↑j.fst : Int).toNat * (3 : Nat) + (2 : Nat))) (12 : Nat) = x.snd (12 : Nat)) ∧ (IntKind.u32 =
      IntKind.u32 ∧ setC (ofL (bk j.snd)) (eI E a ((↑j.fst : Int).toNat * (3 : Nat) + (1 : Nat))) (eI E a ((↑j.fst : Int).toNat * (3 : Nat) + (2 : Nat))) (13 : Nat) = x.snd (13
      : Nat)) ∧ (IntKind.u32 = IntKind.u32 ∧ setC (ofL (bk j.snd)) (eI E a ((↑j.fst : Int).toNat * (3 : Nat) + (1 : Nat))) (eI E a ((↑j.fst : Int).toNat * (3 : Nat) + (2 :
      Nat))) (14 : Nat) = x.snd (14 : Nat)) ∧ (IntKind.u32 = IntKind.u32 ∧ setC (ofL (bk j.snd)) (eI E a ((↑j.fst : Int).toNat * (3 : Nat) + (1 : Nat))) (eI E a ((↑j.fst :
      Int).toNat * (3 : Nat) + (2 : Nat))) (15 : Nat) = x.snd (15 : Nat)) ∧ (IntKind.u32 = IntKind.u32 ∧ setC (ofL (bk j.snd)) (eI E a ((↑j.fst : Int).toNat * (3 : Nat) + (1 :
      Nat))) (eI E a ((↑j.fst : Int).toNat * (3 : Nat) + (2 : Nat))) (16 : Nat) = x.snd (16 : Nat)) ∧ (IntKind.u32 = IntKind.u32 ∧ setC (ofL (bk j.snd)) (eI E a ((↑j.fst :
      Int).toNat * (3 : Nat) + (1 : Nat))) (eI E a ((↑j.fst : Int).toNat * (3 : Nat) + (2 : Nat))) (17 : Nat) = x.snd (17 : Nat)) ∧ (IntKind.u32 = IntKind.u32 ∧ setC (ofL (bk
      j.snd)) (eI E a ((↑j.fst : Int).toNat * (3 : Nat) + (1 : Nat))) (eI E a ((↑j.fst : Int).toNat * (3 : Nat) + (2 : Nat))) (18 : Nat) = x.snd (18 : Nat)) ∧ (IntKind.u32 =
      IntKind.u32 ∧ setC (ofL (bk j.snd)) (eI E a ((↑j.fst : Int).toNat * (3 : Nat) + (1 : Nat))) (eI E a ((↑j.fst : Int).toNat * (3 : Nat) + (2 : Nat))) (19 : Nat) = x.snd (19
      : Nat)) ∧ (IntKind.u32 = IntKind.u32 ∧ setC (ofL (bk j.snd)) (eI E a ((↑j.fst : Int).toNat * (3 : Nat) + (1 : Nat))) (eI E a ((↑j.fst : Int).toNat * (3 : Nat) + (2 :
      Nat))) (20 : Nat) = x.snd (20 : Nat)) ∧ (IntKind.u32 = IntKind.u32 ∧ setC (ofL (bk j.snd)) (eI E a ((↑j.fst : Int).toNat * (3 : Nat) + (1 : Nat))) (eI E a ((↑j.fst :
      Int).toNat * (3 : Nat) + (2 : Nat))) (21 : Nat) = x.snd (21 : Nat)) ∧ (IntKind.u32 = IntKind.u32 ∧ setC (ofL (bk j.snd)) (eI E a ((↑j.fst : Int).toNat * (3 : Nat) + (1 :
      Nat))) (eI E a ((↑j.fst : Int).toNat * (3 : Nat) + (2 : Nat))) (22 : Nat) = x.snd (22 : Nat)) ∧ (IntKind.u32 = IntKind.u32 ∧ setC (ofL (bk j.snd)) (eI E a ((↑j.fst :
      Int).toNat * (3 : Nat) + (1 : Nat))) (eI E a ((↑j.fst : Int).toNat * (3 : Nat) + (2 : Nat))) (23 : Nat) = x.snd (23 : Nat)) ∧ (IntKind.u32 = IntKind.u32 ∧ setC (ofL (bk
      j.snd)) (eI E a ((↑j.fst : Int).toNat * (3 : Nat) + (1 : Nat))) (eI E a ((↑j.fst : Int).toNat * (3 : Nat) + (2 : Nat))) (24 : Nat) = x.snd (24 : Nat)) ∧ (IntKind.u32 =
      IntKind.u32 ∧ setC (ofL (bk j.snd)) (eI E a ((↑j.fst : Int).toNat * (3 : Nat) + (1 : Nat))) (eI E a ((↑j.fst : Int).toNat * (3 : Nat) + (2 : Nat))) (25 : Nat) = x.snd (25
      : Nat)) ∧ (IntKind.u32 = IntKind.u32 ∧ setC (ofL (bk j.snd)) (eI E a ((↑j.fst : Int).toNat * (3 : Nat) + (1 : Nat))) (eI E a ((↑j.fst : Int).toNat * (3 : Nat) + (2 :
      Nat))) (26 : Nat) = x.snd (26 : Nat)) ∧ (IntKind.u32 = IntKind.u32 ∧ setC (ofL (bk j.snd)) (eI E a ((↑j.fst : Int).toNat * (3 : Nat) + (1 : Nat))) (eI E a ((↑j.fst :
      Int).toNat * (3 : Nat) + (2 : Nat))) (27 : Nat) = x.snd (27 : Nat)) ∧ (IntKind.u32 = IntKind.u32 ∧ setC (ofL (bk j.snd)) (eI E a ((↑j.fst : Int).toNat * (3 : Nat) + (1 :
      Nat))) (eI E a ((↑j.fst : Int).toNat * (3 : Nat) + (2 : Nat))) (28 : Nat) = x.snd (28 : Nat)) ∧ (IntKind.u32 = IntKind.u32 ∧ setC (ofL (bk j.snd)) (eI E a ((↑j.fst :
      Int).toNat * (3 : Nat) + (1 : Nat))) (eI E a ((↑j.fst : Int).toNat * (3 : Nat) + (2 : Nat))) (29 : Nat) = x.snd (29 : Nat)) ∧ (IntKind.u32 = IntKind.u32 ∧ setC (ofL (bk
      j.snd)) (eI E a ((↑j.fst : Int).toNat * (3 : Nat) + (1 : Nat))) (eI E a ((↑j.fst : Int).toNat * (3 : Nat) + (2 : Nat))) (30 : Nat) = x.snd (30 : Nat)) ∧ (IntKind.u32 =
      IntKind.u32 ∧ setC (ofL (bk j.snd)) (eI E a ((↑j.fst : Int).toNat * (3 : Nat) + (1 : Nat))) (eI E a ((↑j.fst : Int).toNat * (3 : Nat) + (2 : Nat))) (31 : Nat) = x.snd (31
      : Nat)) ∧ (IntKind.u32 = IntKind.u32 ∧ setC (ofL (bk j.snd)) (eI E a ((↑j.fst : Int).toNat * (3 : Nat) + (1 : Nat))) (eI E a ((↑j.fst : Int).toNat * (3 : Nat) + (2 :
      Nat))) (32 : Nat) = x.snd (32 : Nat)) ∧ (IntKind.u32 = IntKind.u32 ∧ setC (ofL (bk j.snd)) (eI E a ((↑j.fst : Int).toNat * (3 : Nat) + (1 : Nat))) (eI E a ((↑j.fst :
      Int).toNat * (3 : Nat) + (2 : Nat))) (33 : Nat) = x.snd (33 : Nat)) ∧ (IntKind.u32 = IntKind.u32 ∧ setC (ofL (bk j.snd)) (eI E a ((↑j.fst : Int).toNat * (3 : Nat) + (1 :
      Nat))) (eI E a ((↑j.fst : Int).toNat * (3 : Nat) + (2 : Nat))) (34 : Nat) = x.snd (34 : Nat)) ∧ (IntKind.u32 = IntKind.u32 ∧ setC (ofL (bk j.snd)) (eI E a ((↑j.fst :
      Int).toNat * (3 : Nat) + (1 : Nat))) (eI E a ((↑j.fst : Int).toNat * (3 : Nat) + (2 : Nat))) (35 : Nat) = x.snd (35 : Nat)) ∧ (IntKind.u32 = IntKind.u32 ∧ setC (ofL (bk
      j.snd)) (eI E a ((↑j.fst : Int).toNat * (3 : Nat) + (1 : Nat))) (eI E a ((↑j.fst : Int).toNat * (3 : Nat) + (2 : Nat))) (36 : Nat) = x.snd (36 : Nat)) ∧ (IntKind.u32 =
      IntKind.u32 ∧ setC (ofL (bk j.snd)) (eI (pe E).E a ((↑j.fst : Int).toNat * (3 : Nat) + (1 : Nat))) (eI (pe E).E a ((↑j.fst : Int).toNat * (3 : Nat) + (2 : Nat))) (37 :
      Nat) = x.snd (37 : Nat)) ∧ (IntKind.u32 = IntKind.u32 ∧ setC (ofL (bk j.snd)) (eI (pe E).E a ((↑j.fst : Int).toNat * (3 : Nat) + (1 : Nat))) (eI (pe E).E a ((↑j.fst :
      Int).toNat * (3 : Nat) + (2 : Nat))) (38 : Nat) = x.snd (38 : Nat)) ∧ (IntKind.u32 = IntKind.u32 ∧ setC (ofL (bk j.snd)) (eI (pe E).E a ((↑j.fst : Int).toNat * (3 : Nat) +
      (1 : Nat))) (eI (pe E).E a ((↑j.fst : Int).toNat * (3 : Nat) + (2 : Nat))) (39 : Nat) = x.snd (39 : Nat)) ∧ (IntKind.u32 = IntKind.u32 ∧ setC (ofL (bk j.snd)) (eI (pe E).E
      a ((↑j.fst : Int).toNat * (3 : Nat) + (1 : Nat))) (eI (pe E).E a ((↑j.fst : Int).toNat * (3 : Nat) + (2 : Nat))) (40 : Nat) = x.snd (40 : Nat)) ∧ (IntKind.u32 =
      IntKind.u32 ∧ setC (ofL (bk j.snd)) (eI (pe E).E a ((↑j.fst : Int).toNat * (3 : Nat) + (1 : Nat))) (eI (pe E).E a ((↑j.fst : Int).toNat * (3 : Nat) + (2 : Nat))) (41 :
      Nat) = x.snd (41 : Nat)) ∧ (IntKind.u32 = IntKind.u32 ∧ setC (ofL (bk j.snd)) (eI (pe E).E a ((↑j.fst : Int).toNat * (3 : Nat) + (1 : Nat))) (eI (pe E).E a ((↑j.fst :
      Int).toNat * (3 : Nat) + (2 : Nat))) (42 : Nat) = x.snd (42 : Nat)) ∧ (IntKind.u32 = IntKind.u32 ∧ setC (ofL (bk j.snd)) (eI (pe E).E a ((↑j.fst : Int).toNat * (3 : Nat) +
      (1 : Nat))) (eI (pe E).E a ((↑j.fst : Int).toNat * (3 : Nat) + (2 : Nat))) (43 : Nat) = x.snd (43 : Nat)) ∧ IntKind.u32 = IntKind.u32 ∧ setC (ofL (bk j.snd)) (eI (pe E).E
      a ((↑j.fst : Int).toNat * (3 : Nat) + (1 : Nat))) (eI (pe E).E a ((↑j.fst : Int).toNat * (3 : Nat) + (2 : Nat))) (44 : Nat) = x.snd (44 : Nat)) ∧ True) ∧ ((eI E a ((↑j.fst
      : Int).toNat * (3 : Nat) + (0 : Nat)) == (0 : Int)) = false → ((eI E a ((↑j.fst : Int).toNat * (3 : Nat) + (0 : Nat)) == (1 : Int)) = true → ∃ (x : Nat × (Nat → Int)),
      (x.fst ≤ n ∧ (0 : Int) ≤ x.snd (0 : Nat) ∧ x.snd (0 : Nat) < (4294967296 : Int)) ∧ n - x.fst + (1 : Nat) < n - j.fst + (1 : Nat) ∧ hd5 E = hd5 E ∧ (108 : Nat) = (108 :
      Nat) ∧ ((IntKind.u32 = IntKind.u32 ∧ mode = mode) ∧ (IntKind.u32 = IntKind.u32 ∧ to = to) ∧ C.p (0 : Nat) (0 : Nat) = C.p (0 : Nat) (0 : Nat) ∧ C.es a n c = C.es a n c ∧
      (IntKind.i64 = IntKind.i64 ∧ (↑n : Int) = (↑n : Int)) ∧ IntKind.i64 = IntKind.i64 ∧ IntKind.i64.wrap ((↑j.fst : Int) + (1 : Int)) = (↑x.fst : Int)) ∧ ((59 : Nat) = (59 :
      Nat) ∧ (IntKind.u32 = IntKind.u32 ∧ setSt (ofL (bk j.snd)) (eI E a ((↑j.fst : Int).toNat * (3 : Nat) + (2 : Nat))) (0 : Nat) = x.snd (0 : Nat)) ∧ (IntKind.u32 =
      IntKind.u32 ∧ setSt (ofL (bk j.snd)) (eI E a ((↑j.fst : Int).toNat * (3 : Nat) + (2 : Nat))) (1 : Nat) = x.snd (1 : Nat)) ∧ (IntKind.u32 = IntKind.u32 ∧ setSt (ofL (bk
      j.snd)) (eI E a ((↑j.fst : Int).toNat * (3 : Nat) + (2 : Nat))) (2 : Nat) = x.snd (2 : Nat)) ∧ (IntKind.u32 = IntKind.u32 ∧ setSt (ofL (bk j.snd)) (eI E a ((↑j.fst :
      Int).toNat * (3 : Nat) + (2 : Nat))) (3 : Nat) = x.snd (3 : Nat)) ∧ (IntKind.u32 = IntKind.u32 ∧ setSt (ofL (bk j.snd)) (eI E a ((↑j.fst : Int).toNat * (3 : Nat) + (2 :
      Nat))) (4 : Nat) = x.snd (4 : Nat)) ∧ (IntKind.u32 = IntKind.u32 ∧ setSt (ofL (bk j.snd)) (eI E a ((↑j.fst : Int).toNat * (3 : Nat) + (2 : Nat))) (5 : Nat) = x.snd (5 :
      Nat)) ∧ (IntKind.u32 = IntKind.u32 ∧ setSt (ofL (bk j.snd)) (eI E a ((↑j.fst : Int).toNat * (3 : Nat) + (2 : Nat))) (6 : Nat) = x.snd (6 : Nat)) ∧ (IntKind.u32 =
      IntKind.u32 ∧ setSt (ofL (bk j.snd)) (eI E a ((↑j.fst : Int).toNat * (3 : Nat) + (2 : Nat))) (7 : Nat) = x.snd (7 : Nat)) ∧ (IntKind.u32 = IntKind.u32 ∧ setSt (ofL (bk
      j.snd)) (eI E a ((↑j.fst : Int).toNat * (3 : Nat) + (2 : Nat))) (8 : Nat) = x.snd (8 : Nat)) ∧ (IntKind.u32 = IntKind.u32 ∧ setSt (ofL (bk j.snd)) (eI E a ((↑j.fst :
      Int).toNat * (3 : Nat) + (2 : Nat))) (9 : Nat) = x.snd (9 : Nat)) ∧ (IntKind.u32 = IntKind.u32 ∧ setSt (ofL (bk j.snd)) (eI E a ((↑j.fst : Int).toNat * (3 : Nat) + (2 :
      Nat))) (10 : Nat) = x.snd (10 : Nat)) ∧ (IntKind.u32 = IntKind.u32 ∧ setSt (ofL (bk j.snd)) (eI E a ((↑j.fst : Int).toNat * (3 : Nat) + (2 : Nat))) (11 : Nat) = x.snd (11
      : Nat)) ∧ (IntKind.u32 = IntKind.u32 ∧ setSt (ofL (bk j.snd)) (eI E a ((↑j.fst : Int).toNat * (3 : Nat) + (2 : Nat))) (12 : Nat) = x.snd (12 : Nat)) ∧ (IntKind.u32 =
      IntKind.u32 ∧ setSt (ofL (bk j.snd)) (eI E a ((↑j.fst : Int).toNat * (3 : Nat) + (2 : Nat))) (13 : Nat) = x.snd (13 : Nat)) ∧ (IntKind.u32 = IntKind.u32 ∧ setSt (ofL (bk
      j.snd)) (eI E a ((↑j.fst : Int).toNat * (3 : Nat) + (2 : Nat))) (14 : Nat) = x.snd (14 : Nat)) ∧ (IntKind.u32 = IntKind.u32 ∧ setSt (ofL (bk j.snd)) (eI E a ((↑j.fst :
      Int).toNat * (3 : Nat) + (2 : Nat))) (15 : Nat) = x.snd (15 : Nat)) ∧ (IntKind.u32 = IntKind.u32 ∧ setSt (ofL (bk j.snd)) (eI E a ((↑j.fst : Int).toNat * (3 : Nat) + (2 :
      Nat))) (16 : Nat) = x.snd (16 : Nat)) ∧ (IntKind.u32 = IntKind.u32 ∧ setSt (ofL (bk j.snd)) (eI E a ((↑j.fst : Int).toNat * (3 : Nat) + (2 : Nat))) (17 : Nat) = x.snd (17
      : Nat)) ∧ (IntKind.u32 = IntKind.u32 ∧ setSt (ofL (bk j.snd)) (eI E a ((↑j.fst : Int).toNat * (3 : Nat) + (2 : Nat))) (18 : Nat) = x.snd (18 : Nat)) ∧ (IntKind.u32 =
      IntKind.u32 ∧ setSt (ofL (bk j.snd)) (eI E a ((↑j.fst : Int).toNat * (3 : Nat) + (2 : Nat))) (19 : Nat) = x.snd (19 : Nat)) ∧ (IntKind.u32 = IntKind.u32 ∧ setSt (ofL (bk
      j.snd)) (eI E a ((↑j.fst : Int).toNat * (3 : Nat) + (2 : Nat))) (20 : Nat) = x.snd (20 : Nat)) ∧ (IntKind.u32 = IntKind.u32 ∧ setSt (ofL (bk j.snd)) (eI E a ((↑j.fst :
      Int).toNat * (3 : Nat) + (2 : Nat))) (21 : Nat) = x.snd (21 : Nat)) ∧ (IntKind.u32 = IntKind.u32 ∧ setSt (ofL (bk j.snd)) (eI E a ((↑j.fst : Int).toNat * (3 : Nat) + (2 :
      Nat))) (22 : Nat) = x.snd (22 : Nat)) ∧ (IntKind.u32 = IntKind.u32 ∧ setSt (ofL (bk j.snd)) (eI E a ((↑j.fst : Int).toNat * (3 : Nat) + (2 : Nat))) (23 : Nat) = x.snd (23
      : Nat)) ∧ (IntKind.u32 = IntKind.u32 ∧ setSt (ofL (bk j.snd)) (eI E a ((↑j.fst : Int).toNat * (3 : Nat) + (2 : Nat))) (24 : Nat) = x.snd (24 : Nat)) ∧ (IntKind.u32 =
      IntKind.u32 ∧ setSt (ofL (bk j.snd)) (eI E a ((↑j.fst : Int).toNat * (3 : Nat) + (2 : Nat))) (25 : Nat) = x.snd (25 : Nat)) ∧ (IntKind.u32 = IntKind.u32 ∧ setSt (ofL (bk
      j.snd)) (eI E a ((↑j.fst : Int).toNat * (3 : Nat) + (2 : Nat))) (26 : Nat) = x.snd (26 : Nat)) ∧ (IntKind.u32 = IntKind.u32 ∧ setSt (ofL (bk j.snd)) (eI E a ((↑j.fst :
      Int).toNat * (3 : Nat) + (2 : Nat))) (27 : Nat) = x.snd (27 : Nat)) ∧ (IntKind.u32 = IntKind.u32 ∧ setSt (ofL (bk j.snd)) (eI E a ((↑j.fst : Int).toNat * (3 : Nat) + (2 :
      Nat))) (28 : Nat) = x.snd (28 : Nat)) ∧ (IntKind.u32 = IntKind.u32 ∧ setSt (ofL (bk j.snd)) (eI E a ((↑j.fst : Int).toNat * (3 : Nat) + (2 : Nat))) (29 : Nat) = x.snd (29
      : Nat)) ∧ (IntKind.u32 = IntKind.u32 ∧ setSt (ofL (bk j.snd)) (eI E a ((↑j.fst : Int).toNat * (3 : Nat) + (2 : Nat))) (30 : Nat) = x.snd (30 : Nat)) ∧ (IntKind.u32 =
      IntKind.u32 ∧ setSt (ofL (bk j.snd)) (eI E a ((↑j.fst : Int).toNat * (3 : Nat) + (2 : Nat))) (31 : Nat) = x.snd (31 : Nat)) ∧ (IntKind.u32 = IntKind.u32 ∧ setSt (ofL (bk
      j.snd)) (eI E a ((↑j.fst : Int).toNat * (3 : Nat) + (2 : Nat))) (32 : Nat) = x.snd (32 : Nat)) ∧ (IntKind.u32 = IntKind.u32 ∧ setSt (ofL (bk j.snd)) (eI E a ((↑j.fst :
      Int).toNat * (3 : Nat) + (2 : Nat))) (33 : Nat) = x.snd (33 : Nat)) ∧ (IntKind.u32 = IntKind.u32 ∧ setSt (ofL (bk j.snd)) (eI E a ((↑j.fst : Int).toNat * (3 : Nat) + (2 :
      Nat))) (34 : Nat) = x.snd (34 : Nat)) ∧ (IntKind.u32 = IntKind.u32 ∧ setSt (ofL (bk j.snd)) (eI (pe E).E a ((↑j.fst : Int).toNat * (3 : Nat) + (2 : Nat))) (35 : Nat) =
      x.snd (35 : Nat)) ∧ (IntKind.u32 = IntKind.u32 ∧ setSt (ofL (bk j.snd)) (eI (pe E).E a ((↑j.fst : Int).toNat * (3 : Nat) + (2 : Nat))) (36 : Nat) = x.snd (36 : Nat)) ∧
      (IntKind.u32 = IntKind.u32 ∧ setSt (ofL (bk j.snd)) (eI (pe E).E a ((↑j.fst : Int).toNat * (3 : Nat) + (2 : Nat))) (37 : Nat) = x.snd (37 : Nat)) ∧ (IntKind.u32 =
      IntKind.u32 ∧ setSt (ofL (bk j.snd)) (eI (pe E).E a ((↑j.fst : Int).toNat * (3 : Nat) + (2 : Nat))) (38 : Nat) = x.snd (38 : Nat)) ∧ (IntKind.u32 = IntKind.u32 ∧ setSt
      (ofL (bk j.snd)) (eI (pe E).E a ((↑j.fst : Int).toNat * (3 : Nat) + (2 : Nat))) (39 : Nat) = x.snd (39 : Nat)) ∧ (IntKind.u32 = IntKind.u32 ∧ setSt (ofL (bk j.snd)) (eI
      (pe E).E a ((↑j.fst : Int).toNat * (3 : Nat) + (2 : Nat))) (40 : Nat) = x.snd (40 : Nat)) ∧ (IntKind.u32 = IntKind.u32 ∧ setSt (ofL (bk j.snd)) (eI (pe E).E a ((↑j.fst :
      Int).toNat * (3 : Nat) + (2 : Nat))) (41 : Nat) = x.snd (41 : Nat)) ∧ (IntKind.u32 = IntKind.u32 ∧ setSt (ofL (bk j.snd)) (eI (pe E).E a ((↑j.fst : Int).toNat * (3 : Nat)
      + (2 : Nat))) (42 : Nat) = x.snd (42 : Nat)) ∧ (IntKind.u32 = IntKind.u32 ∧ setSt (ofL (bk j.snd)) (eI (pe E).E a ((↑j.fst : Int).toNat * (3 : Nat) + (2 : Nat))) (43 :
      Nat) = x.snd (43 : Nat)) ∧ IntKind.u32 = IntKind.u32 ∧ setSt (ofL (bk j.snd)) (eI (pe E).E a ((↑j.fst : Int).toNat * (3 : Nat) + (2 : Nat))) (44 : Nat) = x.snd (44 : Nat))
      ∧ True) ∧ ((eI E a ((↑j.fst : Int).toNat * (3 : Nat) + (0 : Nat)) == (1 : Int)) = false → ((eI E a ((↑j.fst : Int).toNat * (3 : Nat) + (0 : Nat)) == (2 : Int)) = true → ∃
      (x : Nat × (Nat → Int)), (x.fst ≤ n ∧ (0 : Int) ≤ x.snd (0 : Nat) ∧ x.snd (0 : Nat) < (4294967296 : Int)) ∧ n - x.fst + (1 : Nat) < n - j.fst + (1 : Nat) ∧ hd5 E = hd5 E ∧
      (108 : Nat) = (108 : Nat) ∧ ((IntKind.u32 = IntKind.u32 ∧ mode = mode) ∧ (IntKind.u32 = IntKind.u32 ∧ to = to) ∧ C.p (0 : Nat) (0 : Nat) = C.p (0 : Nat) (0 : Nat) ∧ C.es a
      n c = C.es a n c ∧ (IntKind.i64 = IntKind.i64 ∧ (↑n : Int) = (↑n : Int)) ∧ IntKind.i64 = IntKind.i64 ∧ IntKind.i64.wrap ((↑j.fst : Int) + (1 : Int)) = (↑x.fst : Int)) ∧
      ((59 : Nat) = (59 : Nat) ∧ (IntKind.u32 = IntKind.u32 ∧ setSv (ofL (bk j.snd)) (eI E a ((↑j.fst : Int).toNat * (3 : Nat) + (2 : Nat))) (0 : Nat) = x.snd (0 : Nat)) ∧
      (IntKind.u32 = IntKind.u32 ∧ setSv (ofL (bk j.snd)) (eI E a ((↑j.fst : Int).toNat * (3 : Nat) + (2 : Nat))) (1 : Nat) = x.snd (1 : Nat)) ∧ (IntKind.u32 = IntKind.u32 ∧
      setSv (ofL (bk j.snd)) (eI E a ((↑j.fst : Int).toNat * (3 : Nat) + (2 : Nat))) (2 : Nat) = x.snd (2 : Nat)) ∧ (IntKind.u32 = IntKind.u32 ∧ setSv (ofL (bk j.snd)) (eI E a
      ((↑j.fst : Int).toNat * (3 : Nat) + (2 : Nat))) (3 : Nat) = x.snd (3 : Nat)) ∧ (IntKind.u32 = IntKind.u32 ∧ setSv (ofL (bk j.snd)) (eI E a ((↑j.fst : Int).toNat * (3 :
      Nat) + (2 : Nat))) (4 : Nat) = x.snd (4 : Nat)) ∧ (IntKind.u32 = IntKind.u32 ∧ setSv (ofL (bk j.snd)) (eI E a ((↑j.fst : Int).toNat * (3 : Nat) + (2 : Nat))) (5 : Nat) =
      x.snd (5 : Nat)) ∧ (IntKind.u32 = IntKind.u32 ∧ setSv (ofL (bk j.snd)) (eI E a ((↑j.fst : Int).toNat * (3 : Nat) + (2 : Nat))) (6 : Nat) = x.snd (6 : Nat)) ∧ (IntKind.u32
      = IntKind.u32 ∧ setSv (ofL (bk j.snd)) (eI E a ((↑j.fst : Int).toNat * (3 : Nat) + (2 : Nat))) (7 : Nat) = x.snd (7 : Nat)) ∧ (IntKind.u32 = IntKind.u32 ∧ setSv (ofL (bk
      j.snd)) (eI E a ((↑j.fst : Int).toNat * (3 : Nat) + (2 : Nat))) (8 : Nat) = x.snd (8 : Nat)) ∧ (IntKind.u32 = IntKind.u32 ∧ setSv (ofL (bk j.snd)) (eI E a ((↑j.fst :
      Int).toNat * (3 : Nat) + (2 : Nat))) (9 : Nat) = x.snd (9 : Nat)) ∧ (IntKind.u32 = IntKind.u32 ∧ setSv (ofL (bk j.snd)) (eI E a ((↑j.fst : Int).toNat * (3 : Nat) + (2 :
      Nat))) (10 : Nat) = x.snd (10 : Nat)) ∧ (IntKind.u32 = IntKind.u32 ∧ setSv (ofL (bk j.snd)) (eI E a ((↑j.fst : Int).toNat * (3 : Nat) + (2 : Nat))) (11 : Nat) = x.snd (11
      : Nat)) ∧ (IntKind.u32 = IntKind.u32 ∧ setSv (ofL (bk j.snd)) (eI E a ((↑j.fst : Int).toNat * (3 : Nat) + (2 : Nat))) (12 : Nat) = x.snd (12 : Nat)) ∧ (IntKind.u32 =
      IntKind.u32 ∧ setSv (ofL (bk j.snd)) (eI E a ((↑j.fst : Int).toNat * (3 : Nat) + (2 : Nat))) (13 : Nat) = x.snd (13 : Nat)) ∧ (IntKind.u32 = IntKind.u32 ∧ setSv (ofL (bk
      j.snd)) (eI E a ((↑j.fst : Int).toNat * (3 : Nat) + (2 : Nat))) (14 : Nat) = x.snd (14 : Nat)) ∧ (IntKind.u32 = IntKind.u32 ∧ setSv (ofL (bk j.snd)) (eI E a ((↑j.fst :
      Int).toNat * (3 : Nat) + (2 : Nat))) (15 : Nat) = x.snd (15 : Nat)) ∧ (IntKind.u32 = IntKind.u32 ∧ setSv (ofL (bk j.snd)) (eI E a ((↑j.fst : Int).toNat * (3 : Nat) + (2 :
      Nat))) (16 : Nat) = x.snd (16 : Nat)) ∧ (IntKind.u32 = IntKind.u32 ∧ setSv (ofL (bk j.snd)) (eI E a ((↑j.fst : Int).toNat * (3 : Nat) + (2 : Nat))) (17 : Nat) = x.snd (17
      : Nat)) ∧ (IntKind.u32 = IntKind.u32 ∧ setSv (ofL (bk j.snd)) (eI E a ((↑j.fst : Int).toNat * (3 : Nat) + (2 : Nat))) (18 : Nat) = x.snd (18 : Nat)) ∧ (IntKind.u32 =
      IntKind.u32 ∧ setSv (ofL (bk j.snd)) (eI E a ((↑j.fst : Int).toNat * (3 : Nat) + (2 : Nat))) (19 : Nat) = x.snd (19 : Nat)) ∧ (IntKind.u32 = IntKind.u32 ∧ setSv (ofL (bk
      j.snd)) (eI E a ((↑j.fst : Int).toNat * (3 : Nat) + (2 : Nat))) (20 : Nat) = x.snd (20 : Nat)) ∧ (IntKind.u32 = IntKind.u32 ∧ setSv (ofL (bk j.snd)) (eI E a ((↑j.fst :
      Int).toNat * (3 : Nat) + (2 : Nat))) (21 : Nat) = x.snd (21 : Nat)) ∧ (IntKind.u32 = IntKind.u32 ∧ setSv (ofL (bk j.snd)) (eI E a ((↑j.fst : Int).toNat * (3 : Nat) + (2 :
      Nat))) (22 : Nat) = x.snd (22 : Nat)) ∧ (IntKind.u32 = IntKind.u32 ∧ setSv (ofL (bk j.snd)) (eI E a ((↑j.fst : Int).toNat * (3 : Nat) + (2 : Nat))) (23 : Nat) = x.snd (23
      : Nat)) ∧ (IntKind.u32 = IntKind.u32 ∧ setSv (ofL (bk j.snd)) (eI E a ((↑j.fst : Int).toNat * (3 : Nat) + (2 : Nat))) (24 : Nat) = x.snd (24 : Nat)) ∧ (IntKind.u32 =
      IntKind.u32 ∧ setSv (ofL (bk j.snd)) (eI E a ((↑j.fst : Int).toNat * (3 : Nat) + (2 : Nat))) (25 : Nat) = x.snd (25 : Nat)) ∧ (IntKind.u32 = IntKind.u32 ∧ setSv (ofL (bk
      j.snd)) (eI E a ((↑j.fst : Int).toNat * (3 : Nat) + (2 : Nat))) (26 : Nat) = x.snd (26 : Nat)) ∧ (IntKind.u32 = IntKind.u32 ∧ setSv (ofL (bk j.snd)) (eI E a ((↑j.fst :
      Int).toNat * (3 : Nat) + (2 : Nat))) (27 : Nat) = x.snd (27 : Nat)) ∧ (IntKind.u32 = IntKind.u32 ∧ setSv (ofL (bk j.snd)) (eI E a ((↑j.fst : Int).toNat * (3 : Nat) + (2 :
      Nat))) (28 : Nat) = x.snd (28 : Nat)) ∧ (IntKind.u32 = IntKind.u32 ∧ setSv (ofL (bk j.snd)) (eI E a ((↑j.fst : Int).toNat * (3 : Nat) + (2 : Nat))) (29 : Nat) = x.snd (29
      : Nat)) ∧ (IntKind.u32 = IntKind.u32 ∧ setSv (ofL (bk j.snd)) (eI E a ((↑j.fst : Int).toNat * (3 : Nat) + (2 : Nat))) (30 : Nat) = x.snd (30 : Nat)) ∧ (IntKind.u32 =
      IntKind.u32 ∧ setSv (ofL (bk j.snd)) (eI E a ((↑j.fst : Int).toNat * (3 : Nat) + (2 : Nat))) (31 : Nat) = x.snd (31 : Nat)) ∧ (IntKind.u32 = IntKind.u32 ∧ setSv (ofL (bk
      j.snd)) (eI E a ((↑j.fst : Int).toNat * (3 : Nat) + (2 : Nat))) (32 : Nat) = x.snd (32 : Nat)) ∧ (IntKind.u32 = IntKind.u32 ∧ setSv (ofL (bk j.snd)) (eI (pe E).E a
      ((↑j.fst : Int).toNat * (3 : Nat) + (2 : Nat))) (33 : Nat) = x.snd (33 : Nat)) ∧ (IntKind.u32 = IntKind.u32 ∧ setSv (ofL (bk j.snd)) (eI (pe E).E a ((↑j.fst : Int).toNat *
      (3 : Nat) + (2 : Nat))) (34 : Nat) = x.snd (34 : Nat)) ∧ (IntKind.u32 = IntKind.u32 ∧ setSv (ofL (bk j.snd)) (eI (pe E).E a ((↑j.fst : Int).toNat * (3 : Nat) + (2 : Nat)))
      (35 : Nat) = x.snd (35 : Nat)) ∧ (IntKind.u32 = IntKind.u32 ∧ setSv (ofL (bk j.snd)) (eI (pe E).E a ((↑j.fst : Int).toNat * (3 : Nat) + (2 : Nat))) (36 : Nat) = x.snd (36
      : Nat)) ∧ (IntKind.u32 = IntKind.u32 ∧ setSv (ofL (bk j.snd)) (eI (pe E).E a ((↑j.fst : Int).toNat * (3 : Nat) + (2 : Nat))) (37 : Nat) = x.snd (37 : Nat)) ∧ (IntKind.u32
      = IntKind.u32 ∧ setSv (ofL (bk j.snd)) (eI (pe E).E a ((↑j.fst : Int).toNat * (3 : Nat) + (2 : Nat))) (38 : Nat) = x.snd (38 : Nat)) ∧ (IntKind.u32 = IntKind.u32 ∧ setSv
      (ofL (bk j.snd)) (eI (pe E).E a ((↑j.fst : Int).toNat * (3 : Nat) + (2 : Nat))) (39 : Nat) = x.snd (39 : Nat)) ∧ (IntKind.u32 = IntKind.u32 ∧ setSv (ofL (bk j.snd)) (eI
      (pe E).E a ((↑j.fst : Int).toNat * (3 : Nat) + (2 : Nat))) (40 : Nat) = x.snd (40 : Nat)) ∧ (IntKind.u32 = IntKind.u32 ∧ setSv (ofL (bk j.snd)) (eI (pe E).E a ((↑j.fst :
      Int).toNat * (3 : Nat) + (2 : Nat))) (41 : Nat) = x.snd (41 : Nat)) ∧ (IntKind.u32 = IntKind.u32 ∧ setSv (ofL (bk j.snd)) (eI (pe E).E a ((↑j.fst : Int).toNat * (3 : Nat)
      + (2 : Nat))) (42 : Nat) = x.snd (42 : Nat)) ∧ (IntKind.u32 = IntKind.u32 ∧ setSv (ofL (bk j.snd)) (eI (pe E).E a ((↑j.fst : Int).toNat * (3 : Nat) + (2 : Nat))) (43 :
      Nat) = x.snd (43 : Nat)) ∧ IntKind.u32 = IntKind.u32 ∧ setSv (ofL (bk j.snd)) (eI (pe E).E a ((↑j.fst : Int).toNat * (3 : Nat) + (2 : Nat))) (44 : Nat) = x.snd (44 : Nat))
      ∧ True) ∧ ((eI E a ((↑j.fst : Int).toNat * (3 : Nat) + (0 : Nat)) == (2 : Int)) = false → ((eI E a ((↑j.fst : Int).toNat * (3 : Nat) + (0 : Nat)) == (3 : Int)) = true → ∃
      (x : Nat × (Nat → Int)), (x.fst ≤ n ∧ (0 : Int) ≤ x.snd (0 : Nat) ∧ x.snd (0 : Nat) < (4294967296 : Int)) ∧ n - x.fst + (1 : Nat) < n - j.fst + (1 : Nat) ∧ hd5 E = hd5 E ∧
      (108 : Nat) = (108 : Nat) ∧ ((IntKind.u32 = IntKind.u32 ∧ mode = mode) ∧ (IntKind.u32 = IntKind.u32 ∧ to = to) ∧ C.p (0 : Nat) (0 : Nat) = C.p (0 : Nat) (0 : Nat) ∧ C.es a
      n c = C.es a n c ∧ (IntKind.i64 = IntKind.i64 ∧ (↑n : Int) = (↑n : Int)) ∧ IntKind.i64 = IntKind.i64 ∧ IntKind.i64.wrap ((↑j.fst : Int) + (1 : Int)) = (↑x.fst : Int)) ∧
      ((59 : Nat) = (59 : Nat) ∧ (IntKind.u32 = IntKind.u32 ∧ setU (ofL (bk j.snd)) (eI E a ((↑j.fst : Int).toNat * (3 : Nat) + (1 : Nat))) (eI E a ((↑j.fst : Int).toNat * (3 :
      Nat) + (2 : Nat))) (0 : Nat) = x.snd (0 : Nat)) ∧ (IntKind.u32 = IntKind.u32 ∧ setU (ofL (bk j.snd)) (eI E a ((↑j.fst : Int).toNat * (3 : Nat) + (1 : Nat))) (eI E a
      ((↑j.fst : Int).toNat * (3 : Nat) + (2 : Nat))) (1 : Nat) = x.snd (1 : Nat)) ∧ (IntKind.u32 = IntKind.u32 ∧ setU (ofL (bk j.snd)) (eI E a ((↑j.fst : Int).toNat * (3 : Nat)
      + (1 : Nat))) (eI E a ((↑j.fst : Int).toNat * (3 : Nat) + (2 : Nat))) (2 : Nat) = x.snd (2 : Nat)) ∧ (IntKind.u32 = IntKind.u32 ∧ setU (ofL (bk j.snd)) (eI E a ((↑j.fst :
      Int).toNat * (3 : Nat) + (1 : Nat))) (eI E a ((↑j.fst : Int).toNat * (3 : Nat) + (2 : Nat))) (3 : Nat) = x.snd (3 : Nat)) ∧ (IntKind.u32 = IntKind.u32 ∧ setU (ofL (bk
      j.snd)) (eI E a ((↑j.fst : Int).toNat * (3 : Nat) + (1 : Nat))) (eI E a ((↑j.fst : Int).toNat * (3 : Nat) + (2 : Nat))) (4 : Nat) = x.snd (4 : Nat)) ∧ (IntKind.u32 =
      IntKind.u32 ∧ setU (ofL (bk j.snd)) (eI E a ((↑j.fst : Int).toNat * (3 : Nat) + (1 : Nat))) (eI E a ((↑j.fst : Int).toNat * (3 : Nat) + (2 : Nat))) (5 : Nat) = x.snd (5 :
      Nat)) ∧ (IntKind.u32 = IntKind.u32 ∧ setU (ofL (bk j.snd)) (eI E a ((↑j.fst : Int).toNat * (3 : Nat) + (1 : Nat))) (eI E a ((↑j.fst : Int).toNat * (3 : Nat) + (2 : Nat)))
      (6 : Nat) = x.snd (6 : Nat)) ∧ (IntKind.u32 = IntKind.u32 ∧ setU (ofL (bk j.snd)) (eI E a ((↑j.fst : Int).toNat * (3 : Nat) + (1 : Nat))) (eI E a ((↑j.fst : Int).toNat *
      (3 : Nat) + (2 : Nat))) (7 : Nat) = x.snd (7 : Nat)) ∧ (IntKind.u32 = IntKind.u32 ∧ setU (ofL (bk j.snd)) (eI E a ((↑j.fst : Int).toNat * (3 : Nat) + (1 : Nat))) (eI E a
      ((↑j.fst : Int).toNat * (3 : Nat) + (2 : Nat))) (8 : Nat) = x.snd (8 : Nat)) ∧ (IntKind.u32 = IntKind.u32 ∧ setU (ofL (bk j.snd)) (eI E a ((↑j.fst : Int).toNat * (3 : Nat)
      + (1 : Nat))) (eI E a ((↑j.fst : Int).toNat * (3 : Nat) + (2 : Nat))) (9 : Nat) = x.snd (9 : Nat)) ∧ (IntKind.u32 = IntKind.u32 ∧ setU (ofL (bk j.snd)) (eI E a ((↑j.fst :
      Int).toNat * (3 : Nat) + (1 : Nat))) (eI E a ((↑j.fst : Int).toNat * (3 : Nat) + (2 : Nat))) (10 : Nat) = x.snd (10 : Nat)) ∧ (IntKind.u32 = IntKind.u32 ∧ setU (ofL (bk
      j.snd)) (eI E a ((↑j.fst : Int).toNat * (3 : Nat) + (1 : Nat))) (eI E a ((↑j.fst : Int).toNat * (3 : Nat) + (2 : Nat))) (11 : Nat) = x.snd (11 : Nat)) ∧ (IntKind.u32 =
      IntKind.u32 ∧ setU (ofL (bk j.snd)) (eI E a ((↑j.fst : Int).toNat * (3 : Nat) + (1 : Nat))) (eI E a ((↑j.fst : Int).toNat * (3 : Nat) + (2 : Nat))) (12 : Nat) = x.snd (12
      : Nat)) ∧ (IntKind.u32 = IntKind.u32 ∧ setU (ofL (bk j.snd)) (eI E a ((↑j.fst : Int).toNat * (3 : Nat) + (1 : Nat))) (eI E a ((↑j.fst : Int).toNat * (3 : Nat) + (2 :
      Nat))) (13 : Nat) = x.snd (13 : Nat)) ∧ (IntKind.u32 = IntKind.u32 ∧ setU (ofL (bk j.snd)) (eI E a ((↑j.fst : Int).toNat * (3 : Nat) + (1 : Nat))) (eI E a ((↑j.fst :
      Int).toNat * (3 : Nat) + (2 : Nat))) (14 : Nat) = x.snd (14 : Nat)) ∧ (IntKind.u32 = IntKind.u32 ∧ setU (ofL (bk j.snd)) (eI E a ((↑j.fst : Int).toNat * (3 : Nat) + (1 :
      Nat))) (eI E a ((↑j.fst : Int).toNat * (3 : Nat) + (2 : Nat))) (15 : Nat) = x.snd (15 : Nat)) ∧ (IntKind.u32 = IntKind.u32 ∧ setU (ofL (bk j.snd)) (eI E a ((↑j.fst :
      Int).toNat * (3 : Nat) + (1 : Nat))) (eI E a ((↑j.fst : Int).toNat * (3 : Nat) + (2 : Nat))) (16 : Nat) = x.snd (16 : Nat)) ∧ (IntKind.u32 = IntKind.u32 ∧ setU (ofL (bk
      j.snd)) (eI E a ((↑j.fst : Int).toNat * (3 : Nat) + (1 : Nat))) (eI E a ((↑j.fst : Int).toNat * (3 : Nat) + (2 : Nat))) (17 : Nat) = x.snd (17 : Nat)) ∧ (IntKind.u32 =
      IntKind.u32 ∧ setU (ofL (bk j.snd)) (eI E a ((↑j.fst : Int).toNat * (3 : Nat) + (1 : Nat))) (eI E a ((↑j.fst : Int).toNat * (3 : Nat) + (2 : Nat))) (18 : Nat) = x.snd (18
      : Nat)) ∧ (IntKind.u32 = IntKind.u32 ∧ setU (ofL (bk j.snd)) (eI E a ((↑j.fst : Int).toNat * (3 : Nat) + (1 : Nat))) (eI E a ((↑j.fst : Int).toNat * (3 : Nat) + (2 :
      Nat))) (19 : Nat) = x.snd (19 : Nat)) ∧ (IntKind.u32 = IntKind.u32 ∧ setU (ofL (bk j.snd)) (eI E a ((↑j.fst : Int).toNat * (3 : Nat) + (1 : Nat))) (eI E a ((↑j.fst :
      Int).toNat * (3 : Nat) + (2 : Nat))) (20 : Nat) = x.snd (20 : Nat)) ∧ (IntKind.u32 = IntKind.u32 ∧ setU (ofL (bk j.snd)) (eI E a ((↑j.fst : Int).toNat * (3 : Nat) + (1 :
      Nat))) (eI E a ((↑j.fst : Int).toNat * (3 : Nat) + (2 : Nat))) (21 : Nat) = x.snd (21 : Nat)) ∧ (IntKind.u32 = IntKind.u32 ∧ setU (ofL (bk j.snd)) (eI E a ((↑j.fst :
      Int).toNat * (3 : Nat) + (1 : Nat))) (eI E a ((↑j.fst : Int).toNat * (3 : Nat) + (2 : Nat))) (22 : Nat) = x.snd (22 : Nat)) ∧ (IntKind.u32 = IntKind.u32 ∧ setU (ofL (bk
      j.snd)) (eI E a ((↑j.fst : Int).toNat * (3 : Nat) + (1 : Nat))) (eI E a ((↑j.fst : Int).toNat * (3 : Nat) + (2 : Nat))) (23 : Nat) = x.snd (23 : Nat)) ∧ (IntKind.u32 =
      IntKind.u32 ∧ setU (ofL (bk j.snd)) (eI E a ((↑j.fst : Int).toNat * (3 : Nat) + (1 : Nat))) (eI E a ((↑j.fst : Int).toNat * (3 : Nat) + (2 : Nat))) (24 : Nat) = x.snd (24
      : Nat)) ∧ (IntKind.u32 = IntKind.u32 ∧ setU (ofL (bk j.snd)) (eI E a ((↑j.fst : Int).toNat * (3 : Nat) + (1 : Nat))) (eI E a ((↑j.fst : Int).toNat * (3 : Nat) + (2 :
      Nat))) (25 : Nat) = x.snd (25 : Nat)) ∧ (IntKind.u32 = IntKind.u32 ∧ setU (ofL (bk j.snd)) (eI E a ((↑j.fst : Int).toNat * (3 : Nat) + (1 : Nat))) (eI E a ((↑j.fst :
      Int).toNat * (3 : Nat) + (2 : Nat))) (26 : Nat) = x.snd (26 : Nat)) ∧ (IntKind.u32 = IntKind.u32 ∧ setU (ofL (bk j.snd)) (eI E a ((↑j.fst : Int).toNat * (3 : Nat) + (1 :
      Nat))) (eI E a ((↑j.fst : Int).toNat * (3 : Nat) + (2 : Nat))) (27 : Nat) = x.snd (27 : Nat)) ∧ (IntKind.u32 = IntKind.u32 ∧ setU (ofL (bk j.snd)) (eI E a ((↑j.fst :
      Int).toNat * (3 : Nat) + (1 : Nat))) (eI E a ((↑j.fst : Int).toNat * (3 : Nat) + (2 : Nat))) (28 : Nat) = x.snd (28 : Nat)) ∧ (IntKind.u32 = IntKind.u32 ∧ setU (ofL (bk
      j.snd)) (eI E a ((↑j.fst : Int).toNat * (3 : Nat) + (1 : Nat))) (eI E a ((↑j.fst : Int).toNat * (3 : Nat) + (2 : Nat))) (29 : Nat) = x.snd (29 : Nat)) ∧ (IntKind.u32 =
      IntKind.u32 ∧ setU (ofL (bk j.snd)) (eI E a ((↑j.fst : Int).toNat * (3 : Nat) + (1 : Nat))) (eI E a ((↑j.fst : Int).toNat * (3 : Nat) + (2 : Nat))) (30 : Nat) = x.snd (30
      : Nat)) ∧ (IntKind.u32 = IntKind.u32 ∧ setU (ofL (bk j.snd)) (eI (pe E).E a ((↑j.fst : Int).toNat * (3 : Nat) + (1 : Nat))) (eI (pe E).E a ((↑j.fst : Int).toNat * (3 :
      Nat) + (2 : Nat))) (31 : Nat) = x.snd (31 : Nat)) ∧ (IntKind.u32 = IntKind.u32 ∧ setU (ofL (bk j.snd)) (eI (pe E).E a ((↑j.fst : Int).toNat * (3 : Nat) + (1 : Nat))) (eI
      (pe E).E a ((↑j.fst : Int).toNat * (3 : Nat) + (2 : Nat))) (32 : Nat) = x.snd (32 : Nat)) ∧ (IntKind.u32 = IntKind.u32 ∧ setU (ofL (bk j.snd)) (eI (pe E).E a ((↑j.fst :
      Int).toNat * (3 : Nat) + (1 : Nat))) (eI (pe E).E a ((↑j.fst : Int).toNat * (3 : Nat) + (2 : Nat))) (33 : Nat) = x.snd (33 : Nat)) ∧ (IntKind.u32 = IntKind.u32 ∧ setU (ofL
      (bk j.snd)) (eI (pe E).E a ((↑j.fst : Int).toNat * (3 : Nat) + (1 : Nat))) (eI (pe E).E a ((↑j.fst : Int).toNat * (3 : Nat) + (2 : Nat))) (34 : Nat) = x.snd (34 : Nat)) ∧
      (IntKind.u32 = IntKind.u32 ∧ setU (ofL (bk j.snd)) (eI (pe E).E a ((↑j.fst : Int).toNat * (3 : Nat) + (1 : Nat))) (eI (pe E).E a ((↑j.fst : Int).toNat * (3 : Nat) + (2 :
      Nat))) (35 : Nat) = x.snd (35 : Nat)) ∧ (IntKind.u32 = IntKind.u32 ∧ setU (ofL (bk j.snd)) (eI (pe E).E a ((↑j.fst : Int).toNat * (3 : Nat) + (1 : Nat))) (eI (pe E).E a
      ((↑j.fst : Int).toNat * (3 : Nat) + (2 : Nat))) (36 : Nat) = x.snd (36 : Nat)) ∧ (IntKind.u32 = IntKind.u32 ∧ setU (ofL (bk j.snd)) (eI (pe E).E a ((↑j.fst : Int).toNat *
      (3 : Nat) + (1 : Nat))) (eI (pe E).E a ((↑j.fst : Int).toNat * (3 : Nat) + (2 : Nat))) (37 : Nat) = x.snd (37 : Nat)) ∧ (IntKind.u32 = IntKind.u32 ∧ setU (ofL (bk j.snd))
      (eI (pe E).E a ((↑j.fst : Int).toNat * (3 : Nat) + (1 : Nat))) (eI (pe E).E a ((↑j.fst : Int).toNat * (3 : Nat) + (2 : Nat))) (38 : Nat) = x.snd (38 : Nat)) ∧ (IntKind.u32
      = IntKind.u32 ∧ setU (ofL (bk j.snd)) (eI (pe E).E a ((↑j.fst : Int).toNat * (3 : Nat) + (1 : Nat))) (eI (pe E).E a ((↑j.fst : Int).toNat * (3 : Nat) + (2 : Nat))) (39 :
      Nat) = x.snd (39 : Nat)) ∧ (IntKind.u32 = IntKind.u32 ∧ setU (ofL (bk j.snd)) (eI (pe E).E a ((↑j.fst : Int).toNat * (3 : Nat) + (1 : Nat))) (eI (pe E).E a ((↑j.fst :
      Int).toNat * (3 : Nat) + (2 : Nat))) (40 : Nat) = x.snd (40 : Nat)) ∧ (IntKind.u32 = IntKind.u32 ∧ setU (ofL (bk j.snd)) (eI (pe E).E a ((↑j.fst : Int).toNat * (3 : Nat) +
      (1 : Nat))) (eI (pe E).E a ((↑j.fst : Int).toNat * (3 : Nat) + (2 : Nat))) (41 : Nat) = x.snd (41 : Nat)) ∧ (IntKind.u32 = IntKind.u32 ∧ setU (ofL (bk j.snd)) (eI (pe E).E
      a ((↑j.fst : Int).toNat * (3 : Nat) + (1 : Nat))) (eI (pe E).E a ((↑j.fst : Int).toNat * (3 : Nat) + (2 : Nat))) (42 : Nat) = x.snd (42 : Nat)) ∧ (IntKind.u32 =
      IntKind.u32 ∧ setU (ofL (bk j.snd)) (eI (pe E).E a ((↑j.fst : Int).toNat * (3 : Nat) + (1 : Nat))) (eI (pe E).E a ((↑j.fst : Int).toNat * (3 : Nat) + (2 : Nat))) (43 :
      Nat) = x.snd (43 : Nat)) ∧ IntKind.u32 = IntKind.u32 ∧ setU (ofL (bk j.snd)) (eI (pe E).E a ((↑j.fst : Int).toNat * (3 : Nat) + (1 : Nat))) (eI (pe E).E a ((↑j.fst :
      Int).toNat * (3 : Nat) + (2 : Nat))) (44 : Nat) = x.snd (44 : Nat)) ∧ True) ∧ ((eI E a ((↑j.fst : Int).toNat * (3 : Nat) + (0 : Nat)) == (3 : Int)) = false → ((eI E a
      ((↑j.fst : Int).toNat * (3 : Nat) + (0 : Nat)) == (4 : Int)) = true → ∃ (x : Nat × (Nat → Int)), (x.fst ≤ n ∧ (0 : Int) ≤ x.snd (0 : Nat) ∧ x.snd (0 : Nat) < (4294967296 :
      Int)) ∧ n - x.fst + (1 : Nat) < n - j.fst + (1 : Nat) ∧ hd5 E = hd5 E ∧ (108 : Nat) = (108 : Nat) ∧ ((IntKind.u32 = IntKind.u32 ∧ mode = mode) ∧ (IntKind.u32 = IntKind.u32
      ∧ to = to) ∧ C.p (0 : Nat) (0 : Nat) = C.p (0 : Nat) (0 : Nat) ∧ C.es a n c = C.es a n c ∧ (IntKind.i64 = IntKind.i64 ∧ (↑n : Int) = (↑n : Int)) ∧ IntKind.i64 =
      IntKind.i64 ∧ IntKind.i64.wrap ((↑j.fst : Int) + (1 : Int)) = (↑x.fst : Int)) ∧ ((59 : Nat) = (59 : Nat) ∧ (IntKind.u32 = IntKind.u32 ∧ entV (ofL (bk j.snd))
      (IntKind.u32.wrap (eI E a ((↑j.fst : Int).toNat * (3 : Nat) + (1 : Nat)))) (eI E a ((↑j.fst : Int).toNat * (3 : Nat) + (2 : Nat))) (0 : Nat) = x.snd (0 : Nat)) ∧
      (IntKind.u32 = IntKind.u32 ∧ entV (ofL (bk j.snd)) (IntKind.u32.wrap (eI E a ((↑j.fst : Int).toNat * (3 : Nat) + (1 : Nat)))) (eI E a ((↑j.fst : Int).toNat * (3 : Nat) +
      (2 : Nat))) (1 : Nat) = x.snd (1 : Nat)) ∧ (IntKind.u32 = IntKind.u32 ∧ entV (ofL (bk j.snd)) (IntKind.u32.wrap (eI E a ((↑j.fst : Int).toNat * (3 : Nat) + (1 : Nat))))
      (eI E a ((↑j.fst : Int).toNat * (3 : Nat) + (2 : Nat))) (2 : Nat) = x.snd (2 : Nat)) ∧ (IntKind.u32 = IntKind.u32 ∧ entV (ofL (bk j.snd)) (IntKind.u32.wrap (eI E a
      ((↑j.fst : Int).toNat * (3 : Nat) + (1 : Nat)))) (eI E a ((↑j.fst : Int).toNat * (3 : Nat) + (2 : Nat))) (3 : Nat) = x.snd (3 : Nat)) ∧ (IntKind.u32 = IntKind.u32 ∧ entV
      (ofL (bk j.snd)) (IntKind.u32.wrap (eI E a ((↑j.fst : Int).toNat * (3 : Nat) + (1 : Nat)))) (eI E a ((↑j.fst : Int).toNat * (3 : Nat) + (2 : Nat))) (4 : Nat) = x.snd (4 :
      Nat)) ∧ (IntKind.u32 = IntKind.u32 ∧ entV (ofL (bk j.snd)) (IntKind.u32.wrap (eI E a ((↑j.fst : Int).toNat * (3 : Nat) + (1 : Nat)))) (eI E a ((↑j.fst : Int).toNat * (3 :
      Nat) + (2 : Nat))) (5 : Nat) = x.snd (5 : Nat)) ∧ (IntKind.u32 = IntKind.u32 ∧ entV (ofL (bk j.snd)) (IntKind.u32.wrap (eI E a ((↑j.fst : Int).toNat * (3 : Nat) + (1 :
      Nat)))) (eI E a ((↑j.fst : Int).toNat * (3 : Nat) + (2 : Nat))) (6 : Nat) = x.snd (6 : Nat)) ∧ (IntKind.u32 = IntKind.u32 ∧ entV (ofL (bk j.snd)) (IntKind.u32.wrap (eI E a
      ((↑j.fst : Int).toNat * (3 : Nat) + (1 : Nat)))) (eI E a ((↑j.fst : Int).toNat * (3 : Nat) + (2 : Nat))) (7 : Nat) = x.snd (7 : Nat)) ∧ (IntKind.u32 = IntKind.u32 ∧ entV
      (ofL (bk j.snd)) (IntKind.u32.wrap (eI E a ((↑j.fst : Int).toNat * (3 : Nat) + (1 : Nat)))) (eI E a ((↑j.fst : Int).toNat * (3 : Nat) + (2 : Nat))) (8 : Nat) = x.snd (8 :
      Nat)) ∧ (IntKind.u32 = IntKind.u32 ∧ entV (ofL (bk j.snd)) (IntKind.u32.wrap (eI E a ((↑j.fst : Int).toNat * (3 : Nat) + (1 : Nat)))) (eI E a ((↑j.fst : Int).toNat * (3 :
      Nat) + (2 : Nat))) (9 : Nat) = x.snd (9 : Nat)) ∧ (IntKind.u32 = IntKind.u32 ∧ entV (ofL (bk j.snd)) (IntKind.u32.wrap (eI E a ((↑j.fst : Int).toNat * (3 : Nat) + (1 :
      Nat)))) (eI E a ((↑j.fst : Int).toNat * (3 : Nat) + (2 : Nat))) (10 : Nat) = x.snd (10 : Nat)) ∧ (IntKind.u32 = IntKind.u32 ∧ entV (ofL (bk j.snd)) (IntKind.u32.wrap (eI E
      a ((↑j.fst : Int).toNat * (3 : Nat) + (1 : Nat)))) (eI E a ((↑j.fst : Int).toNat * (3 : Nat) + (2 : Nat))) (11 : Nat) = x.snd (11 : Nat)) ∧ (IntKind.u32 = IntKind.u32 ∧
      entV (ofL (bk j.snd)) (IntKind.u32.wrap (eI E a ((↑j.fst : Int).toNat * (3 : Nat) + (1 : Nat)))) (eI E a ((↑j.fst : Int).toNat * (3 : Nat) + (2 : Nat))) (12 : Nat) = x.snd
      (12 : Nat)) ∧ (IntKind.u32 = IntKind.u32 ∧ entV (ofL (bk j.snd)) (IntKind.u32.wrap (eI E a ((↑j.fst : Int).toNat * (3 : Nat) + (1 : Nat)))) (eI E a ((↑j.fst : Int).toNat *
      (3 : Nat) + (2 : Nat))) (13 : Nat) = x.snd (13 : Nat)) ∧ (IntKind.u32 = IntKind.u32 ∧ entV (ofL (bk j.snd)) (IntKind.u32.wrap (eI E a ((↑j.fst : Int).toNat * (3 : Nat) +
      (1 : Nat)))) (eI E a ((↑j.fst : Int).toNat * (3 : Nat) + (2 : Nat))) (14 : Nat) = x.snd (14 : Nat)) ∧ (IntKind.u32 = IntKind.u32 ∧ entV (ofL (bk j.snd)) (IntKind.u32.wrap
      (eI E a ((↑j.fst : Int).toNat * (3 : Nat) + (1 : Nat)))) (eI E a ((↑j.fst : Int).toNat * (3 : Nat) + (2 : Nat))) (15 : Nat) = x.snd (15 : Nat)) ∧ (IntKind.u32 =
      IntKind.u32 ∧ entV (ofL (bk j.snd)) (IntKind.u32.wrap (eI E a ((↑j.fst : Int).toNat * (3 : Nat) + (1 : Nat)))) (eI E a ((↑j.fst : Int).toNat * (3 : Nat) + (2 : Nat))) (16
      : Nat) = x.snd (16 : Nat)) ∧ (IntKind.u32 = IntKind.u32 ∧ entV (ofL (bk j.snd)) (IntKind.u32.wrap (eI E a ((↑j.fst : Int).toNat * (3 : Nat) + (1 : Nat)))) (eI E a ((↑j.fst
      : Int).toNat * (3 : Nat) + (2 : Nat))) (17 : Nat) = x.snd (17 : Nat)) ∧ (IntKind.u32 = IntKind.u32 ∧ entV (ofL (bk j.snd)) (IntKind.u32.wrap (eI E a ((↑j.fst : Int).toNat
      * (3 : Nat) + (1 : Nat)))) (eI E a ((↑j.fst : Int).toNat * (3 : Nat) + (2 : Nat))) (18 : Nat) = x.snd (18 : Nat)) ∧ (IntKind.u32 = IntKind.u32 ∧ entV (ofL (bk j.snd))
      (IntKind.u32.wrap (eI E a ((↑j.fst : Int).toNat * (3 : Nat) + (1 : Nat)))) (eI E a ((↑j.fst : Int).toNat * (3 : Nat) + (2 : Nat))) (19 : Nat) = x.snd (19 : Nat)) ∧
      (IntKind.u32 = IntKind.u32 ∧ entV (ofL (bk j.snd)) (IntKind.u32.wrap (eI E a ((↑j.fst : Int).toNat * (3 : Nat) + (1 : Nat)))) (eI E a ((↑j.fst : Int).toNat * (3 : Nat) +
      (2 : Nat))) (20 : Nat) = x.snd (20 : Nat)) ∧ (IntKind.u32 = IntKind.u32 ∧ entV (ofL (bk j.snd)) (IntKind.u32.wrap (eI E a ((↑j.fst : Int).toNat * (3 : Nat) + (1 : Nat))))
      (eI E a ((↑j.fst : Int).toNat * (3 : Nat) + (2 : Nat))) (21 : Nat) = x.snd (21 : Nat)) ∧ (IntKind.u32 = IntKind.u32 ∧ entV (ofL (bk j.snd)) (IntKind.u32.wrap (eI E a
      ((↑j.fst : Int).toNat * (3 : Nat) + (1 : Nat)))) (eI E a ((↑j.fst : Int).toNat * (3 : Nat) + (2 : Nat))) (22 : Nat) = x.snd (22 : Nat)) ∧ (IntKind.u32 = IntKind.u32 ∧ entV
      (ofL (bk j.snd)) (IntKind.u32.wrap (eI E a ((↑j.fst : Int).toNat * (3 : Nat) + (1 : Nat)))) (eI E a ((↑j.fst : Int).toNat * (3 : Nat) + (2 : Nat))) (23 : Nat) = x.snd (23
      : Nat)) ∧ (IntKind.u32 = IntKind.u32 ∧ entV (ofL (bk j.snd)) (IntKind.u32.wrap (eI E a ((↑j.fst : Int).toNat * (3 : Nat) + (1 : Nat)))) (eI E a ((↑j.fst : Int).toNat * (3
      : Nat) + (2 : Nat))) (24 : Nat) = x.snd (24 : Nat)) ∧ (IntKind.u32 = IntKind.u32 ∧ entV (ofL (bk j.snd)) (IntKind.u32.wrap (eI E a ((↑j.fst : Int).toNat * (3 : Nat) + (1 :
      Nat)))) (eI E a ((↑j.fst : Int).toNat * (3 : Nat) + (2 : Nat))) (25 : Nat) = x.snd (25 : Nat)) ∧ (IntKind.u32 = IntKind.u32 ∧ entV (ofL (bk j.snd)) (IntKind.u32.wrap (eI E
      a ((↑j.fst : Int).toNat * (3 : Nat) + (1 : Nat)))) (eI E a ((↑j.fst : Int).toNat * (3 : Nat) + (2 : Nat))) (26 : Nat) = x.snd (26 : Nat)) ∧ (IntKind.u32 = IntKind.u32 ∧
      entV (ofL (bk j.snd)) (IntKind.u32.wrap (eI E a ((↑j.fst : Int).toNat * (3 : Nat) + (1 : Nat)))) (eI E a ((↑j.fst : Int).toNat * (3 : Nat) + (2 : Nat))) (27 : Nat) = x.snd
      (27 : Nat)) ∧ (IntKind.u32 = IntKind.u32 ∧ entV (ofL (bk j.snd)) (IntKind.u32.wrap (eI (pe E).E a ((↑j.fst : Int).toNat * (3 : Nat) + (1 : Nat)))) (eI E a ((↑j.fst :
      Int).toNat * (3 : Nat) + (2 : Nat))) (28 : Nat) = x.snd (28 : Nat)) ∧ (IntKind.u32 = IntKind.u32 ∧ entV (ofL (bk j.snd)) (IntKind.u32.wrap (eI (pe E).E a ((↑j.fst :
      Int).toNat * (3 : Nat) + (1 : Nat)))) (eI (pe E).E a ((↑j.fst : Int).toNat * (3 : Nat) + (2 : Nat))) (29 : Nat) = x.snd (29 : Nat)) ∧ (IntKind.u32 = IntKind.u32 ∧ entV
      (ofL (bk j.snd)) (IntKind.u32.wrap (eI (pe E).E a ((↑j.fst : Int).toNat * (3 : Nat) + (1 : Nat)))) (eI (pe E).E a ((↑j.fst : Int).toNat * (3 : Nat) + (2 : Nat))) (30 :
      Nat) = x.snd (30 : Nat)) ∧ (IntKind.u32 = IntKind.u32 ∧ entV (ofL (bk j.snd)) (IntKind.u32.wrap (eI (pe E).E a ((↑j.fst : Int).toNat * (3 : Nat) + (1 : Nat)))) (eI (pe
      E).E a ((↑j.fst : Int).toNat * (3 : Nat) + (2 : Nat))) (31 : Nat) = x.snd (31 : Nat)) ∧ (IntKind.u32 = IntKind.u32 ∧ entV (ofL (bk j.snd)) (IntKind.u32.wrap (eI (pe E).E a
      ((↑j.fst : Int).toNat * (3 : Nat) + (1 : Nat)))) (eI (pe E).E a ((↑j.fst : Int).toNat * (3 : Nat) + (2 : Nat))) (32 : Nat) = x.snd (32 : Nat)) ∧ (IntKind.u32 = IntKind.u32
      ∧ entV (ofL (bk j.snd)) (IntKind.u32.wrap (eI (pe E).E a ((↑j.fst : Int).toNat * (3 : Nat) + (1 : Nat)))) (eI (pe E).E a ((↑j.fst : Int).toNat * (3 : Nat) + (2 : Nat)))
      (33 : Nat) = x.snd (33 : Nat)) ∧ (IntKind.u32 = IntKind.u32 ∧ entV (ofL (bk j.snd)) (IntKind.u32.wrap (eI (pe E).E a ((↑j.fst : Int).toNat * (3 : Nat) + (1 : Nat)))) (eI
      (pe E).E a ((↑j.fst : Int).toNat * (3 : Nat) + (2 : Nat))) (34 : Nat) = x.snd (34 : Nat)) ∧ (IntKind.u32 = IntKind.u32 ∧ entV (ofL (bk j.snd)) (IntKind.u32.wrap (eI (pe
      E).E a ((↑j.fst : Int).toNat * (3 : Nat) + (1 : Nat)))) (eI (pe E).E a ((↑j.fst : Int).toNat * (3 : Nat) + (2 : Nat))) (35 : Nat) = x.snd (35 : Nat)) ∧ (IntKind.u32 =
      IntKind.u32 ∧ entV (ofL (bk j.snd)) (IntKind.u32.wrap (eI (pe E).E a ((↑j.fst : Int).toNat * (3 : Nat) + (1 : Nat)))) (eI (pe E).E a ((↑j.fst : Int).toNat * (3 : Nat) + (2
      : Nat))) (36 : Nat) = x.snd (36 : Nat)) ∧ (IntKind.u32 = IntKind.u32 ∧ entV (ofL (bk j.snd)) (IntKind.u32.wrap (eI (pe E).E a ((↑j.fst : Int).toNat * (3 : Nat) + (1 :
      Nat)))) (eI (pe E).E a ((↑j.fst : Int).toNat * (3 : Nat) + (2 : Nat))) (37 : Nat) = x.snd (37 : Nat)) ∧ (IntKind.u32 = IntKind.u32 ∧ entV (ofL (bk j.snd))
      (IntKind.u32.wrap (eI (pe E).E a ((↑j.fst : Int).toNat * (3 : Nat) + (1 : Nat)))) (eI (pe E).E a ((↑j.fst : Int).toNat * (3 : Nat) + (2 : Nat))) (38 : Nat) = x.snd (38 :
      Nat)) ∧ (IntKind.u32 = IntKind.u32 ∧ entV (ofL (bk j.snd)) (IntKind.u32.wrap (eI (pe E).E a ((↑j.fst : Int).toNat * (3 : Nat) + (1 : Nat)))) (eI (pe E).E a ((↑j.fst :
      Int).toNat * (3 : Nat) + (2 : Nat))) (39 : Nat) = x.snd (39 : Nat)) ∧ (IntKind.u32 = IntKind.u32 ∧ entV (ofL (bk j.snd)) (IntKind.u32.wrap (eI (pe E).E a ((↑j.fst :
      Int).toNat * (3 : Nat) + (1 : Nat)))) (eI (pe E).E a ((↑j.fst : Int).toNat * (3 : Nat) + (2 : Nat))) (40 : Nat) = x.snd (40 : Nat)) ∧ (IntKind.u32 = IntKind.u32 ∧ entV
      (ofL (bk j.snd)) (IntKind.u32.wrap (eI (pe E).E a ((↑j.fst : Int).toNat * (3 : Nat) + (1 : Nat)))) (eI (pe E).E a ((↑j.fst : Int).toNat * (3 : Nat) + (2 : Nat))) (41 :
      Nat) = x.snd (41 : Nat)) ∧ (IntKind.u32 = IntKind.u32 ∧ entV (ofL (bk j.snd)) (IntKind.u32.wrap (eI (pe E).E a ((↑j.fst : Int).toNat * (3 : Nat) + (1 : Nat)))) (eI (pe
      E).E a ((↑j.fst : Int).toNat * (3 : Nat) + (2 : Nat))) (42 : Nat) = x.snd (42 : Nat)) ∧ (IntKind.u32 = IntKind.u32 ∧ entV (ofL (bk j.snd)) (IntKind.u32.wrap (eI (pe E).E a
      ((↑j.fst : Int).toNat * (3 : Nat) + (1 : Nat)))) (eI (pe E).E a ((↑j.fst : Int).toNat * (3 : Nat) + (2 : Nat))) (43 : Nat) = x.snd (43 : Nat)) ∧ IntKind.u32 = IntKind.u32
      ∧ entV (ofL (bk j.snd)) (IntKind.u32.wrap (eI (pe E).E a ((↑j.fst : Int).toNat * (3 : Nat) + (1 : Nat)))) (eI (pe E).E a ((↑j.fst : Int).toNat * (3 : Nat) + (2 : Nat)))
      (44 : Nat) = x.snd (44 : Nat)) ∧ True) ∧ ((eI E a ((↑j.fst : Int).toNat * (3 : Nat) + (0 : Nat)) == (4 : Int)) = false → ∃ (x : Nat × (Nat → Int)), (x.fst ≤ n ∧ (0 : Int)
      ≤ x.snd (0 : Nat) ∧ x.snd (0 : Nat) < (4294967296 : Int)) ∧ n - x.fst + (1 : Nat) < n - j.fst + (1 : Nat) ∧ hd5 E = hd5 E ∧ (108 : Nat) = (108 : Nat) ∧ ((IntKind.u32 =
      IntKind.u32 ∧ mode = mode) ∧ (IntKind.u32 = IntKind.u32 ∧ to = to) ∧ C.p (0 : Nat) (0 : Nat) = C.p (0 : Nat) (0 : Nat) ∧ C.es a n c = C.es a n c ∧ (IntKind.i64 =
      IntKind.i64 ∧ (↑n : Int) = (↑n : Int)) ∧ IntKind.i64 = IntKind.i64 ∧ IntKind.i64.wrap ((↑j.fst : Int) + (1 : Int)) = (↑x.fst : Int)) ∧ ((59 : Nat) = (59 : Nat) ∧
      (IntKind.u32 = IntKind.u32 ∧ j.snd (0 : Nat) = x.snd (0 : Nat)) ∧ (IntKind.u32 = IntKind.u32 ∧ j.snd (1 : Nat) = x.snd (1 : Nat)) ∧ (IntKind.u32 = IntKind.u32 ∧ j.snd (2 :
      Nat) = x.snd (2 : Nat)) ∧ (IntKind.u32 = IntKind.u32 ∧ j.snd (3 : Nat) = x.snd (3 : Nat)) ∧ (IntKind.u32 = IntKind.u32 ∧ j.snd (4 : Nat) = x.snd (4 : Nat)) ∧ (IntKind.u32
      = IntKind.u32 ∧ j.snd (5 : Nat) = x.snd (5 : Nat)) ∧ (IntKind.u32 = IntKind.u32 ∧ j.snd (6 : Nat) = x.snd (6 : Nat)) ∧ (IntKind.u32 = IntKind.u32 ∧ j.snd (7 : Nat) = x.snd
      (7 : Nat)) ∧ (IntKind.u32 = IntKind.u32 ∧ j.snd (8 : Nat) = x.snd (8 : Nat)) ∧ (IntKind.u32 = IntKind.u32 ∧ j.snd (9 : Nat) = x.snd (9 : Nat)) ∧ (IntKind.u32 = IntKind.u32
      ∧ j.snd (10 : Nat) = x.snd (10 : Nat)) ∧ (IntKind.u32 = IntKind.u32 ∧ j.snd (11 : Nat) = x.snd (11 : Nat)) ∧ (IntKind.u32 = IntKind.u32 ∧ j.snd (12 : Nat) = x.snd (12 :
      Nat)) ∧ (IntKind.u32 = IntKind.u32 ∧ j.snd (13 : Nat) = x.snd (13 : Nat)) ∧ (IntKind.u32 = IntKind.u32 ∧ j.snd (14 : Nat) = x.snd (14 : Nat)) ∧ (IntKind.u32 = IntKind.u32
      ∧ j.snd (15 : Nat) = x.snd (15 : Nat)) ∧ (IntKind.u32 = IntKind.u32 ∧ j.snd (16 : Nat) = x.snd (16 : Nat)) ∧ (IntKind.u32 = IntKind.u32 ∧ j.snd (17 : Nat) = x.snd (17 :
      Nat)) ∧ (IntKind.u32 = IntKind.u32 ∧ j.snd (18 : Nat) = x.snd (18 : Nat)) ∧ (IntKind.u32 = IntKind.u32 ∧ j.snd (19 : Nat) = x.snd (19 : Nat)) ∧ (IntKind.u32 = IntKind.u32
      ∧ j.snd (20 : Nat) = x.snd (20 : Nat)) ∧ (IntKind.u32 = IntKind.u32 ∧ j.snd (21 : Nat) = x.snd (21 : Nat)) ∧ (IntKind.u32 = IntKind.u32 ∧ j.snd (22 : Nat) = x.snd (22 :
      Nat)) ∧ (IntKind.u32 = IntKind.u32 ∧ j.snd (23 : Nat) = x.snd (23 : Nat)) ∧ (IntKind.u32 = IntKind.u32 ∧ j.snd (24 : Nat) = x.snd (24 : Nat)) ∧ (IntKind.u32 = IntKind.u32
      ∧ j.snd (25 : Nat) = x.snd (25 : Nat)) ∧ (IntKind.u32 = IntKind.u32 ∧ j.snd (26 : Nat) = x.snd (26 : Nat)) ∧ (IntKind.u32 = IntKind.u32 ∧ j.snd (27 : Nat) = x.snd (27 :
      Nat)) ∧ (IntKind.u32 = IntKind.u32 ∧ j.snd (28 : Nat) = x.snd (28 : Nat)) ∧ (IntKind.u32 = IntKind.u32 ∧ j.snd (29 : Nat) = x.snd (29 : Nat)) ∧ (IntKind.u32 = IntKind.u32
      ∧ j.snd (30 : Nat) = x.snd (30 : Nat)) ∧ (IntKind.u32 = IntKind.u32 ∧ j.snd (31 : Nat) = x.snd (31 : Nat)) ∧ (IntKind.u32 = IntKind.u32 ∧ j.snd (32 : Nat) = x.snd (32 :
      Nat)) ∧ (IntKind.u32 = IntKind.u32 ∧ j.snd (33 : Nat) = x.snd (33 : Nat)) ∧ (IntKind.u32 = IntKind.u32 ∧ j.snd (34 : Nat) = x.snd (34 : Nat)) ∧ (IntKind.u32 = IntKind.u32
      ∧ j.snd (35 : Nat) = x.snd (35 : Nat)) ∧ (IntKind.u32 = IntKind.u32 ∧ j.snd (36 : Nat) = x.snd (36 : Nat)) ∧ (IntKind.u32 = IntKind.u32 ∧ j.snd (37 : Nat) = x.snd (37 :
      Nat)) ∧ (IntKind.u32 = IntKind.u32 ∧ j.snd (38 : Nat) = x.snd (38 : Nat)) ∧ (IntKind.u32 = IntKind.u32 ∧ j.snd (39 : Nat) = x.snd (39 : Nat)) ∧ (IntKind.u32 = IntKind.u32
      ∧ j.snd (40 : Nat) = x.snd (40 : Nat)) ∧ (IntKind.u32 = IntKind.u32 ∧ j.snd (41 : Nat) = x.snd (41 : Nat)) ∧ (IntKind.u32 = IntKind.u32 ∧ j.snd (42 : Nat) = x.snd (42 :
      Nat)) ∧ (IntKind.u32 = IntKind.u32 ∧ j.snd (43 : Nat) = x.snd (43 : Nat)) ∧ IntKind.u32 = IntKind.u32 ∧ j.snd (44 : Nat) = x.snd (44 : Nat)) ∧ True)))))) ∧ (decide
      ((↑j.fst : Int) < (↑n : Int)) = false → ∃ (d : Nat → Int), ((0 : Int) ≤ d (0 : Nat) ∧ d (0 : Nat) < (4294967296 : Int)) ∧ hdb5 E = hdb5 E ∧ (108 : Nat) = (108 : Nat) ∧
      ((IntKind.u32 = IntKind.u32 ∧ mode = mode) ∧ (IntKind.u32 = IntKind.u32 ∧ to = to) ∧ C.p (0 : Nat) (0 : Nat) = C.p (0 : Nat) (0 : Nat) ∧ (IntKind.u32 = IntKind.u32 ∧ j.snd
      (0 : Nat) = d (0 : Nat)) ∧ C.p (1 : Nat) (0 : Nat) = C.p (1 : Nat) (0 : Nat) ∧ IntKind.i64 = IntKind.i64 ∧ (0 : Int) = (0 : Int)) ∧ ((59 : Nat) = (59 : Nat) ∧ (IntKind.u32
      = IntKind.u32 ∧ j.snd (0 : Nat) = d (0 : Nat)) ∧ (IntKind.u32 = IntKind.u32 ∧ j.snd (1 : Nat) = d (1 : Nat)) ∧ (IntKind.u32 = IntKind.u32 ∧ j.snd (2 : Nat) = d (2 : Nat))
      ∧ (IntKind.u32 = IntKind.u32 ∧ j.snd (3 : Nat) = d (3 : Nat)) ∧ (IntKind.u32 = IntKind.u32 ∧ j.snd (4 : Nat) = d (4 : Nat)) ∧ (IntKind.u32 = IntKind.u32 ∧ j.snd (5 : Nat)
      = d (5 : Nat)) ∧ (IntKind.u32 = IntKind.u32 ∧ j.snd (6 : Nat) = d (6 : Nat)) ∧ (IntKind.u32 = IntKind.u32 ∧ j.snd (7 : Nat) = d (7 : Nat)) ∧ (IntKind.u32 = IntKind.u32 ∧
      j.snd (8 : Nat) = d (8 : Nat)) ∧ (IntKind.u32 = IntKind.u32 ∧ j.snd (9 : Nat) = d (9 : Nat)) ∧ (IntKind.u32 = IntKind.u32 ∧ j.snd (10 : Nat) = d (10 : Nat)) ∧ (IntKind.u32
      = IntKind.u32 ∧ j.snd (11 : Nat) = d (11 : Nat)) ∧ (IntKind.u32 = IntKind.u32 ∧ j.snd (12 : Nat) = d (12 : Nat)) ∧ (IntKind.u32 = IntKind.u32 ∧ j.snd (13 : Nat) = d (13 :
      Nat)) ∧ (IntKind.u32 = IntKind.u32 ∧ j.snd (14 : Nat) = d (14 : Nat)) ∧ (IntKind.u32 = IntKind.u32 ∧ j.snd (15 : Nat) = d (15 : Nat)) ∧ (IntKind.u32 = IntKind.u32 ∧ j.snd
      (16 : Nat) = d (16 : Nat)) ∧ (IntKind.u32 = IntKind.u32 ∧ j.snd (17 : Nat) = d (17 : Nat)) ∧ (IntKind.u32 = IntKind.u32 ∧ j.snd (18 : Nat) = d (18 : Nat)) ∧ (IntKind.u32 =
      IntKind.u32 ∧ j.snd (19 : Nat) = d (19 : Nat)) ∧ (IntKind.u32 = IntKind.u32 ∧ j.snd (20 : Nat) = d (20 : Nat)) ∧ (IntKind.u32 = IntKind.u32 ∧ j.snd (21 : Nat) = d (21 :
      Nat)) ∧ (IntKind.u32 = IntKind.u32 ∧ j.snd (22 : Nat) = d (22 : Nat)) ∧ (IntKind.u32 = IntKind.u32 ∧ j.snd (23 : Nat) = d (23 : Nat)) ∧ (IntKind.u32 = IntKind.u32 ∧ j.snd
      (24 : Nat) = d (24 : Nat)) ∧ (IntKind.u32 = IntKind.u32 ∧ j.snd (25 : Nat) = d (25 : Nat)) ∧ (IntKind.u32 = IntKind.u32 ∧ j.snd (26 : Nat) = d (26 : Nat)) ∧ (IntKind.u32 =
      IntKind.u32 ∧ j.snd (27 : Nat) = d (27 : Nat)) ∧ (IntKind.u32 = IntKind.u32 ∧ j.snd (28 : Nat) = d (28 : Nat)) ∧ (IntKind.u32 = IntKind.u32 ∧ j.snd (29 : Nat) = d (29 :
      Nat)) ∧ (IntKind.u32 = IntKind.u32 ∧ j.snd (30 : Nat) = d (30 : Nat)) ∧ (IntKind.u32 = IntKind.u32 ∧ j.snd (31 : Nat) = d (31 : Nat)) ∧ (IntKind.u32 = IntKind.u32 ∧ j.snd
      (32 : Nat) = d (32 : Nat)) ∧ (IntKind.u32 = IntKind.u32 ∧ j.snd (33 : Nat) = d (33 : Nat)) ∧ (IntKind.u32 = IntKind.u32 ∧ j.snd (34 : Nat) = d (34 : Nat)) ∧ (IntKind.u32 =
      IntKind.u32 ∧ j.snd (35 : Nat) = d (35 : Nat)) ∧ (IntKind.u32 = IntKind.u32 ∧ j.snd (36 : Nat) = d (36 : Nat)) ∧ (IntKind.u32 = IntKind.u32 ∧ j.snd (37 : Nat) = d (37 :
      Nat)) ∧ (IntKind.u32 = IntKind.u32 ∧ j.snd (38 : Nat) = d (38 : Nat)) ∧ (IntKind.u32 = IntKind.u32 ∧ j.snd (39 : Nat) = d (39 : Nat)) ∧ (IntKind.u32 = IntKind.u32 ∧ j.snd
      (40 : Nat) = d (40 : Nat)) ∧ (IntKind.u32 = IntKind.u32 ∧ j.snd (41 : Nat) = d (41 : Nat)) ∧ (IntKind.u32 = IntKind.u32 ∧ j.snd (42 : Nat) = d (42 : Nat)) ∧ (IntKind.u32 =
      IntKind.u32 ∧ j.snd (43 : Nat) = d (43 : Nat)) ∧ IntKind.u32 = IntKind.u32 ∧ j.snd (44 : Nat) = d (44 : Nat)) ∧ ((33 : Nat) = (33 : Nat) ∧ (IntKind.u32 = IntKind.u32 ∧ (0
      : Int) = (0 : Int)) ∧ (IntKind.u32 = IntKind.u32 ∧ (0 : Int) = (0 : Int)) ∧ (IntKind.u32 = IntKind.u32 ∧ (0 : Int) = (0 : Int)) ∧ (IntKind.u32 = IntKind.u32 ∧ (0 : Int) =
      (0 : Int)) ∧ (IntKind.u32 = IntKind.u32 ∧ (0 : Int) = (0 : Int)) ∧ (IntKind.u32 = IntKind.u32 ∧ (0 : Int) = (0 : Int)) ∧ (IntKind.u32 = IntKind.u32 ∧ (0 : Int) = (0 :
      Int)) ∧ (IntKind.u32 = IntKind.u32 ∧ (0 : Int) = (0 : Int)) ∧ (IntKind.u32 = IntKind.u32 ∧ (0 : Int) = (0 : Int)) ∧ (IntKind.u32 = IntKind.u32 ∧ (0 : Int) = (0 : Int)) ∧
      (IntKind.u32 = IntKind.u32 ∧ (0 : Int) = (0 : Int)) ∧ (IntKind.u32 = IntKind.u32 ∧ (0 : Int) = (0 : Int)) ∧ (IntKind.u32 = IntKind.u32 ∧ (0 : Int) = (0 : Int)) ∧
      (IntKind.u32 = IntKind.u32 ∧ (0 : Int) = (0 : Int)) ∧ (IntKind.u32 = IntKind.u32 ∧ (0 : Int) = (0 : Int)) ∧ IntKind.u32 = IntKind.u32 ∧ (0 : Int) = (0 : Int)) ∧ True)) := by kernel_rfl
end Go.Proofs.Ytkgpcdnlbgmglaa

