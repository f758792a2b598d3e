import Derived.Test.YtkgpcdnlbgmglaaF
set_option linter.unusedVariables false
set_option linter.unusedSimpArgs false
namespace Go.Proofs.Ytkgpcdnlbgmglaa
open Go Go.Proofs Go.Proofs.Ytkgpcdnlbgmglaa.Ev
def pkI (M a e : Nat) : Nat := if a = M then 14 + e else 17 + 2 * M + e
def pkV (d : Nat → Int) (z : Int) (e : Nat) : Int := d (pkI (md z) (md (d 0)) e)
def svV (d : Nat → Int) (z : Int) : Int := cond (Nat.beq (md z) 0) z (d (39 + md z))
noncomputable def c4 : Code := Try.f4.body.getD .skip
noncomputable def hd4 (E : World) : List Item := headOf (run (pe E) (orcF E) (tabL fns) 20000 (2^200-1) [.code c4] ⟨Try.f4.ntmps, mkFrGo (Tr.mk 12) 0 [.c (.es none 0 0), .c (.i true .u32 0), .c (.es none 0 0)]⟩ [])
noncomputable def hdb4 (E : World) : List Item := headOf (run (pe E) (orcF E) (tabL fns) 20000 (2^200-1) (hd4 E) (mkL Try.f4.ntmps [(1, .c (.i true .u32 0)), (2, .c (.es none 0 0)), (7, .c (.p 0 0)), (21, .c (.es none 0 0)), (22, .c (.i true .i64 0)), (23, .c (.i true .i64 0))]) [⟨bk (fun _ => 0), 59⟩])
def la4 (a : Option Addr) (n c : Nat) (z : Int) (a2 : Option Addr) (n2 c2 : Nat) (x : Nat × (Nat → Int)) : List (Nat × SV) := [(1, .c (.i false .u32 z)), (2, .c (.es a2 n2 c2)), (7, .c (.p 0 0)), (21, .c (.es a n c)), (22, .c (.i false .i64 (n : Int))), (23, .c (.i false .i64 (x.1 : Int)))]
def sa4 (x : Nat × (Nat → Int)) : SW := [⟨bk x.2, 59⟩]
def lb4 (z : Int) (a2 : Option Addr) (n2 c2 : Nat) (x : Nat × (Nat → Int)) : List (Nat × SV) := [(1, .c (.i false .u32 z)), (7, .c (.p 0 0)), (10, .c (.i false .u32 (pkV x.2 z 0))), (11, .c (.i false .u32 (pkV x.2 z 1))), (12, .c (.i false .u32 (svV x.2 z))), (40, .c (.es a2 n2 c2)), (41, .c (.i false .i64 (n2 : Int))), (42, .c (.i false .i64 (x.1 : Int)))]
def is42 (f : Fr) : Bool := match f.tr.get 40 with | .c (.es _ _ _) => true | _ => false
def mem1 (s' : SW) (P : (Nat → Int) → Prop) : Prop := match s' with
  | ⟨l, ty⟩ :: _ => ty = 59 ∧ wfL 45 l = true ∧ P (ofL l)
  | [] => False
def Q4 (E : World) (a : Option Addr) (n c : Nat) (z : Int) (a2 : Option Addr) (n2 c2 : Nat) (k : Nat) (todo : List Item) (fr : Fr) (s' : SW) : Prop :=
  cond (is42 fr) (mem1 s' fun d => ∃ i : Nat, i ≤ n2 ∧ n2 - i < k ∧ todo = hdb4 E ∧ fr.nt = Try.f4.ntmps ∧ refP fr (lb4 z a2 n2 c2 (i, d)))
    (mem1 s' fun d => ∃ i : Nat, i ≤ n ∧ n - i + n2 + 1 < k ∧ todo = hd4 E ∧ fr.nt = Try.f4.ntmps ∧ refP fr (la4 a n c z a2 n2 c2 (i, d)))
theorem keeps_pro (E : World) (a : Option Addr) (n c : Nat) (z : Int) (a2 : Option Addr) (n2 c2 : Nat) :
    (loopP (pe E) Try.f4 (fun v _ => SV.sim v (.c (.b false true))) (fun todo fr s' => todo = hd4 E ∧ fr.nt = Try.f4.ntmps ∧ refP fr (la4 a n c z a2 n2 c2 (0, fun j => if j = 0 then 31 else 0)) ∧ refT s' (sa4 (0, fun j => if j = 0 then 31 else 0))) (run (pe E) (orcF E) (tabL fns) 20000 (2^200-1) [.code c4] ⟨Try.f4.ntmps, mkFrGo (Tr.mk 12) 0 [.c (.es a n c), .c (.i false .u32 z), .c (.es a2 n2 c2)]⟩ [])) =
    ((decide ((↑n2 : Int) > (300 : Int)) = true → true = true) ∧ (decide ((↑n2 : Int) > (300 : Int)) = false → hd4 E = hd4 E ∧ (103 : Nat) = (103 : Nat) ∧ ((IntKind.u32 =
      IntKind.u32 ∧ z = z) ∧ C.es a2 n2 c2 = C.es a2 n2 c2 ∧ C.p (0 : Nat) (0 : Nat) = C.p (0 : Nat) (0 : Nat) ∧ C.es a n c = C.es a n c ∧ (IntKind.i64 = IntKind.i64 ∧ (↑n :
      Int) = (↑n : Int)) ∧ IntKind.i64 = IntKind.i64 ∧ (0 : Int) = (0 : Int)) ∧ ((59 : Nat) = (59 : Nat) ∧ (IntKind.u32 = IntKind.u32 ∧ (31 : Int) = (31 : Int)) ∧ (IntKind.u32 =
      IntKind.u32 ∧ (0 : Int) = (0 : Int)) ∧ (IntKind.u32 = IntKind.u32 ∧ (0 : Int) = (0 : Int)) ∧ (IntKind.u32 = IntKind.u32 ∧ (0 : Int) = (0 : Int)) ∧ (IntKind.u32 =
      IntKind.u32 ∧ (0 : Int) = (0 : Int)) ∧ (IntKind.u32 = IntKind.u32 ∧ (0 : Int) = (0 : Int)) ∧ (IntKind.u32 = IntKind.u32 ∧ (0 : Int) = (0 : Int)) ∧ (IntKind.u32 =
      IntKind.u32 ∧ (0 : Int) = (0 : Int)) ∧ (IntKind.u32 = IntKind.u32 ∧ (0 : Int) = (0 : Int)) ∧ (IntKind.u32 = IntKind.u32 ∧ (0 : Int) = (0 : Int)) ∧ (IntKind.u32 =
      IntKind.u32 ∧ (0 : Int) = (0 : Int)) ∧ (IntKind.u32 = IntKind.u32 ∧ (0 : Int) = (0 : Int)) ∧ (IntKind.u32 = IntKind.u32 ∧ (0 : Int) = (0 : Int)) ∧ (IntKind.u32 =
      IntKind.u32 ∧ (0 : Int) = (0 : Int)) ∧ (IntKind.u32 = IntKind.u32 ∧ (0 : Int) = (0 : Int)) ∧ (IntKind.u32 = IntKind.u32 ∧ (0 : Int) = (0 : Int)) ∧ (IntKind.u32 =
      IntKind.u32 ∧ (0 : Int) = (0 : Int)) ∧ (IntKind.u32 = IntKind.u32 ∧ (0 : Int) = (0 : Int)) ∧ (IntKind.u32 = IntKind.u32 ∧ (0 : Int) = (0 : Int)) ∧ (IntKind.u32 =
      IntKind.u32 ∧ (0 : Int) = (0 : Int)) ∧ (IntKind.u32 = IntKind.u32 ∧ (0 : Int) = (0 : Int)) ∧ (IntKind.u32 = IntKind.u32 ∧ (0 : Int) = (0 : Int)) ∧ (IntKind.u32 =
      IntKind.u32 ∧ (0 : Int) = (0 : Int)) ∧ (IntKind.u32 = IntKind.u32 ∧ (0 : Int) = (0 : Int)) ∧ (IntKind.u32 = IntKind.u32 ∧ (0 : Int) = (0 : Int)) ∧ (IntKind.u32 =
      IntKind.u32 ∧ (0 : Int) = (0 : Int)) ∧ (IntKind.u32 = IntKind.u32 ∧ (0 : Int) = (0 : Int)) ∧ (IntKind.u32 = IntKind.u32 ∧ (0 : Int) = (0 : Int)) ∧ (IntKind.u32 =
      IntKind.u32 ∧ (0 : Int) = (0 : Int)) ∧ (IntKind.u32 = IntKind.u32 ∧ (0 : Int) = (0 : Int)) ∧ (IntKind.u32 = IntKind.u32 ∧ (0 : Int) = (0 : Int)) ∧ (IntKind.u32 =
      IntKind.u32 ∧ (0 : Int) = (0 : Int)) ∧ (IntKind.u32 = IntKind.u32 ∧ (0 : Int) = (0 : Int)) ∧ (IntKind.u32 = IntKind.u32 ∧ (0 : Int) = (0 : Int)) ∧ (IntKind.u32 =
      IntKind.u32 ∧ (0 : Int) = (0 : Int)) ∧ (IntKind.u32 = IntKind.u32 ∧ (0 : Int) = (0 : Int)) ∧ (IntKind.u32 = IntKind.u32 ∧ (0 : Int) = (0 : Int)) ∧ (IntKind.u32 =
      IntKind.u32 ∧ (0 : Int) = (0 : Int)) ∧ (IntKind.u32 = IntKind.u32 ∧ (0 : Int) = (0 : Int)) ∧ (IntKind.u32 = IntKind.u32 ∧ (0 : Int) = (0 : Int)) ∧ (IntKind.u32 =
      IntKind.u32 ∧ (0 : Int) = (0 : Int)) ∧ (IntKind.u32 = IntKind.u32 ∧ (0 : Int) = (0 : Int)) ∧ (IntKind.u32 = IntKind.u32 ∧ (0 : Int) = (0 : Int)) ∧ (IntKind.u32 =
      IntKind.u32 ∧ (0 : Int) = (0 : Int)) ∧ IntKind.u32 = IntKind.u32 ∧ (0 : Int) = (0 : Int)) ∧ True)) := by kernel_rfl
theorem keeps_round (E : World) (a : Option Addr) (n c : Nat) (z : Int) (a2 : Option Addr) (n2 c2 : Nat) (j : Nat × (Nat → Int)) :
    (loopP (pe E) Try.f4 (fun v _ => SV.sim v (.c (.b false true))) (Q4 E a n c z a2 n2 c2 (n - j.1 + n2 + 1)) (run (pe E) (orcF E) (tabL fns) 20000 (2^200-1) (hd4 E) (mkL Try.f4.ntmps (la4 a n c z a2 n2 c2 j)) (sa4 j))) =
    ((decide ((↑j.fst : Int) < (↑n : Int)) = true → inB (↑j.fst : Int) n = true ∧ a.isSome = true ∧ eRow E a ((↑j.fst : Int).toNat * (3 : Nat) + (0 : Nat)) ([EK.i IntKind.i64]
      ++ ([EK.i IntKind.i64] ++ ([EK.i IntKind.u32] ++ []))) = true ∧ ((eI E a ((↑j.fst : Int).toNat * (3 : Nat) + (0 : Nat)) == (0 : Int)) = true → (59 : Nat) = (59 : Nat) ∧
      wfL (45 : Nat) (bk (setC (ofL (bk j.snd)) (eI E a ((↑j.fst : Int).toNat * (3 : Nat) + (1 : Nat))) (eI E a ((↑j.fst : Int).toNat * (3 : Nat) + (2 : Nat))))) = true ∧ ∃ (i :
      Nat), i ≤ n ∧ n - i + n2 + (1 : Nat) < n - j.fst + n2 + (1 : Nat) ∧ hd4 E = hd4 E ∧ (103 : Nat) = (103 : Nat) ∧ (IntKind.u32 = IntKind.u32 ∧ z = z) ∧ C.es a2 n2 c2 = C.es
      a2 n2 c2 ∧ C.p (0 : Nat) (0 : Nat) = C.p (0 : Nat) (0 : Nat) ∧ C.es a n c = C.es a n c ∧ (IntKind.i64 = IntKind.i64 ∧ (↑n : Int) = (↑n : Int)) ∧ IntKind.i64 = IntKind.i64
      ∧ IntKind.i64.wrap ((↑j.fst : Int) + (1 : Int)) = (↑(i, ofL (bk (setC (ofL (bk j.snd)) (eI E a ((↑j.fst : Int).toNat * (3 : Nat) + (1 : Nat))) (eI E a ((↑j.fst :
      Int).toNat * (3 : Nat) + (2 : Nat)))))).fst : Int)) ∧ ((eI E a ((↑j.fst : Int).toNat * (3 : Nat) + (0 : Nat)) == (0 : Int)) = false → ((eI E a ((↑j.fst : Int).toNat * (3 :
      Nat) + (0 : Nat)) == (1 : Int)) = true → (59 : Nat) = (59 : Nat) ∧ wfL (45 : Nat) (bk (setSt (ofL (bk j.snd)) (eI E a ((↑j.fst : Int).toNat * (3 : Nat) + (2 : Nat))))) =
      true ∧ ∃ (i : Nat), i ≤ n ∧ n - i + n2 + (1 : Nat) < n - j.fst + n2 + (1 : Nat) ∧ hd4 E = hd4 E ∧ (103 : Nat) = (103 : Nat) ∧ (IntKind.u32 = IntKind.u32 ∧ z = z) ∧ C.es a2
      n2 c2 = C.es a2 n2 c2 ∧ C.p (0 : Nat) (0 : Nat) = C.p (0 : Nat) (0 : Nat) ∧ C.es a n c = C.es a n c ∧ (IntKind.i64 = IntKind.i64 ∧ (↑n : Int) = (↑n : Int)) ∧ IntKind.i64 =
      IntKind.i64 ∧ IntKind.i64.wrap ((↑j.fst : Int) + (1 : Int)) = (↑(i, ofL (bk (setSt (ofL (bk j.snd)) (eI E a ((↑j.fst : Int).toNat * (3 : Nat) + (2 : Nat)))))).fst : Int))
      ∧ ((eI E a ((↑j.fst : Int).toNat * (3 : Nat) + (0 : Nat)) == (1 : Int)) = false → ((eI E a ((↑j.fst : Int).toNat * (3 : Nat) + (0 : Nat)) == (2 : Int)) = true → (59 : Nat)
      = (59 : Nat) ∧ wfL (45 : Nat) (bk (setSv (ofL (bk j.snd)) (eI E a ((↑j.fst : Int).toNat * (3 : Nat) + (2 : Nat))))) = true ∧ ∃ (i : Nat), i ≤ n ∧ n - i + n2 + (1 : Nat) <
      n - j.fst + n2 + (1 : Nat) ∧ hd4 E = hd4 E ∧ (103 : Nat) = (103 : Nat) ∧ (IntKind.u32 = IntKind.u32 ∧ z = z) ∧ C.es a2 n2 c2 = C.es a2 n2 c2 ∧ C.p (0 : Nat) (0 : Nat) =
      C.p (0 : Nat) (0 : Nat) ∧ C.es a n c = C.es a n c ∧ (IntKind.i64 = IntKind.i64 ∧ (↑n : Int) = (↑n : Int)) ∧ IntKind.i64 = IntKind.i64 ∧ IntKind.i64.wrap ((↑j.fst : Int) +
      (1 : Int)) = (↑(i, ofL (bk (setSv (ofL (bk j.snd)) (eI E a ((↑j.fst : Int).toNat * (3 : Nat) + (2 : Nat)))))).fst : Int)) ∧ ((eI E a ((↑j.fst : Int).toNat * (3 : Nat) + (0
      : Nat)) == (2 : Int)) = false → ((eI E a ((↑j.fst : Int).toNat * (3 : Nat) + (0 : Nat)) == (3 : Int)) = true → (59 : Nat) = (59 : Nat) ∧ wfL (45 : Nat) (bk (setU (ofL (bk
      j.snd)) (eI E a ((↑j.fst : Int).toNat * (3 : Nat) + (1 : Nat))) (eI E a ((↑j.fst : Int).toNat * (3 : Nat) + (2 : Nat))))) = true ∧ ∃ (i : Nat), i ≤ n ∧ n - i + n2 + (1 :
      Nat) < n - j.fst + n2 + (1 : Nat) ∧ hd4 E = hd4 E ∧ (103 : Nat) = (103 : Nat) ∧ (IntKind.u32 = IntKind.u32 ∧ z = z) ∧ C.es a2 n2 c2 = C.es a2 n2 c2 ∧ C.p (0 : Nat) (0 :
      Nat) = C.p (0 : Nat) (0 : Nat) ∧ C.es a n c = C.es a n c ∧ (IntKind.i64 = IntKind.i64 ∧ (↑n : Int) = (↑n : Int)) ∧ IntKind.i64 = IntKind.i64 ∧ IntKind.i64.wrap ((↑j.fst :
      Int) + (1 : Int)) = (↑(i, ofL (bk (setU (ofL (bk j.snd)) (eI E a ((↑j.fst : Int).toNat * (3 : Nat) + (1 : Nat))) (eI E a ((↑j.fst : Int).toNat * (3 : Nat) + (2 :
      Nat)))))).fst : Int)) ∧ ((eI E a ((↑j.fst : Int).toNat * (3 : Nat) + (0 : Nat)) == (3 : Int)) = false → ((eI E a ((↑j.fst : Int).toNat * (3 : Nat) + (0 : Nat)) == (4 :
      Int)) = true → (59 : Nat) = (59 : Nat) ∧ wfL (45 : Nat) (bk (entV (ofL (bk j.snd)) (IntKind.u32.wrap (eI E a ((↑j.fst : Int).toNat * (3 : Nat) + (1 : Nat)))) (eI E a
      ((↑j.fst : Int).toNat * (3 : Nat) + (2 : Nat))))) = true ∧ ∃ (i : Nat), i ≤ n ∧ n - i + n2 + (1 : Nat) < n - j.fst + n2 + (1 : Nat) ∧ hd4 E = hd4 E ∧ (103 : Nat) = (103 :
      Nat) ∧ (IntKind.u32 = IntKind.u32 ∧ z = z) ∧ C.es a2 n2 c2 = C.es a2 n2 c2 ∧ C.p (0 : Nat) (0 : Nat) = C.p (0 : Nat) (0 : Nat) ∧ C.es a n c = C.es a n c ∧ (IntKind.i64 =
      IntKind.i64 ∧ (↑n : Int) = (↑n : Int)) ∧ IntKind.i64 = IntKind.i64 ∧ IntKind.i64.wrap ((↑j.fst : Int) + (1 : Int)) = (↑(i, ofL (bk (entV (ofL (bk j.snd)) (IntKind.u32.wrap
      (eI E a ((↑j.fst : Int).toNat * (3 : Nat) + (1 : Nat)))) (eI E a ((↑j.fst : Int).toNat * (3 : Nat) + (2 : Nat)))))).fst : Int)) ∧ ((eI E a ((↑j.fst : Int).toNat * (3 :
      Nat) + (0 : Nat)) == (4 : Int)) = false → (59 : Nat) = (59 : Nat) ∧ wfL (45 : Nat) (bk j.snd) = true ∧ ∃ (i : Nat), i ≤ n ∧ n - i + n2 + (1 : Nat) < n - j.fst + n2 + (1 :
      Nat) ∧ hd4 E = hd4 E ∧ (103 : Nat) = (103 : Nat) ∧ (IntKind.u32 = IntKind.u32 ∧ z = z) ∧ C.es a2 n2 c2 = C.es a2 n2 c2 ∧ C.p (0 : Nat) (0 : Nat) = C.p (0 : Nat) (0 : Nat)
      ∧ C.es a n c = C.es a n c ∧ (IntKind.i64 = IntKind.i64 ∧ (↑n : Int) = (↑n : Int)) ∧ IntKind.i64 = IntKind.i64 ∧ IntKind.i64.wrap ((↑j.fst : Int) + (1 : Int)) = (↑(i, ofL
      (bk j.snd)).fst : Int))))))) ∧ (decide ((↑j.fst : Int) < (↑n : Int)) = false → (59 : Nat) = (59 : Nat) ∧ wfL (45 : Nat) (bk (setSt (ofL (bk j.snd)) z)) = true ∧ ∃ (i :
      Nat), i ≤ n2 ∧ n2 - i < n - j.fst + n2 + (1 : Nat) ∧ hdb4 E = hdb4 E ∧ (103 : Nat) = (103 : Nat) ∧ (IntKind.u32 = IntKind.u32 ∧ z = z) ∧ C.p (0 : Nat) (0 : Nat) = C.p (0 :
      Nat) (0 : Nat) ∧ (IntKind.u32 = IntKind.u32 ∧ getV (ofL (bk (setSt (ofL (bk j.snd)) z))) (13 : Int) = pkV (i, ofL (bk (setSt (ofL (bk j.snd)) z))).snd z (0 : Nat)) ∧
      (IntKind.u32 = IntKind.u32 ∧ getV (ofL (bk (setSt (ofL (bk j.snd)) z))) (14 : Int) = pkV (i, ofL (bk (setSt (ofL (bk j.snd)) z))).snd z (1 : Nat)) ∧ (IntKind.u32 =
      IntKind.u32 ∧ savV (ofL (bk (setSt (ofL (bk j.snd)) z))) = svV (i, ofL (bk (setSt (ofL (bk j.snd)) z))).snd z) ∧ C.es a2 n2 c2 = C.es a2 n2 c2 ∧ (IntKind.i64 = IntKind.i64
      ∧ (↑n2 : Int) = (↑n2 : Int)) ∧ IntKind.i64 = IntKind.i64 ∧ (0 : Int) = (↑(i, ofL (bk (setSt (ofL (bk j.snd)) z))).fst : Int))) := by kernel_rfl
theorem keeps_then (E : World) (a : Option Addr) (n c : Nat) (z : Int) (a2 : Option Addr) (n2 c2 : Nat) (j : Nat × (Nat → Int)) :
    (loopP (pe E) Try.f4 (fun v _ => SV.sim v (.c (.b false true))) (Q4 E a n c z a2 n2 c2 (n2 - j.1)) (run (pe E) (orcF E) (tabL fns) 20000 (2^200-1) (hdb4 E) (mkL Try.f4.ntmps (lb4 z a2 n2 c2 j)) (sa4 j))) =
    ((decide ((↑j.fst : Int) < (↑n2 : Int)) = true → inB (↑j.fst : Int) n2 = true ∧ a2.isSome = true ∧ eRow E a2 ((↑j.fst : Int).toNat * (3 : Nat) + (0 : Nat)) ([EK.i
      IntKind.i64] ++ ([EK.i IntKind.i64] ++ ([EK.i IntKind.u32] ++ []))) = true ∧ ((eI E a2 ((↑j.fst : Int).toNat * (3 : Nat) + (0 : Nat)) == (1 : Int)) = true → ((kdV (setSt
      (ofL (bk j.snd)) (eI E a2 ((↑j.fst : Int).toNat * (3 : Nat) + (2 : Nat))) (0 : Nat)) != kdV z) = true → ((kdV (setSt (ofL (bk j.snd)) (eI E a2 ((↑j.fst : Int).toNat * (3 :
      Nat) + (2 : Nat))) (0 : Nat)) != (0 : Int)) = true → ((eI E a2 ((↑j.fst : Int).toNat * (3 : Nat) + (0 : Nat)) != (3 : Int)) = true → ((eI E a2 ((↑j.fst : Int).toNat * (3 :
      Nat) + (0 : Nat)) != (4 : Int)) = true → ((eI E a2 ((↑j.fst : Int).toNat * (3 : Nat) + (0 : Nat)) == (0 : Int)) = true → (59 : Nat) = (59 : Nat) ∧ wfL (45 : Nat) (bk (setC
      (ofL (bk (setSt (ofL (bk j.snd)) (eI E a2 ((↑j.fst : Int).toNat * (3 : Nat) + (2 : Nat)))))) (eI E a2 ((↑j.fst : Int).toNat * (3 : Nat) + (1 : Nat))) (eI E a2 ((↑j.fst :
      Int).toNat * (3 : Nat) + (2 : Nat))))) = true ∧ ∃ (i : Nat), i ≤ n2 ∧ n2 - i < n2 - j.fst ∧ hdb4 E = hdb4 E ∧ (103 : Nat) = (103 : Nat) ∧ (IntKind.u32 = IntKind.u32 ∧ z =
      z) ∧ C.p (0 : Nat) (0 : Nat) = C.p (0 : Nat) (0 : Nat) ∧ (IntKind.u32 = IntKind.u32 ∧ pkV j.snd z (0 : Nat) = pkV (i, ofL (bk (setC (ofL (bk (setSt (ofL (bk j.snd)) (eI E
      a2 ((↑j.fst : Int).toNat * (3 : Nat) + (2 : Nat)))))) (eI E a2 ((↑j.fst : Int).toNat * (3 : Nat) + (1 : Nat))) (eI E a2 ((↑j.fst : Int).toNat * (3 : Nat) + (2 :
      Nat)))))).snd z (0 : Nat)) ∧ (IntKind.u32 = IntKind.u32 ∧ pkV j.snd z (1 : Nat) = pkV (i, ofL (bk (setC (ofL (bk (setSt (ofL (bk j.snd)) (eI E a2 ((↑j.fst : Int).toNat *
      (3 : Nat) + (2 : Nat)))))) (eI E a2 ((↑j.fst : Int).toNat * (3 : Nat) + (1 : Nat))) (eI E a2 ((↑j.fst : Int).toNat * (3 : Nat) + (2 : Nat)))))).snd z (1 : Nat)) ∧
      (IntKind.u32 = IntKind.u32 ∧ svV j.snd z = svV (i, ofL (bk (setC (ofL (bk (setSt (ofL (bk j.snd)) (eI E a2 ((↑j.fst : Int).toNat * (3 : Nat) + (2 : Nat)))))) (eI E a2
      ((↑j.fst : Int).toNat * (3 : Nat) + (1 : Nat))) (eI E a2 ((↑j.fst : Int).toNat * (3 : Nat) + (2 : Nat)))))).snd z) ∧ C.es a2 n2 c2 = C.es a2 n2 c2 ∧ (IntKind.i64 =
      IntKind.i64 ∧ (↑n2 : Int) = (↑n2 : Int)) ∧ IntKind.i64 = IntKind.i64 ∧ IntKind.i64.wrap ((↑j.fst : Int) + (1 : Int)) = (↑(i, ofL (bk (setC (ofL (bk (setSt (ofL (bk j.snd))
      (eI E a2 ((↑j.fst : Int).toNat * (3 : Nat) + (2 : Nat)))))) (eI E a2 ((↑j.fst : Int).toNat * (3 : Nat) + (1 : Nat))) (eI E a2 ((↑j.fst : Int).toNat * (3 : Nat) + (2 :
      Nat)))))).fst : Int)) ∧ ((eI E a2 ((↑j.fst : Int).toNat * (3 : Nat) + (0 : Nat)) == (0 : Int)) = false → ((eI E a2 ((↑j.fst : Int).toNat * (3 : Nat) + (0 : Nat)) == (1 :
      Int)) = true → (59 : Nat) = (59 : Nat) ∧ wfL (45 : Nat) (bk (setSt (ofL (bk (setSt (ofL (bk j.snd)) (eI E a2 ((↑j.fst : Int).toNat * (3 : Nat) + (2 : Nat)))))) (eI E a2
      ((↑j.fst : Int).toNat * (3 : Nat) + (2 : Nat))))) = true ∧ ∃ (i : Nat), i ≤ n2 ∧ n2 - i < n2 - j.fst ∧ hdb4 E = hdb4 E ∧ (103 : Nat) = (103 : Nat) ∧ (IntKind.u32 =
      IntKind.u32 ∧ z = z) ∧ C.p (0 : Nat) (0 : Nat) = C.p (0 : Nat) (0 : Nat) ∧ (IntKind.u32 = IntKind.u32 ∧ pkV j.snd z (0 : Nat) = pkV (i, ofL (bk (setSt (ofL (bk (setSt (ofL
      (bk j.snd)) (eI E a2 ((↑j.fst : Int).toNat * (3 : Nat) + (2 : Nat)))))) (eI E a2 ((↑j.fst : Int).toNat * (3 : Nat) + (2 : Nat)))))).snd z (0 : Nat)) ∧ (IntKind.u32 =
      IntKind.u32 ∧ pkV j.snd z (1 : Nat) = pkV (i, ofL (bk (setSt (ofL (bk (setSt (ofL (bk j.snd)) (eI E a2 ((↑j.fst : Int).toNat * (3 : Nat) + (2 : Nat)))))) (eI E a2 ((↑j.fst
      : Int).toNat * (3 : Nat) + (2 : Nat)))))).snd z (1 : Nat)) ∧ (IntKind.u32 = IntKind.u32 ∧ svV j.snd z = svV (i, ofL (bk (setSt (ofL (bk (setSt (ofL (bk j.snd)) (eI E a2
      ((↑j.fst : Int).toNat * (3 : Nat) + (2 : Nat)))))) (eI E a2 ((↑j.fst : Int).toNat * (3 : Nat) + (2 : Nat)))))).snd z) ∧ C.es a2 n2 c2 = C.es a2 n2 c2 ∧ (IntKind.i64 =
      IntKind.i64 ∧ (↑n2 : Int) = (↑n2 : Int)) ∧ IntKind.i64 = IntKind.i64 ∧ IntKind.i64.wrap ((↑j.fst : Int) + (1 : Int)) = (↑(i, ofL (bk (setSt (ofL (bk (setSt (ofL (bk
      j.snd)) (eI E a2 ((↑j.fst : Int).toNat * (3 : Nat) + (2 : Nat)))))) (eI E a2 ((↑j.fst : Int).toNat * (3 : Nat) + (2 : Nat)))))).fst : Int)) ∧ ((eI E a2 ((↑j.fst :
      Int).toNat * (3 : Nat) + (0 : Nat)) == (1 : Int)) = false → ((eI E a2 ((↑j.fst : Int).toNat * (3 : Nat) + (0 : Nat)) == (2 : Int)) = true → (59 : Nat) = (59 : Nat) ∧ wfL
      (45 : Nat) (bk (setSv (ofL (bk (setSt (ofL (bk j.snd)) (eI E a2 ((↑j.fst : Int).toNat * (3 : Nat) + (2 : Nat)))))) (eI E a2 ((↑j.fst : Int).toNat * (3 : Nat) + (2 :
      Nat))))) = true ∧ ∃ (i : Nat), i ≤ n2 ∧ n2 - i < n2 - j.fst ∧ hdb4 E = hdb4 E ∧ (103 : Nat) = (103 : Nat) ∧ (IntKind.u32 = IntKind.u32 ∧ z = z) ∧ C.p (0 : Nat) (0 : Nat) =
      C.p (0 : Nat) (0 : Nat) ∧ (IntKind.u32 = IntKind.u32 ∧ pkV j.snd z (0 : Nat) = pkV (i, ofL (bk (setSv (ofL (bk (setSt (ofL (bk j.snd)) (eI E a2 ((↑j.fst : Int).toNat * (3
      : Nat) + (2 : Nat)))))) (eI E a2 ((↑j.fst : Int).toNat * (3 : Nat) + (2 : Nat)))))).snd z (0 : Nat)) ∧ (IntKind.u32 = IntKind.u32 ∧ pkV j.snd z (1 : Nat) = pkV (i, ofL (bk
      (setSv (ofL (bk (setSt (ofL (bk j.snd)) (eI E a2 ((↑j.fst : Int).toNat * (3 : Nat) + (2 : Nat)))))) (eI E a2 ((↑j.fst : Int).toNat * (3 : Nat) + (2 : Nat)))))).snd z (1 :
      Nat)) ∧ (IntKind.u32 = IntKind.u32 ∧ svV j.snd z = svV (i, ofL (bk (setSv (ofL (bk (setSt (ofL (bk j.snd)) (eI E a2 ((↑j.fst : Int).toNat * (3 : Nat) + (2 : Nat)))))) (eI
      E a2 ((↑j.fst : Int).toNat * (3 : Nat) + (2 : Nat)))))).snd z) ∧ C.es a2 n2 c2 = C.es a2 n2 c2 ∧ (IntKind.i64 = IntKind.i64 ∧ (↑n2 : Int) = (↑n2 : Int)) ∧ IntKind.i64 =
      IntKind.i64 ∧ IntKind.i64.wrap ((↑j.fst : Int) + (1 : Int)) = (↑(i, ofL (bk (setSv (ofL (bk (setSt (ofL (bk j.snd)) (eI E a2 ((↑j.fst : Int).toNat * (3 : Nat) + (2 :
      Nat)))))) (eI E a2 ((↑j.fst : Int).toNat * (3 : Nat) + (2 : Nat)))))).fst : Int)) ∧ ((eI E a2 ((↑j.fst : Int).toNat * (3 : Nat) + (0 : Nat)) == (2 : Int)) = false → ((eI E
      a2 ((↑j.fst : Int).toNat * (3 : Nat) + (0 : Nat)) == (3 : Int)) = true → (59 : Nat) = (59 : Nat) ∧ wfL (45 : Nat) (bk (setU (ofL (bk (setSt (ofL (bk j.snd)) (eI E a2
      ((↑j.fst : Int).toNat * (3 : Nat) + (2 : Nat)))))) (eI E a2 ((↑j.fst : Int).toNat * (3 : Nat) + (1 : Nat))) (eI E a2 ((↑j.fst : Int).toNat * (3 : Nat) + (2 : Nat))))) =
      true ∧ ∃ (i : Nat), i ≤ n2 ∧ n2 - i < n2 - j.fst ∧ hdb4 E = hdb4 E ∧ (103 : Nat) = (103 : Nat) ∧ (IntKind.u32 = IntKind.u32 ∧ z = z) ∧ C.p (0 : Nat) (0 : Nat) = C.p (0 :
      Nat) (0 : Nat) ∧ (IntKind.u32 = IntKind.u32 ∧ pkV j.snd z (0 : Nat) = pkV (i, ofL (bk (setU (ofL (bk (setSt (ofL (bk j.snd)) (eI E a2 ((↑j.fst : Int).toNat * (3 : Nat) +
      (2 : Nat)))))) (eI E a2 ((↑j.fst : Int).toNat * (3 : Nat) + (1 : Nat))) (eI E a2 ((↑j.fst : Int).toNat * (3 : Nat) + (2 : Nat)))))).snd z (0 : Nat)) ∧ (IntKind.u32 =
      IntKind.u32 ∧ pkV j.snd z (1 : Nat) = pkV (i, ofL (bk (setU (ofL (bk (setSt (ofL (bk j.snd)) (eI E a2 ((↑j.fst : Int).toNat * (3 : Nat) + (2 : Nat)))))) (eI E a2 ((↑j.fst
      : Int).toNat * (3 : Nat) + (1 : Nat))) (eI E a2 ((↑j.fst : Int).toNat * (3 : Nat) + (2 : Nat)))))).snd z (1 : Nat)) ∧ (IntKind.u32 = IntKind.u32 ∧ svV j.snd z = svV (i,
      ofL (bk (setU (ofL (bk (setSt (ofL (bk j.snd)) (eI E a2 ((↑j.fst : Int).toNat * (3 : Nat) + (2 : Nat)))))) (eI E a2 ((↑j.fst : Int).toNat * (3 : Nat) + (1 : Nat))) (eI E
      a2 ((↑j.fst : Int).toNat * (3 : Nat) + (2 : Nat)))))).snd z) ∧ C.es a2 n2 c2 = C.es a2 n2 c2 ∧ (IntKind.i64 = IntKind.i64 ∧ (↑n2 : Int) = (↑n2 : Int)) ∧ IntKind.i64 =
      IntKind.i64 ∧ IntKind.i64.wrap ((↑j.fst : Int) + (1 : Int)) = (↑(i, ofL (bk (setU (ofL (bk (setSt (ofL (bk j.snd)) (eI E a2 ((↑j.fst : Int).toNat * (3 : Nat) + (2 :
      Nat)))))) (eI E a2 ((↑j.fst : Int).toNat * (3 : Nat) + (1 : Nat))) (eI E a2 ((↑j.fst : Int).toNat * (3 : Nat) + (2 : Nat)))))).fst : Int)) ∧ ((eI E a2 ((↑j.fst :
      Int).toNat * (3 : Nat) + (0 : Nat)) == (3 : Int)) = false → ((eI E a2 ((↑j.fst : Int).toNat * (3 : Nat) + (0 : Nat)) == (4 : Int)) = true → (59 : Nat) = (59 : Nat) ∧ wfL
      (45 : Nat) (bk (entV (ofL (bk (setSt (ofL (bk j.snd)) (eI E a2 ((↑j.fst : Int).toNat * (3 : Nat) + (2 : Nat)))))) (IntKind.u32.wrap (eI E a2 ((↑j.fst : Int).toNat * (3 :
      Nat) + (1 : Nat)))) (eI E a2 ((↑j.fst : Int).toNat * (3 : Nat) + (2 : Nat))))) = true ∧ ∃ (i : Nat), i ≤ n2 ∧ n2 - i < n2 - j.fst ∧ hdb4 E = hdb4 E ∧ (103 : Nat) = (103 :
      Nat) ∧ (IntKind.u32 = IntKind.u32 ∧ z = z) ∧ C.p (0 : Nat) (0 : Nat) = C.p (0 : Nat) (0 : Nat) ∧ (IntKind.u32 = IntKind.u32 ∧ pkV j.snd z (0 : Nat) = pkV (i, ofL (bk (entV
      (ofL (bk (setSt (ofL (bk j.snd)) (eI E a2 ((↑j.fst : Int).toNat * (3 : Nat) + (2 : Nat)))))) (IntKind.u32.wrap (eI E a2 ((↑j.fst : Int).toNat * (3 : Nat) + (1 : Nat))))
      (eI E a2 ((↑j.fst : Int).toNat * (3 : Nat) + (2 : Nat)))))).snd z (0 : Nat)) ∧ (IntKind.u32 = IntKind.u32 ∧ pkV j.snd z (1 : Nat) = pkV (i, ofL (bk (entV (ofL (bk (setSt
      (ofL (bk j.snd)) (eI E a2 ((↑j.fst : Int).toNat * (3 : Nat) + (2 : Nat)))))) (IntKind.u32.wrap (eI E a2 ((↑j.fst : Int).toNat * (3 : Nat) + (1 : Nat)))) (eI E a2 ((↑j.fst
      : Int).toNat * (3 : Nat) + (2 : Nat)))))).snd z (1 : Nat)) ∧ (IntKind.u32 = IntKind.u32 ∧ svV j.snd z = svV (i, ofL (bk (entV (ofL (bk (setSt (ofL (bk j.snd)) (eI E a2
      ((↑j.fst : Int).toNat * (3 : Nat) + (2 : Nat)))))) (IntKind.u32.wrap (eI E a2 ((↑j.fst : Int).toNat * (3 : Nat) + (1 : Nat)))) (eI E a2 ((↑j.fst : Int).toNat * (3 : Nat) +
      (2 : Nat)))))).snd z) ∧ C.es a2 n2 c2 = C.es a2 n2 c2 ∧ (IntKind.i64 = IntKind.i64 ∧ (↑n2 : Int) = (↑n2 : Int)) ∧ IntKind.i64 = IntKind.i64 ∧ IntKind.i64.wrap ((↑j.fst :
      Int) + (1 : Int)) = (↑(i, ofL (bk (entV (ofL (bk (setSt (ofL (bk j.snd)) (eI E a2 ((↑j.fst : Int).toNat * (3 : Nat) + (2 : Nat)))))) (IntKind.u32.wrap (eI E a2 ((↑j.fst :
      Int).toNat * (3 : Nat) + (1 : Nat)))) (eI E a2 ((↑j.fst : Int).toNat * (3 : Nat) + (2 : Nat)))))).fst : Int)) ∧ ((eI E a2 ((↑j.fst : Int).toNat * (3 : Nat) + (0 : Nat)) ==
      (4 : Int)) = false → (59 : Nat) = (59 : Nat) ∧ wfL (45 : Nat) (bk (setSt (ofL (bk j.snd)) (eI E a2 ((↑j.fst : Int).toNat * (3 : Nat) + (2 : Nat))))) = true ∧ ∃ (i : Nat),
      i ≤ n2 ∧ n2 - i < n2 - j.fst ∧ hdb4 E = hdb4 E ∧ (103 : Nat) = (103 : Nat) ∧ (IntKind.u32 = IntKind.u32 ∧ z = z) ∧ C.p (0 : Nat) (0 : Nat) = C.p (0 : Nat) (0 : Nat) ∧
      (IntKind.u32 = IntKind.u32 ∧ pkV j.snd z (0 : Nat) = pkV (i, ofL (bk (setSt (ofL (bk j.snd)) (eI E a2 ((↑j.fst : Int).toNat * (3 : Nat) + (2 : Nat)))))).snd z (0 : Nat)) ∧
      (IntKind.u32 = IntKind.u32 ∧ pkV j.snd z (1 : Nat) = pkV (i, ofL (bk (setSt (ofL (bk j.snd)) (eI E a2 ((↑j.fst : Int).toNat * (3 : Nat) + (2 : Nat)))))).snd z (1 : Nat)) ∧
      (IntKind.u32 = IntKind.u32 ∧ svV j.snd z = svV (i, ofL (bk (setSt (ofL (bk j.snd)) (eI E a2 ((↑j.fst : Int).toNat * (3 : Nat) + (2 : Nat)))))).snd z) ∧ C.es a2 n2 c2 =
      C.es a2 n2 c2 ∧ (IntKind.i64 = IntKind.i64 ∧ (↑n2 : Int) = (↑n2 : Int)) ∧ IntKind.i64 = IntKind.i64 ∧ IntKind.i64.wrap ((↑j.fst : Int) + (1 : Int)) = (↑(i, ofL (bk (setSt
      (ofL (bk j.snd)) (eI E a2 ((↑j.fst : Int).toNat * (3 : Nat) + (2 : Nat)))))).fst : Int))))))) ∧ ((eI E a2 ((↑j.fst : Int).toNat * (3 : Nat) + (0 : Nat)) != (4 : Int)) =
      false → (59 : Nat) = (59 : Nat) ∧ wfL (45 : Nat) (bk (setSt (ofL (bk j.snd)) (eI E a2 ((↑j.fst : Int).toNat * (3 : Nat) + (2 : Nat))))) = true ∧ ∃ (i : Nat), i ≤ n2 ∧ n2 -
      i < n2 - j.fst ∧ hdb4 E = hdb4 E ∧ (103 : Nat) = (103 : Nat) ∧ (IntKind.u32 = IntKind.u32 ∧ z = z) ∧ C.p (0 : Nat) (0 : Nat) = C.p (0 : Nat) (0 : Nat) ∧ (IntKind.u32 =
      IntKind.u32 ∧ pkV j.snd z (0 : Nat) = pkV (i, ofL (bk (setSt (ofL (bk j.snd)) (eI E a2 ((↑j.fst : Int).toNat * (3 : Nat) + (2 : Nat)))))).snd z (0 : Nat)) ∧ (IntKind.u32 =
      IntKind.u32 ∧ pkV j.snd z (1 : Nat) = pkV (i, ofL (bk (setSt (ofL (bk j.snd)) (eI E a2 ((↑j.fst : Int).toNat * (3 : Nat) + (2 : Nat)))))).snd z (1 : Nat)) ∧ (IntKind.u32 =
      IntKind.u32 ∧ svV j.snd z = svV (i, ofL (bk (setSt (ofL (bk j.snd)) (eI E a2 ((↑j.fst : Int).toNat * (3 : Nat) + (2 : Nat)))))).snd z) ∧ C.es a2 n2 c2 = C.es a2 n2 c2 ∧
      (IntKind.i64 = IntKind.i64 ∧ (↑n2 : Int) = (↑n2 : Int)) ∧ IntKind.i64 = IntKind.i64 ∧ IntKind.i64.wrap ((↑j.fst : Int) + (1 : Int)) = (↑(i, ofL (bk (setSt (ofL (bk j.snd))
      (eI E a2 ((↑j.fst : Int).toNat * (3 : Nat) + (2 : Nat)))))).fst : Int))) ∧ ((eI E a2 ((↑j.fst : Int).toNat * (3 : Nat) + (0 : Nat)) != (3 : Int)) = false → (59 : Nat) =
      (59 : Nat) ∧ wfL (45 : Nat) (bk (setSt (ofL (bk j.snd)) (eI E a2 ((↑j.fst : Int).toNat * (3 : Nat) + (2 : Nat))))) = true ∧ ∃ (i : Nat), i ≤ n2 ∧ n2 - i < n2 - j.fst ∧
      hdb4 E = hdb4 E ∧ (103 : Nat) = (103 : Nat) ∧ (IntKind.u32 = IntKind.u32 ∧ z = z) ∧ C.p (0 : Nat) (0 : Nat) = C.p (0 : Nat) (0 : Nat) ∧ (IntKind.u32 = IntKind.u32 ∧ pkV
      j.snd z (0 : Nat) = pkV (i, ofL (bk (setSt (ofL (bk j.snd)) (eI E a2 ((↑j.fst : Int).toNat * (3 : Nat) + (2 : Nat)))))).snd z (0 : Nat)) ∧ (IntKind.u32 = IntKind.u32 ∧ pkV
      j.snd z (1 : Nat) = pkV (i, ofL (bk (setSt (ofL (bk j.snd)) (eI E a2 ((↑j.fst : Int).toNat * (3 : Nat) + (2 : Nat)))))).snd z (1 : Nat)) ∧ (IntKind.u32 = IntKind.u32 ∧ svV
      j.snd z = svV (i, ofL (bk (setSt (ofL (bk j.snd)) (eI E a2 ((↑j.fst : Int).toNat * (3 : Nat) + (2 : Nat)))))).snd z) ∧ C.es a2 n2 c2 = C.es a2 n2 c2 ∧ (IntKind.i64 =
      IntKind.i64 ∧ (↑n2 : Int) = (↑n2 : Int)) ∧ IntKind.i64 = IntKind.i64 ∧ IntKind.i64.wrap ((↑j.fst : Int) + (1 : Int)) = (↑(i, ofL (bk (setSt (ofL (bk j.snd)) (eI E a2
      ((↑j.fst : Int).toNat * (3 : Nat) + (2 : Nat)))))).fst : Int))) ∧ ((kdV (setSt (ofL (bk j.snd)) (eI E a2 ((↑j.fst : Int).toNat * (3 : Nat) + (2 : Nat))) (0 : Nat)) != (0 :
      Int)) = false → (59 : Nat) = (59 : Nat) ∧ wfL (45 : Nat) (bk (setSt (ofL (bk j.snd)) (eI E a2 ((↑j.fst : Int).toNat * (3 : Nat) + (2 : Nat))))) = true ∧ ∃ (i : Nat), i ≤
      n2 ∧ n2 - i < n2 - j.fst ∧ hdb4 E = hdb4 E ∧ (103 : Nat) = (103 : Nat) ∧ (IntKind.u32 = IntKind.u32 ∧ z = z) ∧ C.p (0 : Nat) (0 : Nat) = C.p (0 : Nat) (0 : Nat) ∧
      (IntKind.u32 = IntKind.u32 ∧ pkV j.snd z (0 : Nat) = pkV (i, ofL (bk (setSt (ofL (bk j.snd)) (eI E a2 ((↑j.fst : Int).toNat * (3 : Nat) + (2 : Nat)))))).snd z (0 : Nat)) ∧
      (IntKind.u32 = IntKind.u32 ∧ pkV j.snd z (1 : Nat) = pkV (i, ofL (bk (setSt (ofL (bk j.snd)) (eI E a2 ((↑j.fst : Int).toNat * (3 : Nat) + (2 : Nat)))))).snd z (1 : Nat)) ∧
      (IntKind.u32 = IntKind.u32 ∧ svV j.snd z = svV (i, ofL (bk (setSt (ofL (bk j.snd)) (eI E a2 ((↑j.fst : Int).toNat * (3 : Nat) + (2 : Nat)))))).snd z) ∧ C.es a2 n2 c2 =
      C.es a2 n2 c2 ∧ (IntKind.i64 = IntKind.i64 ∧ (↑n2 : Int) = (↑n2 : Int)) ∧ IntKind.i64 = IntKind.i64 ∧ IntKind.i64.wrap ((↑j.fst : Int) + (1 : Int)) = (↑(i, ofL (bk (setSt
      (ofL (bk j.snd)) (eI E a2 ((↑j.fst : Int).toNat * (3 : Nat) + (2 : Nat)))))).fst : Int))) ∧ ((kdV (setSt (ofL (bk j.snd)) (eI E a2 ((↑j.fst : Int).toNat * (3 : Nat) + (2 :
      Nat))) (0 : Nat)) != kdV z) = false → (59 : Nat) = (59 : Nat) ∧ wfL (45 : Nat) (bk (setSt (ofL (bk j.snd)) (eI E a2 ((↑j.fst : Int).toNat * (3 : Nat) + (2 : Nat))))) =
      true ∧ ∃ (i : Nat), i ≤ n2 ∧ n2 - i < n2 - j.fst ∧ hdb4 E = hdb4 E ∧ (103 : Nat) = (103 : Nat) ∧ (IntKind.u32 = IntKind.u32 ∧ z = z) ∧ C.p (0 : Nat) (0 : Nat) = C.p (0 :
      Nat) (0 : Nat) ∧ (IntKind.u32 = IntKind.u32 ∧ pkV j.snd z (0 : Nat) = pkV (i, ofL (bk (setSt (ofL (bk j.snd)) (eI E a2 ((↑j.fst : Int).toNat * (3 : Nat) + (2 :
      Nat)))))).snd z (0 : Nat)) ∧ (IntKind.u32 = IntKind.u32 ∧ pkV j.snd z (1 : Nat) = pkV (i, ofL (bk (setSt (ofL (bk j.snd)) (eI E a2 ((↑j.fst : Int).toNat * (3 : Nat) + (2 :
      Nat)))))).snd z (1 : Nat)) ∧ (IntKind.u32 = IntKind.u32 ∧ svV j.snd z = svV (i, ofL (bk (setSt (ofL (bk j.snd)) (eI E a2 ((↑j.fst : Int).toNat * (3 : Nat) + (2 :
      Nat)))))).snd z) ∧ C.es a2 n2 c2 = C.es a2 n2 c2 ∧ (IntKind.i64 = IntKind.i64 ∧ (↑n2 : Int) = (↑n2 : Int)) ∧ IntKind.i64 = IntKind.i64 ∧ IntKind.i64.wrap ((↑j.fst : Int) +
      (1 : Int)) = (↑(i, ofL (bk (setSt (ofL (bk j.snd)) (eI E a2 ((↑j.fst : Int).toNat * (3 : Nat) + (2 : Nat)))))).fst : Int))) ∧ ((eI E a2 ((↑j.fst : Int).toNat * (3 : Nat) +
      (0 : Nat)) == (1 : Int)) = false → ((kdV (j.snd (0 : Nat)) != kdV z) = true → ((kdV (j.snd (0 : Nat)) != (0 : Int)) = true → ((eI E a2 ((↑j.fst : Int).toNat * (3 : Nat) +
      (0 : Nat)) != (3 : Int)) = true → ((eI E a2 ((↑j.fst : Int).toNat * (3 : Nat) + (0 : Nat)) != (4 : Int)) = true → ((eI E a2 ((↑j.fst : Int).toNat * (3 : Nat) + (0 : Nat))
      == (0 : Int)) = true → (59 : Nat) = (59 : Nat) ∧ wfL (45 : Nat) (bk (setC (ofL (bk j.snd)) (eI E a2 ((↑j.fst : Int).toNat * (3 : Nat) + (1 : Nat))) (eI E a2 ((↑j.fst :
      Int).toNat * (3 : Nat) + (2 : Nat))))) = true ∧ ∃ (i : Nat), i ≤ n2 ∧ n2 - i < n2 - j.fst ∧ hdb4 E = hdb4 E ∧ (103 : Nat) = (103 : Nat) ∧ (IntKind.u32 = IntKind.u32 ∧ z =
      z) ∧ C.p (0 : Nat) (0 : Nat) = C.p (0 : Nat) (0 : Nat) ∧ (IntKind.u32 = IntKind.u32 ∧ pkV j.snd z (0 : Nat) = pkV (i, ofL (bk (setC (ofL (bk j.snd)) (eI E a2 ((↑j.fst :
      Int).toNat * (3 : Nat) + (1 : Nat))) (eI E a2 ((↑j.fst : Int).toNat * (3 : Nat) + (2 : Nat)))))).snd z (0 : Nat)) ∧ (IntKind.u32 = IntKind.u32 ∧ pkV j.snd z (1 : Nat) =
      pkV (i, ofL (bk (setC (ofL (bk j.snd)) (eI E a2 ((↑j.fst : Int).toNat * (3 : Nat) + (1 : Nat))) (eI E a2 ((↑j.fst : Int).toNat * (3 : Nat) + (2 : Nat)))))).snd z (1 :
      Nat)) ∧ (IntKind.u32 = IntKind.u32 ∧ svV j.snd z = svV (i, ofL (bk (setC (ofL (bk j.snd)) (eI E a2 ((↑j.fst : Int).toNat * (3 : Nat) + (1 : Nat))) (eI E a2 ((↑j.fst :
      Int).toNat * (3 : Nat) + (2 : Nat)))))).snd z) ∧ C.es a2 n2 c2 = C.es a2 n2 c2 ∧ (IntKind.i64 = IntKind.i64 ∧ (↑n2 : Int) = (↑n2 : Int)) ∧ IntKind.i64 = IntKind.i64 ∧
      IntKind.i64.wrap ((↑j.fst : Int) + (1 : Int)) = (↑(i, ofL (bk (setC (ofL (bk j.snd)) (eI E a2 ((↑j.fst : Int).toNat * (3 : Nat) + (1 : Nat))) (eI E a2 ((↑j.fst :
      Int).toNat * (3 : Nat) + (2 : Nat)))))).fst : Int)) ∧ ((eI E a2 ((↑j.fst : Int).toNat * (3 : Nat) + (0 : Nat)) == (0 : Int)) = false → ((eI E a2 ((↑j.fst : Int).toNat * (3
      : Nat) + (0 : Nat)) == (1 : Int)) = true → (59 : Nat) = (59 : Nat) ∧ wfL (45 : Nat) (bk (setSt (ofL (bk j.snd)) (eI E a2 ((↑j.fst : Int).toNat * (3 : Nat) + (2 : Nat)))))
      = true ∧ ∃ (i : Nat), i ≤ n2 ∧ n2 - i < n2 - j.fst ∧ hdb4 E = hdb4 E ∧ (103 : Nat) = (103 : Nat) ∧ (IntKind.u32 = IntKind.u32 ∧ z = z) ∧ C.p (0 : Nat) (0 : Nat) = C.p (0 :
      Nat) (0 : Nat) ∧ (IntKind.u32 = IntKind.u32 ∧ pkV j.snd z (0 : Nat) = pkV (i, ofL (bk (setSt (ofL (bk j.snd)) (eI E a2 ((↑j.fst : Int).toNat * (3 : Nat) + (2 :
      Nat)))))).snd z (0 : Nat)) ∧ (IntKind.u32 = IntKind.u32 ∧ pkV j.snd z (1 : Nat) = pkV (i, ofL (bk (setSt (ofL (bk j.snd)) (eI E a2 ((↑j.fst : Int).toNat * (3 : Nat) + (2 :
      Nat)))))).snd z (1 : Nat)) ∧ (IntKind.u32 = IntKind.u32 ∧ svV j.snd z = svV (i, ofL (bk (setSt (ofL (bk j.snd)) (eI E a2 ((↑j.fst : Int).toNat * (3 : Nat) + (2 :
      Nat)))))).snd z) ∧ C.es a2 n2 c2 = C.es a2 n2 c2 ∧ (IntKind.i64 = IntKind.i64 ∧ (↑n2 : Int) = (↑n2 : Int)) ∧ IntKind.i64 = IntKind.i64 ∧ IntKind.i64.wrap ((↑j.fst : Int) +
      (1 : Int)) = (↑(i, ofL (bk (setSt (ofL (bk j.snd)) (eI E a2 ((↑j.fst : Int).toNat * (3 : Nat) + (2 : Nat)))))).fst : Int)) ∧ ((eI E a2 ((↑j.fst : Int).toNat * (3 : Nat) +
      (0 : Nat)) == (1 : Int)) = false → ((eI E a2 ((↑j.fst : Int).toNat * (3 : Nat) + (0 : Nat)) == (2 : Int)) = true → (59 : Nat) = (59 : Nat) ∧ wfL (45 : Nat) (bk (setSv (ofL
      (bk j.snd)) (eI E a2 ((↑j.fst : Int).toNat * (3 : Nat) + (2 : Nat))))) = true ∧ ∃ (i : Nat), i ≤ n2 ∧ n2 - i < n2 - j.fst ∧ hdb4 E = hdb4 E ∧ (103 : Nat) = (103 : Nat) ∧
      (IntKind.u32 = IntKind.u32 ∧ z = z) ∧ C.p (0 : Nat) (0 : Nat) = C.p (0 : Nat) (0 : Nat) ∧ (IntKind.u32 = IntKind.u32 ∧ pkV j.snd z (0 : Nat) = pkV (i, ofL (bk (setSv (ofL
      (bk j.snd)) (eI E a2 ((↑j.fst : Int).toNat * (3 : Nat) + (2 : Nat)))))).snd z (0 : Nat)) ∧ (IntKind.u32 = IntKind.u32 ∧ pkV j.snd z (1 : Nat) = pkV (i, ofL (bk (setSv (ofL
      (bk j.snd)) (eI E a2 ((↑j.fst : Int).toNat * (3 : Nat) + (2 : Nat)))))).snd z (1 : Nat)) ∧ (IntKind.u32 = IntKind.u32 ∧ svV j.snd z = svV (i, ofL (bk (setSv (ofL (bk
      j.snd)) (eI E a2 ((↑j.fst : Int).toNat * (3 : Nat) + (2 : Nat)))))).snd z) ∧ C.es a2 n2 c2 = C.es a2 n2 c2 ∧ (IntKind.i64 = IntKind.i64 ∧ (↑n2 : Int) = (↑n2 : Int)) ∧
      IntKind.i64 = IntKind.i64 ∧ IntKind.i64.wrap ((↑j.fst : Int) + (1 : Int)) = (↑(i, ofL (bk (setSv (ofL (bk j.snd)) (eI E a2 ((↑j.fst : Int).toNat * (3 : Nat) + (2 :
      Nat)))))).fst : Int)) ∧ ((eI E a2 ((↑j.fst : Int).toNat * (3 : Nat) + (0 : Nat)) == (2 : Int)) = false → ((eI E a2 ((↑j.fst : Int).toNat * (3 : Nat) + (0 : Nat)) == (3 :
      Int)) = true → (59 : Nat) = (59 : Nat) ∧ wfL (45 : Nat) (bk (setU (ofL (bk j.snd)) (eI E a2 ((↑j.fst : Int).toNat * (3 : Nat) + (1 : Nat))) (eI E a2 ((↑j.fst : Int).toNat
      * (3 : Nat) + (2 : Nat))))) = true ∧ ∃ (i : Nat), i ≤ n2 ∧ n2 - i < n2 - j.fst ∧ hdb4 E = hdb4 E ∧ (103 : Nat) = (103 : Nat) ∧ (IntKind.u32 = IntKind.u32 ∧ z = z) ∧ C.p (0
      : Nat) (0 : Nat) = C.p (0 : Nat) (0 : Nat) ∧ (IntKind.u32 = IntKind.u32 ∧ pkV j.snd z (0 : Nat) = pkV (i, ofL (bk (setU (ofL (bk j.snd)) (eI E a2 ((↑j.fst : Int).toNat *
      (3 : Nat) + (1 : Nat))) (eI E a2 ((↑j.fst : Int).toNat * (3 : Nat) + (2 : Nat)))))).snd z (0 : Nat)) ∧ (IntKind.u32 = IntKind.u32 ∧ pkV j.snd z (1 : Nat) = pkV (i, ofL (bk
      (setU (ofL (bk j.snd)) (eI E a2 ((↑j.fst : Int).toNat * (3 : Nat) + (1 : Nat))) (eI E a2 ((↑j.fst : Int).toNat * (3 : Nat) + (2 : Nat)))))).snd z (1 : Nat)) ∧ (IntKind.u32
      = IntKind.u32 ∧ svV j.snd z = svV (i, ofL (bk (setU (ofL (bk j.snd)) (eI E a2 ((↑j.fst : Int).toNat * (3 : Nat) + (1 : Nat))) (eI E a2 ((↑j.fst : Int).toNat * (3 : Nat) +
      (2 : Nat)))))).snd z) ∧ C.es a2 n2 c2 = C.es a2 n2 c2 ∧ (IntKind.i64 = IntKind.i64 ∧ (↑n2 : Int) = (↑n2 : Int)) ∧ IntKind.i64 = IntKind.i64 ∧ IntKind.i64.wrap ((↑j.fst :
      Int) + (1 : Int)) = (↑(i, ofL (bk (setU (ofL (bk j.snd)) (eI E a2 ((↑j.fst : Int).toNat * (3 : Nat) + (1 : Nat))) (eI E a2 ((↑j.fst : Int).toNat * (3 : Nat) + (2 :
      Nat)))))).fst : Int)) ∧ ((eI E a2 ((↑j.fst : Int).toNat * (3 : Nat) + (0 : Nat)) == (3 : Int)) = false → ((eI E a2 ((↑j.fst : Int).toNat * (3 : Nat) + (0 : Nat)) == (4 :
      Int)) = true → (59 : Nat) = (59 : Nat) ∧ wfL (45 : Nat) (bk (entV (ofL (bk j.snd)) (IntKind.u32.wrap (eI E a2 ((↑j.fst : Int).toNat * (3 : Nat) + (1 : Nat)))) (eI E a2
      ((↑j.fst : Int).toNat * (3 : Nat) + (2 : Nat))))) = true ∧ ∃ (i : Nat), i ≤ n2 ∧ n2 - i < n2 - j.fst ∧ hdb4 E = hdb4 E ∧ (103 : Nat) = (103 : Nat) ∧ (IntKind.u32 =
      IntKind.u32 ∧ z = z) ∧ C.p (0 : Nat) (0 : Nat) = C.p (0 : Nat) (0 : Nat) ∧ (IntKind.u32 = IntKind.u32 ∧ pkV j.snd z (0 : Nat) = pkV (i, ofL (bk (entV (ofL (bk j.snd))
      (IntKind.u32.wrap (eI E a2 ((↑j.fst : Int).toNat * (3 : Nat) + (1 : Nat)))) (eI E a2 ((↑j.fst : Int).toNat * (3 : Nat) + (2 : Nat)))))).snd z (0 : Nat)) ∧ (IntKind.u32 =
      IntKind.u32 ∧ pkV j.snd z (1 : Nat) = pkV (i, ofL (bk (entV (ofL (bk j.snd)) (IntKind.u32.wrap (eI E a2 ((↑j.fst : Int).toNat * (3 : Nat) + (1 : Nat)))) (eI E a2 ((↑j.fst
      : Int).toNat * (3 : Nat) + (2 : Nat)))))).snd z (1 : Nat)) ∧ (IntKind.u32 = IntKind.u32 ∧ svV j.snd z = svV (i, ofL (bk (entV (ofL (bk j.snd)) (IntKind.u32.wrap (eI E a2
      ((↑j.fst : Int).toNat * (3 : Nat) + (1 : Nat)))) (eI E a2 ((↑j.fst : Int).toNat * (3 : Nat) + (2 : Nat)))))).snd z) ∧ C.es a2 n2 c2 = C.es a2 n2 c2 ∧ (IntKind.i64 =
      IntKind.i64 ∧ (↑n2 : Int) = (↑n2 : Int)) ∧ IntKind.i64 = IntKind.i64 ∧ IntKind.i64.wrap ((↑j.fst : Int) + (1 : Int)) = (↑(i, ofL (bk (entV (ofL (bk j.snd))
      (IntKind.u32.wrap (eI E a2 ((↑j.fst : Int).toNat * (3 : Nat) + (1 : Nat)))) (eI E a2 ((↑j.fst : Int).toNat * (3 : Nat) + (2 : Nat)))))).fst : Int)) ∧ ((eI E a2 ((↑j.fst :
      Int).toNat * (3 : Nat) + (0 : Nat)) == (4 : Int)) = false → (59 : Nat) = (59 : Nat) ∧ wfL (45 : Nat) (bk j.snd) = true ∧ ∃ (i : Nat), i ≤ n2 ∧ n2 - i < n2 - j.fst ∧ hdb4 E
      = hdb4 E ∧ (103 : Nat) = (103 : Nat) ∧ (IntKind.u32 = IntKind.u32 ∧ z = z) ∧ C.p (0 : Nat) (0 : Nat) = C.p (0 : Nat) (0 : Nat) ∧ (IntKind.u32 = IntKind.u32 ∧ pkV j.snd z
      (0 : Nat) = pkV (i, ofL (bk j.snd)).snd z (0 : Nat)) ∧ (IntKind.u32 = IntKind.u32 ∧ pkV j.snd z (1 : Nat) = pkV (i, ofL (bk j.snd)).snd z (1 : Nat)) ∧ (IntKind.u32 =
      IntKind.u32 ∧ svV j.snd z = svV (i, ofL (bk j.snd)).snd z) ∧ C.es a2 n2 c2 = C.es a2 n2 c2 ∧ (IntKind.i64 = IntKind.i64 ∧ (↑n2 : Int) = (↑n2 : Int)) ∧ IntKind.i64 =
      IntKind.i64 ∧ IntKind.i64.wrap ((↑j.fst : Int) + (1 : Int)) = (↑(i, ofL (bk j.snd)).fst : Int))))))) ∧ ((eI E a2 ((↑j.fst : Int).toNat * (3 : Nat) + (0 : Nat)) != (4 :
      Int)) = false → (59 : Nat) = (59 : Nat) ∧ wfL (45 : Nat) (bk j.snd) = true ∧ ∃ (i : Nat), i ≤ n2 ∧ n2 - i < n2 - j.fst ∧ hdb4 E = hdb4 E ∧ (103 : Nat) = (103 : Nat) ∧
      (IntKind.u32 = IntKind.u32 ∧ z = z) ∧ C.p (0 : Nat) (0 : Nat) = C.p (0 : Nat) (0 : Nat) ∧ (IntKind.u32 = IntKind.u32 ∧ pkV j.snd z (0 : Nat) = pkV (i, ofL (bk j.snd)).snd
      z (0 : Nat)) ∧ (IntKind.u32 = IntKind.u32 ∧ pkV j.snd z (1 : Nat) = pkV (i, ofL (bk j.snd)).snd z (1 : Nat)) ∧ (IntKind.u32 = IntKind.u32 ∧ svV j.snd z = svV (i, ofL (bk
      j.snd)).snd z) ∧ C.es a2 n2 c2 = C.es a2 n2 c2 ∧ (IntKind.i64 = IntKind.i64 ∧ (↑n2 : Int) = (↑n2 : Int)) ∧ IntKind.i64 = IntKind.i64 ∧ IntKind.i64.wrap ((↑j.fst : Int) +
      (1 : Int)) = (↑(i, ofL (bk j.snd)).fst : Int))) ∧ ((eI E a2 ((↑j.fst : Int).toNat * (3 : Nat) + (0 : Nat)) != (3 : Int)) = false → (59 : Nat) = (59 : Nat) ∧ wfL (45 : Nat)
      (bk j.snd) = true ∧ ∃ (i : Nat), i ≤ n2 ∧ n2 - i < n2 - j.fst ∧ hdb4 E = hdb4 E ∧ (103 : Nat) = (103 : Nat) ∧ (IntKind.u32 = IntKind.u32 ∧ z = z) ∧ C.p (0 : Nat) (0 : Nat)
      = C.p (0 : Nat) (0 : Nat) ∧ (IntKind.u32 = IntKind.u32 ∧ pkV j.snd z (0 : Nat) = pkV (i, ofL (bk j.snd)).snd z (0 : Nat)) ∧ (IntKind.u32 = IntKind.u32 ∧ pkV j.snd z (1 :
      Nat) = pkV (i, ofL (bk j.snd)).snd z (1 : Nat)) ∧ (IntKind.u32 = IntKind.u32 ∧ svV j.snd z = svV (i, ofL (bk j.snd)).snd z) ∧ C.es a2 n2 c2 = C.es a2 n2 c2 ∧ (IntKind.i64
      = IntKind.i64 ∧ (↑n2 : Int) = (↑n2 : Int)) ∧ IntKind.i64 = IntKind.i64 ∧ IntKind.i64.wrap ((↑j.fst : Int) + (1 : Int)) = (↑(i, ofL (bk j.snd)).fst : Int))) ∧ ((kdV (j.snd
      (0 : Nat)) != (0 : Int)) = false → (59 : Nat) = (59 : Nat) ∧ wfL (45 : Nat) (bk j.snd) = true ∧ ∃ (i : Nat), i ≤ n2 ∧ n2 - i < n2 - j.fst ∧ hdb4 E = hdb4 E ∧ (103 : Nat) =
      (103 : Nat) ∧ (IntKind.u32 = IntKind.u32 ∧ z = z) ∧ C.p (0 : Nat) (0 : Nat) = C.p (0 : Nat) (0 : Nat) ∧ (IntKind.u32 = IntKind.u32 ∧ pkV j.snd z (0 : Nat) = pkV (i, ofL
      (bk j.snd)).snd z (0 : Nat)) ∧ (IntKind.u32 = IntKind.u32 ∧ pkV j.snd z (1 : Nat) = pkV (i, ofL (bk j.snd)).snd z (1 : Nat)) ∧ (IntKind.u32 = IntKind.u32 ∧ svV j.snd z =
      svV (i, ofL (bk j.snd)).snd z) ∧ C.es a2 n2 c2 = C.es a2 n2 c2 ∧ (IntKind.i64 = IntKind.i64 ∧ (↑n2 : Int) = (↑n2 : Int)) ∧ IntKind.i64 = IntKind.i64 ∧ IntKind.i64.wrap
      ((↑j.fst : Int) + (1 : Int)) = (↑(i, ofL (bk j.snd)).fst : Int))) ∧ ((kdV (j.snd (0 : Nat)) != kdV z) = false → (59 : Nat) = (59 : Nat) ∧ wfL (45 : Nat) (bk j.snd) = true
      ∧ ∃ (i : Nat), i ≤ n2 ∧ n2 - i < n2 - j.fst ∧ hdb4 E = hdb4 E ∧ (103 : Nat) = (103 : Nat) ∧ (IntKind.u32 = IntKind.u32 ∧ z = z) ∧ C.p (0 : Nat) (0 : Nat) = C.p (0 : Nat)
      (0 : Nat) ∧ (IntKind.u32 = IntKind.u32 ∧ pkV j.snd z (0 : Nat) = pkV (i, ofL (bk j.snd)).snd z (0 : Nat)) ∧ (IntKind.u32 = IntKind.u32 ∧ pkV j.snd z (1 : Nat) = pkV (i,
      ofL (bk j.snd)).snd z (1 : Nat)) ∧ (IntKind.u32 = IntKind.u32 ∧ svV j.snd z = svV (i, ofL (bk j.snd)).snd z) ∧ C.es a2 n2 c2 = C.es a2 n2 c2 ∧ (IntKind.i64 = IntKind.i64 ∧
      (↑n2 : Int) = (↑n2 : Int)) ∧ IntKind.i64 = IntKind.i64 ∧ IntKind.i64.wrap ((↑j.fst : Int) + (1 : Int)) = (↑(i, ofL (bk j.snd)).fst : Int)))) ∧ (decide ((↑j.fst : Int) <
      (↑n2 : Int)) = false → ((getV (ofL (bk (setSt (ofL (bk j.snd)) z))) (13 : Int) == pkV j.snd z (0 : Nat)) = true → ((getV (ofL (bk (setSt (ofL (bk j.snd)) z))) (14 : Int)
      == pkV j.snd z (1 : Nat)) = true → ((kdV z == (0 : Int)) = true → true = true) ∧ ((kdV z == (0 : Int)) = false → (savV (ofL (bk (setSt (ofL (bk j.snd)) z))) == svV j.snd
      z) = true)) ∧ ((getV (ofL (bk (setSt (ofL (bk j.snd)) z))) (14 : Int) == pkV j.snd z (1 : Nat)) = false → false = true)) ∧ ((getV (ofL (bk (setSt (ofL (bk j.snd)) z))) (13
      : Int) == pkV j.snd z (0 : Nat)) = false → false = true))) := by kernel_rfl
end Go.Proofs.Ytkgpcdnlbgmglaa

