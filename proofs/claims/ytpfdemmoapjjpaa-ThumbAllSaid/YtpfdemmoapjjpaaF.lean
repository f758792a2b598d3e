import Derived.Test.YtpfdemmoapjjpaaA
set_option linter.unusedVariables false
set_option linter.unusedSimpArgs false
namespace Go.Proofs.Ytpfdemmoapjjpaa
open Go Go.Proofs Go.Proofs.Ytpfdemmoapjjpaa.Ev
noncomputable abbrev pe0 (E : World) : PE := ⟨Try.prog, E, false⟩
theorem tab_ok0 {E : World} : TabOK (pe0 E) (tabL fns) := tabL_ok fns_ok
def bitOf (p : ByteArray) (w : Int) (i : Nat) : Int := (w.fdiv ((2 : Int) ^ min (IntKind.i64.wrap (IntKind.i64.wrap ((p.size : Int) - (1 : Int)) - (i : Int))).toNat (32 : Nat))).tmod (2 : Int)
def fitsN (p : ByteArray) (w : Int) : Nat → Nat → Bool
  | 0, _ => true
  | m + 1, i => if (strB p (i : Int) == 48 && bitOf p w i != 0) = true then false else if (strB p (i : Int) == 49 && bitOf p w i != 1) = true then false else fitsN p w m (i + 1)
def fldN (p : ByteArray) (w c : Int) : Nat → Nat → Int → Int
  | 0, _, x => x
  | m + 1, i, x => fldN p w c m (i + 1) (if (strB p (i : Int) == c) = true then IntKind.i64.wrap (IntKind.i64.wrap (2 * x) + IntKind.i64.wrap (bitOf p w i)) else x)
def hsN (p : ByteArray) (c : Int) : Nat → Nat → Bool
  | 0, _ => false
  | m + 1, i => if (strB p (i : Int) == c) = true then true else hsN p c m (i + 1)
def fits (p : ByteArray) (w : Int) : Bool := fitsN p w p.size 0
def fld (p : ByteArray) (w c : Int) : Int := fldN p w c p.size 0 0
def hs (p : ByteArray) (c : Int) : Bool := hsN p c p.size 0
def szOK (p : ByteArray) : Bool := decide (p.size ≤ 1000)
noncomputable def c12 : Code := Try.f12.body.getD .skip
noncomputable def hd12 (E : World) : List Item := headOf (run (pe0 E) orcNone (tabL fns) 20000 1606938044258990275541962092341162602522202993782792835301375 [.code c12] ⟨Try.f12.ntmps, mkFrGo (Tr.mk 12) 0 [.c (.str true .empty), .c (.i true .u32 0)]⟩ [])
def lv12 (E : World) (p : ByteArray) (w : Int) (x : Nat) : List (Nat × SV) := [(0, .c (.str false p)), (1, .c (.i false .u32 w)), (5, .c (.i false .i64 (p.size : Int))), (6, .c (.i false .i64 (x : Int)))]
def sv12 (E : World) (p : ByteArray) (w : Int) (x : Nat) : SW := []
def hh12 (E : World) (p : ByteArray) (w : Int) (x : Nat) : Prop := x ≤ p.size ∧ fits p w = fitsN p w (p.size - x) x
def mu12 (E : World) (p : ByteArray) (w : Int) (x : Nat) : Nat := p.size - x
theorem fits_pro (E : World) (p : ByteArray) (w : Int) :
    (loopP (pe0 E) Try.f12 (fun v _ => SV.sim v (.c (.b false (fits p w)))) (fun todo fr s' => ∃ x : Nat, hh12 E p w x ∧ todo = hd12 E ∧ fr.nt = Try.f12.ntmps ∧ refP fr (lv12 E p w x) ∧ refT s' (sv12 E p w x)) (run (pe0 E) orcNone (tabL fns) 20000 1606938044258990275541962092341162602522202993782792835301375 [.code c12] ⟨Try.f12.ntmps, mkFrGo (Tr.mk 12) 0 [.c (.str false p), .c (.i false .u32 w)]⟩ [])) =
    (∃ (x : Nat), (x ≤ p.size ∧ fits p w = fitsN p w (p.size - x) x) ∧ hd12 E = hd12 E ∧ (40 : Nat) = (40 : Nat) ∧ (p = p ∧ (IntKind.u32 = IntKind.u32 ∧ w = w) ∧ (IntKind.i64 =
      IntKind.i64 ∧ (↑p.size : Int) = (↑p.size : Int)) ∧ IntKind.i64 = IntKind.i64 ∧ (0 : Int) = (↑x : Int)) ∧ True) := by kernel_rfl
theorem fits_round (E : World) (p : ByteArray) (w : Int) (j : Nat) :
    (loopP (pe0 E) Try.f12 (fun v _ => SV.sim v (.c (.b false (fits p w)))) (fun todo fr s' => ∃ x : Nat, hh12 E p w x ∧ mu12 E p w x < mu12 E p w j ∧ todo = hd12 E ∧ fr.nt = Try.f12.ntmps ∧ refP fr (lv12 E p w x) ∧ refT s' (sv12 E p w x)) (run (pe0 E) orcNone (tabL fns) 20000 1606938044258990275541962092341162602522202993782792835301375 (hd12 E) (mkL Try.f12.ntmps (lv12 E p w j)) (sv12 E p w j))) =
    ((decide ((↑j : Int) < (↑p.size : Int)) = true → decide ((0 : Int) ≤ IntKind.i64.wrap (IntKind.i64.wrap ((↑p.size : Int) - (1 : Int)) - (↑j : Int))) = true ∧ inB (↑j : Int)
      p.size = true ∧ ((strB p (↑j : Int) == (48 : Int)) = true → (((w.fdiv ((2 : Int) ^ min (IntKind.i64.wrap (IntKind.i64.wrap ((↑p.size : Int) - (1 : Int)) - (↑j :
      Int))).toNat (32 : Nat))).tmod (2 : Int) != (0 : Int)) = true → false = fits p w) ∧ (((w.fdiv ((2 : Int) ^ min (IntKind.i64.wrap (IntKind.i64.wrap ((↑p.size : Int) - (1 :
      Int)) - (↑j : Int))).toNat (32 : Nat))).tmod (2 : Int) != (0 : Int)) = false → inB (↑j : Int) p.size = true ∧ ((strB p (↑j : Int) == (49 : Int)) = true → (((w.fdiv ((2 :
      Int) ^ min (IntKind.i64.wrap (IntKind.i64.wrap ((↑p.size : Int) - (1 : Int)) - (↑j : Int))).toNat (32 : Nat))).tmod (2 : Int) != (1 : Int)) = true → false = fits p w) ∧
      (((w.fdiv ((2 : Int) ^ min (IntKind.i64.wrap (IntKind.i64.wrap ((↑p.size : Int) - (1 : Int)) - (↑j : Int))).toNat (32 : Nat))).tmod (2 : Int) != (1 : Int)) = false → ∃ (x
      : Nat), (x ≤ p.size ∧ fits p w = fitsN p w (p.size - x) x) ∧ mu12 E p w x < mu12 E p w j ∧ hd12 E = hd12 E ∧ (40 : Nat) = (40 : Nat) ∧ (p = p ∧ (IntKind.u32 = IntKind.u32
      ∧ w = w) ∧ (IntKind.i64 = IntKind.i64 ∧ (↑p.size : Int) = (↑p.size : Int)) ∧ IntKind.i64 = IntKind.i64 ∧ IntKind.i64.wrap ((↑j : Int) + (1 : Int)) = (↑x : Int)) ∧ True)) ∧
      ((strB p (↑j : Int) == (49 : Int)) = false → ∃ (x : Nat), (x ≤ p.size ∧ fits p w = fitsN p w (p.size - x) x) ∧ mu12 E p w x < mu12 E p w j ∧ hd12 E = hd12 E ∧ (40 : Nat) =
      (40 : Nat) ∧ (p = p ∧ (IntKind.u32 = IntKind.u32 ∧ w = w) ∧ (IntKind.i64 = IntKind.i64 ∧ (↑p.size : Int) = (↑p.size : Int)) ∧ IntKind.i64 = IntKind.i64 ∧ IntKind.i64.wrap
      ((↑j : Int) + (1 : Int)) = (↑x : Int)) ∧ True))) ∧ ((strB p (↑j : Int) == (48 : Int)) = false → inB (↑j : Int) p.size = true ∧ ((strB p (↑j : Int) == (49 : Int)) = true →
      (((w.fdiv ((2 : Int) ^ min (IntKind.i64.wrap (IntKind.i64.wrap ((↑p.size : Int) - (1 : Int)) - (↑j : Int))).toNat (32 : Nat))).tmod (2 : Int) != (1 : Int)) = true → false
      = fits p w) ∧ (((w.fdiv ((2 : Int) ^ min (IntKind.i64.wrap (IntKind.i64.wrap ((↑p.size : Int) - (1 : Int)) - (↑j : Int))).toNat (32 : Nat))).tmod (2 : Int) != (1 : Int)) =
      false → ∃ (x : Nat), (x ≤ p.size ∧ fits p w = fitsN p w (p.size - x) x) ∧ mu12 E p w x < mu12 E p w j ∧ hd12 E = hd12 E ∧ (40 : Nat) = (40 : Nat) ∧ (p = p ∧ (IntKind.u32 =
      IntKind.u32 ∧ w = w) ∧ (IntKind.i64 = IntKind.i64 ∧ (↑p.size : Int) = (↑p.size : Int)) ∧ IntKind.i64 = IntKind.i64 ∧ IntKind.i64.wrap ((↑j : Int) + (1 : Int)) = (↑x :
      Int)) ∧ True)) ∧ ((strB p (↑j : Int) == (49 : Int)) = false → ∃ (x : Nat), (x ≤ p.size ∧ fits p w = fitsN p w (p.size - x) x) ∧ mu12 E p w x < mu12 E p w j ∧ hd12 E = hd12
      E ∧ (40 : Nat) = (40 : Nat) ∧ (p = p ∧ (IntKind.u32 = IntKind.u32 ∧ w = w) ∧ (IntKind.i64 = IntKind.i64 ∧ (↑p.size : Int) = (↑p.size : Int)) ∧ IntKind.i64 = IntKind.i64 ∧
      IntKind.i64.wrap ((↑j : Int) + (1 : Int)) = (↑x : Int)) ∧ True))) ∧ (decide ((↑j : Int) < (↑p.size : Int)) = false → true = fits p w)) := by kernel_rfl
noncomputable def c13 : Code := Try.f13.body.getD .skip
noncomputable def hd13 (E : World) : List Item := headOf (run (pe0 E) orcNone (tabL fns) 20000 1606938044258990275541962092341162602522202993782792835301375 [.code c13] ⟨Try.f13.ntmps, mkFrGo (Tr.mk 12) 0 [.c (.str true .empty), .c (.i true .u32 0), .c (.i true .u8 0)]⟩ [])
def lv13 (E : World) (p : ByteArray) (w : Int) (c : Int) (x : Nat × Int) : List (Nat × SV) := [(0, .c (.str false p)), (1, .c (.i false .u32 w)), (2, .c (.i false .u8 c)), (7, .c (.i false .i64 x.2)), (8, .c (.i false .i64 (p.size : Int))), (9, .c (.i false .i64 (x.1 : Int)))]
def sv13 (E : World) (p : ByteArray) (w : Int) (c : Int) (x : Nat × Int) : SW := []
def hh13 (E : World) (p : ByteArray) (w : Int) (c : Int) (x : Nat × Int) : Prop := x.1 ≤ p.size ∧ fld p w c = fldN p w c (p.size - x.1) x.1 x.2
def mu13 (E : World) (p : ByteArray) (w : Int) (c : Int) (x : Nat × Int) : Nat := p.size - x.1
theorem fld_pro (E : World) (p : ByteArray) (w : Int) (c : Int) :
    (loopP (pe0 E) Try.f13 (fun v _ => SV.sim v (.c (.i false .i64 (fld p w c)))) (fun todo fr s' => ∃ x : Nat × Int, hh13 E p w c x ∧ todo = hd13 E ∧ fr.nt = Try.f13.ntmps ∧ refP fr (lv13 E p w c x) ∧ refT s' (sv13 E p w c x)) (run (pe0 E) orcNone (tabL fns) 20000 1606938044258990275541962092341162602522202993782792835301375 [.code c13] ⟨Try.f13.ntmps, mkFrGo (Tr.mk 12) 0 [.c (.str false p), .c (.i false .u32 w), .c (.i false .u8 c)]⟩ [])) =
    (∃ (x : Nat × Int), (x.fst ≤ p.size ∧ fld p w c = fldN p w c (p.size - x.fst) x.fst x.snd) ∧ hd13 E = hd13 E ∧ (34 : Nat) = (34 : Nat) ∧ (p = p ∧ (IntKind.u32 = IntKind.u32
      ∧ w = w) ∧ (IntKind.u8 = IntKind.u8 ∧ c = c) ∧ (IntKind.i64 = IntKind.i64 ∧ (0 : Int) = x.snd) ∧ (IntKind.i64 = IntKind.i64 ∧ (↑p.size : Int) = (↑p.size : Int)) ∧
      IntKind.i64 = IntKind.i64 ∧ (0 : Int) = (↑x.fst : Int)) ∧ True) := by kernel_rfl
theorem fld_round (E : World) (p : ByteArray) (w : Int) (c : Int) (j : Nat × Int) :
    (loopP (pe0 E) Try.f13 (fun v _ => SV.sim v (.c (.i false .i64 (fld p w c)))) (fun todo fr s' => ∃ x : Nat × Int, hh13 E p w c x ∧ mu13 E p w c x < mu13 E p w c j ∧ todo = hd13 E ∧ fr.nt = Try.f13.ntmps ∧ refP fr (lv13 E p w c x) ∧ refT s' (sv13 E p w c x)) (run (pe0 E) orcNone (tabL fns) 20000 1606938044258990275541962092341162602522202993782792835301375 (hd13 E) (mkL Try.f13.ntmps (lv13 E p w c j)) (sv13 E p w c j))) =
    ((decide ((↑j.fst : Int) < (↑p.size : Int)) = true → inB (↑j.fst : Int) p.size = true ∧ ((strB p (↑j.fst : Int) == c) = true → decide ((0 : Int) ≤ IntKind.i64.wrap
      (IntKind.i64.wrap ((↑p.size : Int) - (1 : Int)) - (↑j.fst : Int))) = true ∧ ∃ (x : Nat × Int), (x.fst ≤ p.size ∧ fld p w c = fldN p w c (p.size - x.fst) x.fst x.snd) ∧
      mu13 E p w c x < mu13 E p w c j ∧ hd13 E = hd13 E ∧ (34 : Nat) = (34 : Nat) ∧ (p = p ∧ (IntKind.u32 = IntKind.u32 ∧ w = w) ∧ (IntKind.u8 = IntKind.u8 ∧ c = c) ∧
      (IntKind.i64 = IntKind.i64 ∧ IntKind.i64.wrap (IntKind.i64.wrap ((2 : Int) * j.snd) + IntKind.i64.wrap ((w.fdiv ((2 : Int) ^ min (IntKind.i64.wrap (IntKind.i64.wrap
      ((↑p.size : Int) - (1 : Int)) - (↑j.fst : Int))).toNat (32 : Nat))).tmod (2 : Int))) = x.snd) ∧ (IntKind.i64 = IntKind.i64 ∧ (↑p.size : Int) = (↑p.size : Int)) ∧
      IntKind.i64 = IntKind.i64 ∧ IntKind.i64.wrap ((↑j.fst : Int) + (1 : Int)) = (↑x.fst : Int)) ∧ True) ∧ ((strB p (↑j.fst : Int) == c) = false → ∃ (x : Nat × Int), (x.fst ≤
      p.size ∧ fld p w c = fldN p w c (p.size - x.fst) x.fst x.snd) ∧ mu13 E p w c x < mu13 E p w c j ∧ hd13 E = hd13 E ∧ (34 : Nat) = (34 : Nat) ∧ (p = p ∧ (IntKind.u32 =
      IntKind.u32 ∧ w = w) ∧ (IntKind.u8 = IntKind.u8 ∧ c = c) ∧ (IntKind.i64 = IntKind.i64 ∧ j.snd = x.snd) ∧ (IntKind.i64 = IntKind.i64 ∧ (↑p.size : Int) = (↑p.size : Int)) ∧
      IntKind.i64 = IntKind.i64 ∧ IntKind.i64.wrap ((↑j.fst : Int) + (1 : Int)) = (↑x.fst : Int)) ∧ True)) ∧ (decide ((↑j.fst : Int) < (↑p.size : Int)) = false → IntKind.i64 =
      IntKind.i64 ∧ j.snd = fld p w c)) := by kernel_rfl
noncomputable def c29 : Code := Try.f29.body.getD .skip
noncomputable def hd29 (E : World) : List Item := headOf (run (pe0 E) orcNone (tabL fns) 20000 1606938044258990275541962092341162602522202993782792835301375 [.code c29] ⟨Try.f29.ntmps, mkFrGo (Tr.mk 12) 0 [.c (.str true .empty), .c (.i true .u8 0)]⟩ [])
def lv29 (E : World) (p : ByteArray) (c : Int) (x : Nat) : List (Nat × SV) := [(0, .c (.str false p)), (1, .c (.i false .u8 c)), (5, .c (.i false .i64 (x : Int)))]
def sv29 (E : World) (p : ByteArray) (c : Int) (x : Nat) : SW := []
def hh29 (E : World) (p : ByteArray) (c : Int) (x : Nat) : Prop := x ≤ p.size ∧ hs p c = hsN p c (p.size - x) x
def mu29 (E : World) (p : ByteArray) (c : Int) (x : Nat) : Nat := p.size - x
theorem hs_pro (E : World) (p : ByteArray) (c : Int) :
    (loopP (pe0 E) Try.f29 (fun v _ => SV.sim v (.c (.b false (hs p c)))) (fun todo fr s' => ∃ x : Nat, hh29 E p c x ∧ todo = hd29 E ∧ fr.nt = Try.f29.ntmps ∧ refP fr (lv29 E p c x) ∧ refT s' (sv29 E p c x)) (run (pe0 E) orcNone (tabL fns) 20000 1606938044258990275541962092341162602522202993782792835301375 [.code c29] ⟨Try.f29.ntmps, mkFrGo (Tr.mk 12) 0 [.c (.str false p), .c (.i false .u8 c)]⟩ [])) =
    (∃ (x : Nat), (x ≤ p.size ∧ hs p c = hsN p c (p.size - x) x) ∧ hd29 E = hd29 E ∧ (17 : Nat) = (17 : Nat) ∧ (p = p ∧ (IntKind.u8 = IntKind.u8 ∧ c = c) ∧ IntKind.i64 =
      IntKind.i64 ∧ (0 : Int) = (↑x : Int)) ∧ True) := by kernel_rfl
theorem hs_round (E : World) (p : ByteArray) (c : Int) (j : Nat) :
    (loopP (pe0 E) Try.f29 (fun v _ => SV.sim v (.c (.b false (hs p c)))) (fun todo fr s' => ∃ x : Nat, hh29 E p c x ∧ mu29 E p c x < mu29 E p c j ∧ todo = hd29 E ∧ fr.nt = Try.f29.ntmps ∧ refP fr (lv29 E p c x) ∧ refT s' (sv29 E p c x)) (run (pe0 E) orcNone (tabL fns) 20000 1606938044258990275541962092341162602522202993782792835301375 (hd29 E) (mkL Try.f29.ntmps (lv29 E p c j)) (sv29 E p c j))) =
    ((decide ((↑j : Int) < (↑p.size : Int)) = true → inB (↑j : Int) p.size = true ∧ ((strB p (↑j : Int) == c) = true → true = hs p c) ∧ ((strB p (↑j : Int) == c) = false → ∃ (x
      : Nat), (x ≤ p.size ∧ hs p c = hsN p c (p.size - x) x) ∧ mu29 E p c x < mu29 E p c j ∧ hd29 E = hd29 E ∧ (17 : Nat) = (17 : Nat) ∧ (p = p ∧ (IntKind.u8 = IntKind.u8 ∧ c =
      c) ∧ IntKind.i64 = IntKind.i64 ∧ IntKind.i64.wrap ((↑j : Int) + (1 : Int)) = (↑x : Int)) ∧ True)) ∧ (decide ((↑j : Int) < (↑p.size : Int)) = false → false = hs p c)) := by kernel_rfl
theorem hs_c (E : World) (l1 l2 : Bool) (p : ByteArray) (c : Int) (s : SW) (h : szOK p = true) : CallTree (pe0 E) 29 [.c (.str l1 p), .c (.i l2 .u8 c)] s (.leaf (.c (.b false (hs p c)), s)) := by
  refine CallTree.args (vs' := [.c (.str false p), .c (.i false .u8 c)]) ⟨rfl, ⟨rfl, rfl⟩⟩ ?_
  refine pure_contract_loop (by simp [SV.ok, C.ok]) rfl (fun W hE => ?_) s
  have h : p.size ≤ 1000 := of_decide_eq_true h
  refine calls_loopT (c := c29) (P := pe0 E) orcNone_ok tab_ok0 tab_sz mixed Try.func29 rfl (by decide) (vs := [.c (.str false p), .c (.i false .u8 c)]) (s := []) (Nat.le_of_ble_eq_true rfl) 20000 1606938044258990275541962092341162602522202993782792835301375 (hh29 E p c) (mu29 E p c) (fun _ => hd29 E) (lv29 E p c) (sv29 E p c) (fun _ => rfl) (fun x hx => ⟨rfl, rfl, Nat.le_of_ble_eq_true rfl⟩)
    (fun v _ => SV.sim v (.c (.b false (hs p c)))) ?_ ?_ W 0 _ W (Inv.start hE) (by simp [SV.ok, C.ok, okL])
  · rw [hs_pro]
    exact ⟨0, ⟨Nat.zero_le _, rfl⟩, rfl, rfl, ⟨rfl, ⟨rfl, rfl⟩, rfl, rfl⟩, trivial⟩
  · intro j hj
    rw [hs_round]
    obtain ⟨hj1, hj2⟩ : j ≤ p.size ∧ hs p c = hsN p c (p.size - j) j := hj
    refine ⟨fun h1 => ?_, fun h1 => ?_⟩
    · have h1 := of_decide_eq_true h1
      have hlt : j < p.size := by omega
      rw [show p.size - j = (p.size - (j + 1)) + 1 by omega, hsN] at hj2
      refine ⟨by simp only [inB, Bool.and_eq_true, decide_eq_true_eq]; omega, fun h2 => ?_, fun h2 => ?_⟩
      · rw [hj2, if_pos h2]
      · rw [if_neg (by rw [h2]; decide)] at hj2
        exact ⟨j + 1, ⟨hlt, hj2⟩, by show p.size - (j + 1) < p.size - j; omega, rfl, rfl, ⟨rfl, ⟨rfl, rfl⟩, rfl, by show IntKind.i64.wrap ((j : Int) + 1) = ((j + 1 : Nat) : Int); rw [wi64_in _ (by omega) (by omega)]; rfl⟩, trivial⟩
    · have h1 := of_decide_eq_false h1
      rw [show p.size - j = 0 by omega] at hj2
      rw [hj2]; rfl
theorem fits_c (E : World) (l1 l2 : Bool) (p : ByteArray) (w : Int) (s : SW) (h : szOK p = true) : CallTree (pe0 E) 12 [.c (.str l1 p), .c (.i l2 .u32 w)] s (.leaf (.c (.b false (fits p w)), s)) := by
  refine CallTree.args (vs' := [.c (.str false p), .c (.i false .u32 w)]) ⟨rfl, ⟨rfl, rfl⟩⟩ ?_
  refine pure_contract_loop (by simp [SV.ok, C.ok]) rfl (fun W hE => ?_) s
  have h : p.size ≤ 1000 := of_decide_eq_true h
  refine calls_loopT (c := c12) (P := pe0 E) orcNone_ok tab_ok0 tab_sz mixed Try.func12 rfl (by decide) (vs := [.c (.str false p), .c (.i false .u32 w)]) (s := []) (Nat.le_of_ble_eq_true rfl) 20000 1606938044258990275541962092341162602522202993782792835301375 (hh12 E p w) (mu12 E p w) (fun _ => hd12 E) (lv12 E p w) (sv12 E p w) (fun _ => rfl) (fun x hx => ⟨rfl, rfl, Nat.le_of_ble_eq_true rfl⟩)
    (fun v _ => SV.sim v (.c (.b false (fits p w)))) ?_ ?_ W 0 _ W (Inv.start hE) (by simp [SV.ok, C.ok, okL])
  · rw [fits_pro]
    exact ⟨0, ⟨Nat.zero_le _, rfl⟩, rfl, rfl, ⟨rfl, ⟨rfl, rfl⟩, ⟨rfl, rfl⟩, rfl, rfl⟩, trivial⟩
  · intro j hj
    rw [fits_round]
    obtain ⟨hj1, hj2⟩ : j ≤ p.size ∧ fits p w = fitsN p w (p.size - j) j := hj
    refine ⟨fun h1 => ?_, fun h1 => ?_⟩
    · have h1 := of_decide_eq_true h1
      have hlt : j < p.size := by omega
      rw [show p.size - j = (p.size - (j + 1)) + 1 by omega, fitsN] at hj2
      have hin : inB (j : Int) p.size = true := by simp only [inB, Bool.and_eq_true, decide_eq_true_eq]; omega
      have hs0 : decide ((0 : Int) ≤ IntKind.i64.wrap (IntKind.i64.wrap ((p.size : Int) - 1) - (j : Int))) = true := by
        rw [decide_eq_true_eq, wi64_in ((p.size : Int) - 1) (by omega) (by omega), wi64_in _ (by omega) (by omega)]; omega
      have nx : ∀ (_ : fits p w = fitsN p w (p.size - (j + 1)) (j + 1)), ∃ x : Nat, (x ≤ p.size ∧ fits p w = fitsN p w (p.size - x) x) ∧ mu12 E p w x < mu12 E p w j ∧ hd12 E = hd12 E ∧ (40 : Nat) = (40 : Nat) ∧ (p = p ∧ (IntKind.u32 = IntKind.u32 ∧ w = w) ∧ (IntKind.i64 = IntKind.i64 ∧ (p.size : Int) = (p.size : Int)) ∧ IntKind.i64 = IntKind.i64 ∧ IntKind.i64.wrap ((j : Int) + (1 : Int)) = (x : Int)) ∧ True :=
        fun e => ⟨j + 1, ⟨hlt, e⟩, by show p.size - (j + 1) < p.size - j; omega, rfl, rfl, ⟨rfl, ⟨rfl, rfl⟩, ⟨rfl, rfl⟩, rfl, by show IntKind.i64.wrap ((j : Int) + 1) = ((j + 1 : Nat) : Int); rw [wi64_in _ (by omega) (by omega)]; rfl⟩, trivial⟩
      have b0 : ∀ x, (bitOf p w j != x) = ((w.fdiv ((2 : Int) ^ min (IntKind.i64.wrap (IntKind.i64.wrap ((p.size : Int) - (1 : Int)) - (j : Int))).toNat (32 : Nat))).tmod (2 : Int) != x) := fun _ => rfl
      simp only [b0] at hj2
      refine ⟨hs0, hin, fun h2 => ⟨fun h3 => ?_, fun h3 => ⟨hin, fun h4 => ⟨fun h5 => ?_, fun h5 => ?_⟩, fun h4 => ?_⟩⟩, fun h2 => ⟨hin, fun h4 => ⟨fun h5 => ?_, fun h5 => ?_⟩, fun h4 => ?_⟩⟩
      all_goals simp only [*, Bool.and_true, Bool.and_false, Bool.true_and, Bool.false_and, if_true, Bool.false_eq_true, if_false] at hj2
      all_goals first | exact hj2.symm | exact nx hj2
    · have h1 := of_decide_eq_false h1
      rw [show p.size - j = 0 by omega] at hj2
      rw [hj2]; rfl
theorem fld_c (E : World) (l1 l2 l3 : Bool) (p : ByteArray) (w c : Int) (s : SW) (h : szOK p = true) : CallTree (pe0 E) 13 [.c (.str l1 p), .c (.i l2 .u32 w), .c (.i l3 .u8 c)] s (.leaf (.c (.i false .i64 (fld p w c)), s)) := by
  refine CallTree.args (vs' := [.c (.str false p), .c (.i false .u32 w), .c (.i false .u8 c)]) ⟨rfl, ⟨rfl, rfl⟩, ⟨rfl, rfl⟩⟩ ?_
  refine pure_contract_loop (by simp [SV.ok, C.ok]) rfl (fun W hE => ?_) s
  have h : p.size ≤ 1000 := of_decide_eq_true h
  refine calls_loopT (c := c13) (P := pe0 E) orcNone_ok tab_ok0 tab_sz mixed Try.func13 rfl (by decide) (vs := [.c (.str false p), .c (.i false .u32 w), .c (.i false .u8 c)]) (s := []) (Nat.le_of_ble_eq_true rfl) 20000 1606938044258990275541962092341162602522202993782792835301375 (hh13 E p w c) (mu13 E p w c) (fun _ => hd13 E) (lv13 E p w c) (sv13 E p w c) (fun _ => rfl) (fun x hx => ⟨rfl, rfl, Nat.le_of_ble_eq_true rfl⟩)
    (fun v _ => SV.sim v (.c (.i false .i64 (fld p w c)))) ?_ ?_ W 0 _ W (Inv.start hE) (by simp [SV.ok, C.ok, okL])
  · rw [fld_pro]
    exact ⟨(0, 0), ⟨Nat.zero_le _, rfl⟩, rfl, rfl, ⟨rfl, ⟨rfl, rfl⟩, ⟨rfl, rfl⟩, ⟨rfl, rfl⟩, ⟨rfl, rfl⟩, rfl, rfl⟩, trivial⟩
  · intro j hj
    rw [fld_round]
    obtain ⟨hj1, hj2⟩ : j.1 ≤ p.size ∧ fld p w c = fldN p w c (p.size - j.1) j.1 j.2 := hj
    refine ⟨fun h1 => ?_, fun h1 => ?_⟩
    · have h1 := of_decide_eq_true h1
      have hlt : j.1 < p.size := by omega
      rw [show p.size - j.1 = (p.size - (j.1 + 1)) + 1 by omega, fldN] at hj2
      have hin : inB (j.1 : Int) p.size = true := by simp only [inB, Bool.and_eq_true, decide_eq_true_eq]; omega
      have hs0 : decide ((0 : Int) ≤ IntKind.i64.wrap (IntKind.i64.wrap ((p.size : Int) - 1) - (j.1 : Int))) = true := by
        rw [decide_eq_true_eq, wi64_in ((p.size : Int) - 1) (by omega) (by omega), wi64_in _ (by omega) (by omega)]; omega
      refine ⟨hin, fun h2 => ⟨hs0, ?_⟩, fun h2 => ?_⟩
      · rw [if_pos h2] at hj2
        exact ⟨(j.1 + 1, _), ⟨hlt, hj2⟩, by show p.size - (j.1 + 1) < p.size - j.1; omega, rfl, rfl, ⟨rfl, ⟨rfl, rfl⟩, ⟨rfl, rfl⟩, ⟨rfl, rfl⟩, ⟨rfl, rfl⟩, rfl, by show IntKind.i64.wrap ((j.1 : Int) + 1) = ((j.1 + 1 : Nat) : Int); rw [wi64_in _ (by omega) (by omega)]; rfl⟩, trivial⟩
      · rw [if_neg (by rw [h2]; decide)] at hj2
        exact ⟨(j.1 + 1, j.2), ⟨hlt, hj2⟩, by show p.size - (j.1 + 1) < p.size - j.1; omega, rfl, rfl, ⟨rfl, ⟨rfl, rfl⟩, ⟨rfl, rfl⟩, ⟨rfl, rfl⟩, ⟨rfl, rfl⟩, rfl, by show IntKind.i64.wrap ((j.1 : Int) + 1) = ((j.1 + 1 : Nat) : Int); rw [wi64_in _ (by omega) (by omega)]; rfl⟩, trivial⟩
    · have h1 := of_decide_eq_false h1
      rw [show p.size - j.1 = 0 by omega] at hj2
      exact ⟨rfl, hj2.symm⟩
theorem CallTree.flag {P : PE} {g : FuncId} {vs : List SV} {s : SW} {u v : SV} (h : CallTree P g vs s (.leaf (u, s))) (hs : SV.sim u v) : CallTree P g vs s (.leaf (v, s)) := by
  intro W L ρ w post hI hok hp
  refine Calls.mono (h W L ρ w (fun r => r = (u, s)) hI hok rfl) ?_
  rintro e w' ⟨x, s1, ρ', rfl, hag, hle, hv, hI', hx⟩
  cases hx
  exact ⟨v, s, ρ', by rw [SV.sim_den hs], hag, hle, SV.sim_ok hs hv, hI', hp⟩
def orcS (E : World) : Orc := fun g vs s => match g, vs with
  | 29, [.c (.str l1 p), .c (.i l2 .u8 c)] => some (.need (szOK p) (.leaf (.c (.b (l1 && l2) (hs p c)), s)))
  | 12, [.c (.str l1 p), .c (.i l2 .u32 w)] => some (.need (szOK p) (.leaf (.c (.b (l1 && l2) (fits p w)), s)))
  | 13, [.c (.str l1 p), .c (.i l2 .u32 w), .c (.i l3 .u8 c)] => some (.need (szOK p) (.leaf (.c (.i (l1 && l2 && l3) .i64 (fld p w c)), s)))
  | g, vs => orcA E g vs s
theorem orcS_ok {E : World} : OrcOK (pe E) (orcS E) := by
  intro g vs s t h
  unfold orcS at h
  split at h
  · cases h
    exact CallTree.need fun h => CallTree.flag (hs_c E _ _ _ _ s h) rfl
  · cases h
    exact CallTree.need fun h => CallTree.flag (fits_c E _ _ _ _ s h) rfl
  · cases h
    exact CallTree.need fun h => CallTree.flag (fld_c E _ _ _ _ _ _ s h) ⟨rfl, rfl⟩
  · exact orcA_ok _ _ _ _ h
end Go.Proofs.Ytpfdemmoapjjpaa

