import Derived.Test.YtfjenbfklpiopaaB
set_option linter.unusedVariables false
set_option linter.unusedSimpArgs false
namespace Go.Proofs.Ytfjenbfklpiopaa
open Go Go.Proofs Go.Proofs.Ytfjenbfklpiopaa.Ev
noncomputable def c11 : Code := Try.f11.body.getD .skip
noncomputable def hd11 : List Item := headOf (run Try.prog orc1 (tabL fns) 1000 100 [.code c11] ⟨Try.f11.ntmps, mkFrGo (Tr.mk 12) 0 [.c (.i true .i64 0)]⟩ [])
def lv11 (n : Int) (x : Int) : List (Nat × SV) := [(0, .c (.i false .i64 x))]
def sv11 (n : Int) (x : Int) : SW := []
def hh11 (n : Int) (x : Int) : Prop := mx n ≤ x ∧ x < nx n
def mu11 (n : Int) (x : Int) : Nat := (nx n - x).toNat
theorem rnx_pro (n : Int) :
    (loopP Try.prog Try.f11 (fun v _ => SV.sim v (.c (.i false .i64 (nx n)))) (fun todo fr s' => ∃ x : Int, hh11 n x ∧ todo = hd11 ∧ fr.nt = Try.f11.ntmps ∧ refP fr (lv11 n x) ∧ refS s' (sv11 n x)) (run Try.prog orc1 (tabL fns) 1000 100 [.code c11] ⟨Try.f11.ntmps, mkFrGo (Tr.mk 12) 0 [.c (.i false .i64 n)]⟩ [])) =
    ((decide (n < (0 : Int)) = true →
          ∃ x,
            (mx n ≤ x ∧ x < nx n) ∧
              hd11 = hd11 ∧ (21 : Nat) = (21 : Nat) ∧ (IntKind.i64 = IntKind.i64 ∧ (0 : Int) = x) ∧ True) ∧
        (decide (n < (0 : Int)) = false →
          ∃ x, (mx n ≤ x ∧ x < nx n) ∧ hd11 = hd11 ∧ (21 : Nat) = (21 : Nat) ∧ (IntKind.i64 = IntKind.i64 ∧ n = x) ∧ True)) := by kernel_rfl
theorem rnx_round (n : Int) (j : Int) :
    (loopP Try.prog Try.f11 (fun v _ => SV.sim v (.c (.i false .i64 (nx n)))) (fun todo fr s' => ∃ x : Int, hh11 n x ∧ mu11 n x < mu11 n j ∧ todo = hd11 ∧ fr.nt = Try.f11.ntmps ∧ refP fr (lv11 n x) ∧ refS s' (sv11 n x)) (run Try.prog orc1 (tabL fns) 1000 100 hd11 (mkL Try.f11.ntmps (lv11 n j)) (sv11 n j))) =
    (low (IntKind.i64.wrap (j + (1 : Int))) = true ∧
        ((pl (IntKind.i64.wrap (j + (1 : Int))) == (0 : Int)) = true →
            IntKind.i64 = IntKind.i64 ∧ IntKind.i64.wrap (j + (1 : Int)) = nx n) ∧
          ((pl (IntKind.i64.wrap (j + (1 : Int))) == (0 : Int)) = false →
            ((pl (IntKind.i64.wrap (j + (1 : Int))) == (960 : Int)) = true →
                IntKind.i64 = IntKind.i64 ∧ IntKind.i64.wrap (j + (1 : Int)) = nx n) ∧
              ((pl (IntKind.i64.wrap (j + (1 : Int))) == (960 : Int)) = false →
                ∃ x,
                  (mx n ≤ x ∧ x < nx n) ∧
                    mu11 n x < mu11 n j ∧
                      hd11 = hd11 ∧
                        (21 : Nat) = (21 : Nat) ∧ (IntKind.i64 = IntKind.i64 ∧ IntKind.i64.wrap (j + (1 : Int)) = x) ∧ True))) := by kernel_rfl

theorem pl_of (t : Int) (h : 0 ≤ t) : pl t = t % 1232 := by unfold pl mx; rw [if_neg (by omega)]
def low1 (n : Int) : Bool := decide (-9223372036854775808 ≤ n ∧ n ≤ 2251799813680000)
theorem low1_iff (n : Int) : low1 n = true ↔ -9223372036854775808 ≤ n ∧ n ≤ 2251799813680000 := by simp [low1]
theorem low1_low (n : Int) (h : low1 n = true) : low n = true := by rw [low1_iff] at h; rw [low_iff]; omega
theorem mx_lo1 (n : Int) (h : n ≤ 2251799813680000) : mx n ≤ 2251799813680000 := by unfold mx; split <;> omega
theorem rnx_c (l1 : Bool) (n : Int) (s : SW) (hn1 : (low1 n) = true) : CallTree Try.prog 11 [.c (.i l1 .i64 n)] s (.leaf (.c (.i false .i64 (nx n)), s)) := by
  refine CallTree.args (vs' := [.c (.i false .i64 n)]) ⟨rfl, rfl⟩ ?_
  refine pure_contract_loop (by simp [SV.ok, C.ok]) rfl (fun W => ?_) s
  have hn := low1_low n hn1
  rw [low1_iff] at hn1
  have hb := mx_bd n
  have hlo := mx_lo1 n hn1.2
  have hp := pl_bd n
  have hq : pl n = mx n % 1232 := rfl
  refine calls_loop (c := c11) orc1_ok tab_ok tab_sz mixed Try.func11 rfl (by decide) (vs := [.c (.i false .i64 n)]) (Nat.le_of_ble_eq_true rfl) 1000 100 (hh11 n) (mu11 n) (fun _ => hd11) (lv11 n) (sv11 n) (fun _ => rfl)
    (fun v _ => SV.sim v (.c (.i false .i64 (nx n)))) ?_ ?_ W 0 _ W (Inv.start W) (by simp [SV.ok, C.ok, okL])
  · rw [rnx_pro]
    have e : mx n = if n < 0 then 0 else n := rfl
    have hx : mx n < nx n := by unfold nx; split <;> omega
    refine ⟨fun h => ?_, fun h => ?_⟩
    · rw [decide_eq_true_eq] at h
      rw [if_pos h] at e
      exact ⟨0, ⟨by omega, by omega⟩, rfl, rfl, ⟨rfl, rfl⟩, trivial⟩
    · rw [decide_eq_false_iff_not] at h
      rw [if_neg h] at e
      exact ⟨n, ⟨by omega, by omega⟩, rfl, rfl, ⟨rfl, rfl⟩, trivial⟩
  · intro j hj
    rw [rnx_round]
    have hj : mx n ≤ j ∧ j < nx n := hj
    have hnx : nx n ≤ mx n + 1232 := by unfold nx; split <;> omega
    have ew : IntKind.i64.wrap (j + 1) = j + 1 := by rw [wi64_in _ (by omega) (by omega)]
    have hlow : low (j + 1) = true := by rw [low_iff]; omega
    rw [ew, pl_of (j + 1) (by omega)]
    have key : ((j + 1) % 1232 = 0 ∨ (j + 1) % 1232 = 960) ↔ j + 1 = nx n := by
      unfold nx at *
      split at hj <;> rename_i h1 <;> simp only [h1, if_true, if_false] <;> omega
    refine ⟨hlow, fun h => ⟨rfl, key.1 (.inl (by simpa using h))⟩, fun h => ⟨fun h' => ⟨rfl, key.1 (.inr (by simpa using h'))⟩, fun h' => ⟨j + 1, ⟨by omega, ?_⟩, ?_, rfl, rfl, ⟨rfl, rfl⟩, trivial⟩⟩⟩
    · have : j + 1 ≠ nx n := fun e => (key.2 e).elim (by simpa using h) (by simpa using h')
      omega
    · show (nx n - (j + 1)).toNat < (nx n - j).toNat
      omega
set_option maxRecDepth 100000 in
theorem nx_c (l1 : Bool) (n : Int) (s : SW) (hn : (low n) = true) : CallTree Try.prog 10 [.c (.i l1 .i64 n)] s (.leaf (.c (.i false .i64 (nx n)), s)) := by
  refine CallTree.args (vs' := [.c (.i false .i64 n)]) ⟨rfl, rfl⟩ ?_
  exact pure_contract (fnTree_sound orc1_ok tab_ok tab_sz mixed 1000 Try.func10 (by decide) [.c (.i false .i64 n)] []) (by simp [SV.ok, C.ok, okL]) (v := .c (.i false .i64 (nx n))) rfl (conP_OK _ (nx_ok n hn)) s
set_option maxRecDepth 100000 in
theorem st_c (l1 l2 : Bool) (n : Int) (w : Int) (s : SW) (hn : (low n) = true) (hw : (u16 w) = true) : CallTree Try.prog 12 [.c (.i l1 .i64 n), .c (.i l2 .u16 w)] s (.leaf (.c (.i false .u16 (stV n w)), s)) := by
  refine CallTree.args (vs' := [.c (.i false .i64 n), .c (.i false .u16 w)]) ⟨⟨rfl, rfl⟩, ⟨rfl, rfl⟩⟩ ?_
  exact pure_contract (fnTree_sound orc1_ok tab_ok tab_sz mixed 1000 Try.func12 (by decide) [.c (.i false .i64 n), .c (.i false .u16 w)] []) (by simp [SV.ok, C.ok, okL]) (v := .c (.i false .u16 (stV n w))) rfl (conP_OK _ (st_ok n w hn hw)) s
set_option maxRecDepth 100000 in
theorem rst_c (l1 l2 : Bool) (n : Int) (w : Int) (s : SW) (hn : (low n) = true) (hw : (u16 w) = true) : CallTree Try.prog 13 [.c (.i l1 .i64 n), .c (.i l2 .u16 w)] s (.leaf (.c (.i false .u16 (stV n w)), s)) := by
  refine CallTree.args (vs' := [.c (.i false .i64 n), .c (.i false .u16 w)]) ⟨⟨rfl, rfl⟩, ⟨rfl, rfl⟩⟩ ?_
  exact pure_contract (fnTree_sound orc1_ok tab_ok tab_sz mixed 1000 Try.func13 (by decide) [.c (.i false .i64 n), .c (.i false .u16 w)] []) (by simp [SV.ok, C.ok, okL]) (v := .c (.i false .u16 (stV n w))) rfl (conP_OK _ (rst_ok n w hn hw)) s
set_option maxRecDepth 100000 in
theorem as_c (l1 l2 : Bool) (n : Int) (w : Int) (s : SW) (hn : (low n) = true) (hw : (u16 w) = true) : CallTree Try.prog 14 [.c (.i l1 .i64 n), .c (.i l2 .u16 w)] s (.leaf (.c (.i false .u16 (asV n w)), s)) := by
  refine CallTree.args (vs' := [.c (.i false .i64 n), .c (.i false .u16 w)]) ⟨⟨rfl, rfl⟩, ⟨rfl, rfl⟩⟩ ?_
  exact pure_contract (fnTree_sound orc1_ok tab_ok tab_sz mixed 1000 Try.func14 (by decide) [.c (.i false .i64 n), .c (.i false .u16 w)] []) (by simp [SV.ok, C.ok, okL]) (v := .c (.i false .u16 (asV n w))) rfl (conP_OK _ (as_ok n w hn hw)) s
set_option maxRecDepth 100000 in
theorem ras_c (l1 l2 : Bool) (n : Int) (w : Int) (s : SW) (hn : (low n) = true) (hw : (u16 w) = true) : CallTree Try.prog 15 [.c (.i l1 .i64 n), .c (.i l2 .u16 w)] s (.leaf (.c (.i false .u16 (asV n w)), s)) := by
  refine CallTree.args (vs' := [.c (.i false .i64 n), .c (.i false .u16 w)]) ⟨⟨rfl, rfl⟩, ⟨rfl, rfl⟩⟩ ?_
  exact pure_contract (fnTree_sound orc1_ok tab_ok tab_sz mixed 1000 Try.func15 (by decide) [.c (.i false .i64 n), .c (.i false .u16 w)] []) (by simp [SV.ok, C.ok, okL]) (v := .c (.i false .u16 (asV n w))) rfl (conP_OK _ (ras_ok n w hn hw)) s
def orc2 : Orc := fun g vs s => match g, vs with
  | 10, [.c (.i _ .i64 n)] => some (.need (low n) (.leaf (.c (.i false .i64 (nx n)), s)))
  | 12, [.c (.i _ .i64 n), .c (.i _ .u16 w)] => some (.need (low n) (.need (u16 w) (.leaf (.c (.i false .u16 (stV n w)), s))))
  | 13, [.c (.i _ .i64 n), .c (.i _ .u16 w)] => some (.need (low n) (.need (u16 w) (.leaf (.c (.i false .u16 (stV n w)), s))))
  | 14, [.c (.i _ .i64 n), .c (.i _ .u16 w)] => some (.need (low n) (.need (u16 w) (.leaf (.c (.i false .u16 (asV n w)), s))))
  | 15, [.c (.i _ .i64 n), .c (.i _ .u16 w)] => some (.need (low n) (.need (u16 w) (.leaf (.c (.i false .u16 (asV n w)), s))))
  | 11, [.c (.i _ .i64 n)] => some (.need (low1 n) (.leaf (.c (.i false .i64 (nx n)), s)))
  | g, vs => orc1 g vs s
theorem orc2_ok : OrcOK Try.prog orc2 := by
  intro g vs s t h
  unfold orc2 at h
  split at h
  · cases h
    exact CallTree.need fun hn => nx_c _ _ s hn
  · cases h
    exact CallTree.need fun hn => CallTree.need fun hw => st_c _ _ _ _ s hn hw
  · cases h
    exact CallTree.need fun hn => CallTree.need fun hw => rst_c _ _ _ _ s hn hw
  · cases h
    exact CallTree.need fun hn => CallTree.need fun hw => as_c _ _ _ _ s hn hw
  · cases h
    exact CallTree.need fun hn => CallTree.need fun hw => ras_c _ _ _ _ s hn hw
  · cases h
    exact CallTree.need fun hn => rnx_c _ _ s hn
  · exact orc1_ok _ _ _ _ h

theorem tells_p (n w : Int) :
    (lawP (fnTree Try.prog orc2 (tabL fns) 1000 Try.f3 [.c (.i false .i64 n), .c (.i false .u16 w)] [])) =
    ((decide (n > (1125899906842624 : Int)) = true → true = true) ∧
        (decide (n > (1125899906842624 : Int)) = false →
          low n = true ∧
            low n = true ∧
              (ln n == ln n) = true ∧
                (pl n == pl n) = true ∧
                  low n = true ∧
                    low1 n = true ∧
                      (nx n == nx n) = true ∧
                        low n = true ∧
                          u16 w = true ∧
                            low n = true ∧
                              u16 w = true ∧
                                (stV n w == stV n w) = true ∧
                                  low n = true ∧ u16 w = true ∧ low n = true ∧ u16 w = true ∧ (asV n w == asV n w) = true)) := by kernel_rfl
theorem turns_p (n w : Int) :
    (lawP (fnTree Try.prog orc2 (tabL fns) 1000 Try.f6 [.c (.i false .i64 n), .c (.i false .u16 w)] [])) =
    ((decide (n < (0 : Int)) = true → true = true) ∧
        (decide (n < (0 : Int)) = false →
          (decide (n > (1125899906842624 : Int)) = true → true = true) ∧
            (decide (n > (1125899906842624 : Int)) = false →
              low n = true ∧
                low (IntKind.i64.wrap (n + (280896 : Int))) = true ∧
                  low (IntKind.i64.wrap (n + (1 : Int))) = true ∧
                    ((pl (IntKind.i64.wrap (n + (1 : Int))) == (0 : Int)) = true →
                        (IntKind.i64.wrap
                                (IntKind.i64.wrap (ln (IntKind.i64.wrap (n + (280896 : Int))) * (1232 : Int)) +
                                  pl (IntKind.i64.wrap (n + (280896 : Int)))) ==
                              n.tmod (280896 : Int)) =
                            true ∧
                          (pl (IntKind.i64.wrap (n + (1 : Int))) == (0 : Int)) = true ∧
                            (ln (IntKind.i64.wrap (n + (1 : Int))) ==
                                  (IntKind.i64.wrap (ln n + (1 : Int))).tmod (228 : Int)) =
                                true ∧
                              low n = true ∧
                                u16 w = true ∧
                                  low (IntKind.i64.wrap (n + (280896 : Int))) = true ∧
                                    u16 w = true ∧
                                      (stV n w == stV (IntKind.i64.wrap (n + (280896 : Int))) w) = true ∧
                                        low n = true ∧
                                          u16 w = true ∧
                                            low (IntKind.i64.wrap (n + (280896 : Int))) = true ∧
                                              u16 w = true ∧
                                                (asV n w == asV (IntKind.i64.wrap (n + (280896 : Int))) w) = true ∧
                                                  low (IntKind.i64.wrap (n + (280896 : Int))) = true ∧
                                                    low n = true ∧
                                                      (nx (IntKind.i64.wrap (n + (280896 : Int))) ==
                                                          IntKind.i64.wrap (nx n + (280896 : Int))) =
                                                        true) ∧
                      ((pl (IntKind.i64.wrap (n + (1 : Int))) == (0 : Int)) = false →
                        (IntKind.i64.wrap
                                (IntKind.i64.wrap (ln (IntKind.i64.wrap (n + (280896 : Int))) * (1232 : Int)) +
                                  pl (IntKind.i64.wrap (n + (280896 : Int)))) ==
                              n.tmod (280896 : Int)) =
                            true ∧
                          (pl (IntKind.i64.wrap (n + (1 : Int))) == IntKind.i64.wrap (pl n + (1 : Int))) = true ∧
                            (ln (IntKind.i64.wrap (n + (1 : Int))) == ln n) = true ∧
                              low n = true ∧
                                u16 w = true ∧
                                  low (IntKind.i64.wrap (n + (280896 : Int))) = true ∧
                                    u16 w = true ∧
                                      (stV n w == stV (IntKind.i64.wrap (n + (280896 : Int))) w) = true ∧
                                        low n = true ∧
                                          u16 w = true ∧
                                            low (IntKind.i64.wrap (n + (280896 : Int))) = true ∧
                                              u16 w = true ∧
                                                (asV n w == asV (IntKind.i64.wrap (n + (280896 : Int))) w) = true ∧
                                                  low (IntKind.i64.wrap (n + (280896 : Int))) = true ∧
                                                    low n = true ∧
                                                      (nx (IntKind.i64.wrap (n + (280896 : Int))) ==
                                                          IntKind.i64.wrap (nx n + (280896 : Int))) =
                                                        true)))) := by kernel_rfl

theorem tells_l (n w : Int) (hn : -9223372036854775808 ≤ n ∧ n < 9223372036854775808) (hw : u16 w = true) : lawP (fnTree Try.prog orc2 (tabL fns) 1000 Try.f3 [.c (.i false .i64 n), .c (.i false .u16 w)] []) := by
  rw [tells_p]
  refine ⟨fun _ => rfl, fun h => ?_⟩
  rw [decide_eq_false_iff_not] at h
  have h1 : low n = true := by rw [low_iff]; omega
  have h2 : low1 n = true := by rw [low1_iff]; omega
  simp [h1, h2, hw]
theorem turns_l (n w : Int) (hw : u16 w = true) : lawP (fnTree Try.prog orc2 (tabL fns) 1000 Try.f6 [.c (.i false .i64 n), .c (.i false .u16 w)] []) := by
  rw [turns_p]
  refine ⟨fun _ => rfl, fun h0 => ⟨fun _ => rfl, fun h => ?_⟩⟩
  rw [decide_eq_false_iff_not] at h h0
  have e1 : IntKind.i64.wrap (n + 280896) = n + 280896 := wi64_in _ (by omega) (by omega)
  have e2 : IntKind.i64.wrap (n + 1) = n + 1 := wi64_in _ (by omega) (by omega)
  have l1 : low n = true := by rw [low_iff]; omega
  have l2 : low (n + 280896) = true := by rw [low_iff]; omega
  have l3 : low (n + 1) = true := by rw [low_iff]; omega
  rw [e1, e2]
  have p1 : pl (n + 280896) = pl n := by rw [pl_of _ (by omega), pl_of _ (by omega)]; omega
  have p2 : ln (n + 280896) = ln n := by unfold ln mx; rw [if_neg (by omega), if_neg (by omega)]; omega
  have m1 : mx (n + 280896) = mx n + 280896 := by unfold mx; rw [if_neg (by omega), if_neg (by omega)]
  have m0 : mx n = n := by unfold mx; rw [if_neg (by omega)]
  have s1 : stV (n + 280896) w = stV n w := by unfold stV; rw [p1, p2]
  have a1 : asV (n + 280896) w = asV n w := by unfold asV; rw [p1, p2]
  have n1 : nx (n + 280896) = nx n + 280896 := by unfold nx; rw [p1, m1]; split <;> omega
  have hp := pl_bd n
  have hl := ln_bd n
  have nb : nx n ≤ n + 1232 ∧ 0 ≤ nx n := by unfold nx; rw [m0]; split <;> omega
  rw [p1, p2, s1, a1, n1, tmod_n _ _ (by omega), wi64_in (ln n * 1232) (by omega) (by omega), wi64_in (ln n * 1232 + pl n) (by omega) (by omega), wi64_in (nx n + 280896) (by omega) (by omega),
    wi64_in (pl n + 1) (by omega) (by omega), wi64_in (ln n + 1) (by omega) (by omega), tmod_n (ln n + 1) _ (by omega)]
  have q0 : pl n = n % 1232 := pl_of n (by omega)
  have q1 : pl (n + 1) = (n + 1) % 1232 := pl_of (n + 1) (by omega)
  have q2 : ln n = n / 1232 % 228 := by unfold ln; rw [m0]
  have q3 : ln (n + 1) = (n + 1) / 1232 % 228 := by unfold ln mx; rw [if_neg (by omega)]
  have r1 : (ln n * 1232 + pl n == n % 280896) = true := by rw [beq_iff_eq]; omega
  rw [r1]
  refine ⟨l1, l2, l3, fun h => ⟨rfl, h, ?_, l1, hw, l2, hw, by simp, l1, hw, l2, hw, by simp, l2, l1, by simp⟩, fun h => ⟨rfl, ?_, ?_, l1, hw, l2, hw, by simp, l1, hw, l2, hw, by simp, l2, l1, by simp⟩⟩
  · rw [beq_iff_eq] at h ⊢; omega
  · have h : ¬ pl (n + 1) = 0 := by simpa using h
    rw [beq_iff_eq]; omega
  · have h : ¬ pl (n + 1) = 0 := by simpa using h
    rw [beq_iff_eq]; omega
end Go.Proofs.Ytfjenbfklpiopaa

