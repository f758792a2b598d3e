import Derived.Test.YtabklphoccicmaaI
set_option linter.unusedVariables false
set_option linter.unusedSimpArgs false
namespace Go.Proofs.Ytabklphoccicmaa
open Go Go.Proofs Go.Proofs.Ytabklphoccicmaa.Ev Go.Proofs.Ytabklphoccicmaa.Ev.Ho
set_option maxRecDepth 100000
noncomputable def orcX (E : World) : Orc := fun g vs s => match g with
  | 19 => some .fail
  | g => (orcM E) g vs s
theorem orcX_ok {E : World} : OrcOK (pe E) (orcX E) := by
  intro g vs s t h
  unfold orcX at h
  split at h
  · cases h
    intro W L ρ w post hI hok hp
    exact hp.elim
  · exact orcM_ok _ _ _ _ h
def sv (k : Int) : Int := (4 * k * (128 - k) * (12698 + (3686 * (4 * k * (128 - k))) / 16384)) / 16384
def sn (n : Int) : Int := if n % 256 < 128 then sv (n % 256) else - sv (n % 256 - 128)
def wx (k : Int) : Int := IntKind.i64.wrap ((IntKind.i64.wrap (IntKind.i64.wrap (IntKind.i64.wrap (4 * k) * IntKind.i64.wrap (128 - k)) * IntKind.i64.wrap (12698 + IntKind.i64.wrap ((IntKind.i64.wrap (3686 * IntKind.i64.wrap (IntKind.i64.wrap (4 * k) * IntKind.i64.wrap (128 - k)))).tdiv 16384)))).tdiv 16384)
theorem wx_all : ∀ k : Fin 128, wx k.val = sv k.val := by decide +kernel
theorem wx_sv {k : Int} (h0 : 0 ≤ k) (h1 : k < 128) : wx k = sv k := by
  have := wx_all ⟨k.toNat, by omega⟩
  have e : ((k.toNat : Nat) : Int) = k := Int.toNat_of_nonneg h0
  simp only [e] at this
  exact this
theorem a255 (n : Int) : bits .and .i64 n 255 = n % 256 := and_mask .i64 n 8 (.inl (by decide))
theorem sv_all : ∀ k : Fin 128, 0 ≤ sv k.val ∧ sv k.val ≤ 16384 ∧ 0 ≤ 4 * (k.val : Int) * (128 - k.val) ∧ 4 * (k.val : Int) * (128 - k.val) ≤ 16384 := by decide +kernel
theorem sv_bd {k : Int} (h0 : 0 ≤ k) (h1 : k < 128) : (0 ≤ sv k ∧ sv k ≤ 16384) ∧ 0 ≤ 4 * k * (128 - k) ∧ 4 * k * (128 - k) ≤ 16384 := by
  have := sv_all ⟨k.toNat, by omega⟩
  have e : ((k.toNat : Nat) : Int) = k := Int.toNat_of_nonneg h0
  simp only [e] at this
  exact ⟨⟨this.1, this.2.1⟩, this.2.2⟩
theorem sn_bd (n : Int) : -16384 ≤ sn n ∧ sn n ≤ 16384 := by
  unfold sn; split
  · have := (sv_bd (k := n % 256) (by omega) (by omega)).1; omega
  · have := (sv_bd (k := n % 256 - 128) (by omega) (by omega)).1; omega
theorem s0_p (E : World) (z : PX) (n : Int) :
    (hdP ([] : List MB).length [] (.c (.r .i64 0 16384)) (fun z y => y.n 90000 = sv n) z (fnTree (pe E) (orcX E) (tabL fns) 20000 Try.f19 [.c (.i false .i64 n)] (mkM z [] [] 0))) =
    ((decide (bits BinOp.and IntKind.i64 n (255 : Int) ≥ (128 : Int)) = true → False) ∧ (decide (bits BinOp.and IntKind.i64 n (255 : Int) ≥ (128 : Int)) = false → ([] : SW) =
      [] ∧ (((0 : Int) ≤ IntKind.i64.wrap ((IntKind.i64.wrap (IntKind.i64.wrap (IntKind.i64.wrap ((4 : Int) * bits BinOp.and IntKind.i64 n (255 : Int)) * IntKind.i64.wrap ((128
      : Int) - bits BinOp.and IntKind.i64 n (255 : Int))) * IntKind.i64.wrap ((12698 : Int) + IntKind.i64.wrap ((IntKind.i64.wrap ((3686 : Int) * IntKind.i64.wrap
      (IntKind.i64.wrap ((4 : Int) * bits BinOp.and IntKind.i64 n (255 : Int)) * IntKind.i64.wrap ((128 : Int) - bits BinOp.and IntKind.i64 n (255 : Int))))).tdiv (16384 :
      Int))))).tdiv (16384 : Int)) ∧ IntKind.i64.wrap ((IntKind.i64.wrap (IntKind.i64.wrap (IntKind.i64.wrap ((4 : Int) * bits BinOp.and IntKind.i64 n (255 : Int)) *
      IntKind.i64.wrap ((128 : Int) - bits BinOp.and IntKind.i64 n (255 : Int))) * IntKind.i64.wrap ((12698 : Int) + IntKind.i64.wrap ((IntKind.i64.wrap ((3686 : Int) *
      IntKind.i64.wrap (IntKind.i64.wrap ((4 : Int) * bits BinOp.and IntKind.i64 n (255 : Int)) * IntKind.i64.wrap ((128 : Int) - bits BinOp.and IntKind.i64 n (255 :
      Int))))).tdiv (16384 : Int))))).tdiv (16384 : Int)) ≤ (16384 : Int)) ∧ True) ∧ IntKind.i64.wrap ((IntKind.i64.wrap (IntKind.i64.wrap (IntKind.i64.wrap ((4 : Int) * bits
      BinOp.and IntKind.i64 n (255 : Int)) * IntKind.i64.wrap ((128 : Int) - bits BinOp.and IntKind.i64 n (255 : Int))) * IntKind.i64.wrap ((12698 : Int) + IntKind.i64.wrap
      ((IntKind.i64.wrap ((3686 : Int) * IntKind.i64.wrap (IntKind.i64.wrap ((4 : Int) * bits BinOp.and IntKind.i64 n (255 : Int)) * IntKind.i64.wrap ((128 : Int) - bits
      BinOp.and IntKind.i64 n (255 : Int))))).tdiv (16384 : Int))))).tdiv (16384 : Int)) = sv n)) := by kernel_rfl
theorem s0_c (E : World) (n : Int) (z : PX) (hz : rgM z [] 0) (hp : (fun _ => 0 ≤ n ∧ n ≤ 127) z) : HD (pe E) 19 [.c (.i false .i64 n)] [] [] (.c (.r .i64 0 16384)) (fun z y => y.n 90000 = sv n) z := by
  refine HD.mk (by rfl) (fnTree_sound (P := pe E) orcX_ok tab_ok tab_sz mixed 20000 Try.func19 (by decide) [.c (.i false .i64 n)] _) ⟨?_⟩
  rw [s0_p]
  obtain ⟨h0, h1⟩ := hp
  have e : n % 256 = n := by omega
  rw [a255, e]
  refine ⟨fun h => ?_, fun _ => ?_⟩
  · have := of_decide_eq_true h; omega
  · have hb := (sv_bd h0 (by omega)).1
    have hw := wx_sv h0 (show n < 128 by omega)
    show ([] : SW) = [] ∧ ((0 ≤ wx n ∧ wx n ≤ 16384) ∧ True) ∧ wx n = sv n
    rw [hw]
    exact ⟨rfl, ⟨hb, trivial⟩, rfl⟩
theorem s1_p (E : World) (z : PX) (n : Int) :
    (hdP ([] : List MB).length [] (.c (.r .i64 (-16384) 16384)) (fun z y => y.n 90000 = sn n) z (fnTree (pe E) (orcM E) (tabL fns) 20000 Try.f20 [.c (.i false .i64 n)] (mkM z [] [] 0))) =
    ((decide (bits BinOp.and IntKind.i64 n (255 : Int) > (127 : Int)) = true → ([] : SW) = [] ∧ (((-16384 : Int) ≤ IntKind.i64.wrap ((-1 : Int) * IntKind.i64.wrap
      ((IntKind.i64.wrap (IntKind.i64.wrap (IntKind.i64.wrap ((4 : Int) * IntKind.i64.wrap (bits BinOp.and IntKind.i64 n (255 : Int) - (128 : Int))) * IntKind.i64.wrap ((128 :
      Int) - IntKind.i64.wrap (bits BinOp.and IntKind.i64 n (255 : Int) - (128 : Int)))) * IntKind.i64.wrap ((12698 : Int) + IntKind.i64.wrap ((IntKind.i64.wrap ((3686 : Int) *
      IntKind.i64.wrap (IntKind.i64.wrap ((4 : Int) * IntKind.i64.wrap (bits BinOp.and IntKind.i64 n (255 : Int) - (128 : Int))) * IntKind.i64.wrap ((128 : Int) -
      IntKind.i64.wrap (bits BinOp.and IntKind.i64 n (255 : Int) - (128 : Int)))))).tdiv (16384 : Int))))).tdiv (16384 : Int))) ∧ IntKind.i64.wrap ((-1 : Int) * IntKind.i64.wrap
      ((IntKind.i64.wrap (IntKind.i64.wrap (IntKind.i64.wrap ((4 : Int) * IntKind.i64.wrap (bits BinOp.and IntKind.i64 n (255 : Int) - (128 : Int))) * IntKind.i64.wrap ((128 :
      Int) - IntKind.i64.wrap (bits BinOp.and IntKind.i64 n (255 : Int) - (128 : Int)))) * IntKind.i64.wrap ((12698 : Int) + IntKind.i64.wrap ((IntKind.i64.wrap ((3686 : Int) *
      IntKind.i64.wrap (IntKind.i64.wrap ((4 : Int) * IntKind.i64.wrap (bits BinOp.and IntKind.i64 n (255 : Int) - (128 : Int))) * IntKind.i64.wrap ((128 : Int) -
      IntKind.i64.wrap (bits BinOp.and IntKind.i64 n (255 : Int) - (128 : Int)))))).tdiv (16384 : Int))))).tdiv (16384 : Int))) ≤ (16384 : Int)) ∧ True) ∧ IntKind.i64.wrap ((-1
      : Int) * IntKind.i64.wrap ((IntKind.i64.wrap (IntKind.i64.wrap (IntKind.i64.wrap ((4 : Int) * IntKind.i64.wrap (bits BinOp.and IntKind.i64 n (255 : Int) - (128 : Int))) *
      IntKind.i64.wrap ((128 : Int) - IntKind.i64.wrap (bits BinOp.and IntKind.i64 n (255 : Int) - (128 : Int)))) * IntKind.i64.wrap ((12698 : Int) + IntKind.i64.wrap
      ((IntKind.i64.wrap ((3686 : Int) * IntKind.i64.wrap (IntKind.i64.wrap ((4 : Int) * IntKind.i64.wrap (bits BinOp.and IntKind.i64 n (255 : Int) - (128 : Int))) *
      IntKind.i64.wrap ((128 : Int) - IntKind.i64.wrap (bits BinOp.and IntKind.i64 n (255 : Int) - (128 : Int)))))).tdiv (16384 : Int))))).tdiv (16384 : Int))) = sn n) ∧ (decide
      (bits BinOp.and IntKind.i64 n (255 : Int) > (127 : Int)) = false → ([] : SW) = [] ∧ (((-16384 : Int) ≤ IntKind.i64.wrap ((1 : Int) * IntKind.i64.wrap ((IntKind.i64.wrap
      (IntKind.i64.wrap (IntKind.i64.wrap ((4 : Int) * bits BinOp.and IntKind.i64 n (255 : Int)) * IntKind.i64.wrap ((128 : Int) - bits BinOp.and IntKind.i64 n (255 : Int))) *
      IntKind.i64.wrap ((12698 : Int) + IntKind.i64.wrap ((IntKind.i64.wrap ((3686 : Int) * IntKind.i64.wrap (IntKind.i64.wrap ((4 : Int) * bits BinOp.and IntKind.i64 n (255 :
      Int)) * IntKind.i64.wrap ((128 : Int) - bits BinOp.and IntKind.i64 n (255 : Int))))).tdiv (16384 : Int))))).tdiv (16384 : Int))) ∧ IntKind.i64.wrap ((1 : Int) *
      IntKind.i64.wrap ((IntKind.i64.wrap (IntKind.i64.wrap (IntKind.i64.wrap ((4 : Int) * bits BinOp.and IntKind.i64 n (255 : Int)) * IntKind.i64.wrap ((128 : Int) - bits
      BinOp.and IntKind.i64 n (255 : Int))) * IntKind.i64.wrap ((12698 : Int) + IntKind.i64.wrap ((IntKind.i64.wrap ((3686 : Int) * IntKind.i64.wrap (IntKind.i64.wrap ((4 : Int)
      * bits BinOp.and IntKind.i64 n (255 : Int)) * IntKind.i64.wrap ((128 : Int) - bits BinOp.and IntKind.i64 n (255 : Int))))).tdiv (16384 : Int))))).tdiv (16384 : Int))) ≤
      (16384 : Int)) ∧ True) ∧ IntKind.i64.wrap ((1 : Int) * IntKind.i64.wrap ((IntKind.i64.wrap (IntKind.i64.wrap (IntKind.i64.wrap ((4 : Int) * bits BinOp.and IntKind.i64 n
      (255 : Int)) * IntKind.i64.wrap ((128 : Int) - bits BinOp.and IntKind.i64 n (255 : Int))) * IntKind.i64.wrap ((12698 : Int) + IntKind.i64.wrap ((IntKind.i64.wrap ((3686 :
      Int) * IntKind.i64.wrap (IntKind.i64.wrap ((4 : Int) * bits BinOp.and IntKind.i64 n (255 : Int)) * IntKind.i64.wrap ((128 : Int) - bits BinOp.and IntKind.i64 n (255 :
      Int))))).tdiv (16384 : Int))))).tdiv (16384 : Int))) = sn n)) := by kernel_rfl
theorem s1_c (E : World) (n : Int) (z : PX) (hz : rgM z [] 0) (hp : (fun _ => 0 ≤ n ∧ n ≤ 1000) z) : HD (pe E) 20 [.c (.i false .i64 n)] [] [] (.c (.r .i64 (-16384) 16384)) (fun z y => y.n 90000 = sn n) z := by
  refine HD.mk (by rfl) (fnTree_sound (P := pe E) orcM_ok tab_ok tab_sz mixed 20000 Try.func20 (by decide) [.c (.i false .i64 n)] _) ⟨?_⟩
  rw [s1_p]
  obtain ⟨h0, h1⟩ := hp
  have hb := sn_bd n
  rw [a255]
  refine ⟨fun h => ?_, fun h => ?_⟩
  · have h := of_decide_eq_true h
    have w1 : IntKind.i64.wrap (n % 256 - 128) = n % 256 - 128 := by rw [wi64]; omega
    rw [w1]
    have hb2 := (sv_bd (k := n % 256 - 128) (by omega) (by omega)).1
    have hw := wx_sv (k := n % 256 - 128) (by omega) (by omega)
    show ([] : SW) = [] ∧ ((-16384 ≤ IntKind.i64.wrap (-1 * wx (n % 256 - 128)) ∧ IntKind.i64.wrap (-1 * wx (n % 256 - 128)) ≤ 16384) ∧ True) ∧ IntKind.i64.wrap (-1 * wx (n % 256 - 128)) = sn n
    have hs : sn n = - sv (n % 256 - 128) := by unfold sn; rw [if_neg (by omega)]
    have w2 : IntKind.i64.wrap (-1 * sv (n % 256 - 128)) = - sv (n % 256 - 128) := by rw [wi64]; omega
    rw [hw, w2, hs]
    exact ⟨rfl, ⟨by omega, trivial⟩, rfl⟩
  · have h := of_decide_eq_false h
    have hb2 := (sv_bd (k := n % 256) (by omega) (by omega)).1
    have hw := wx_sv (k := n % 256) (by omega) (by omega)
    show ([] : SW) = [] ∧ ((-16384 ≤ IntKind.i64.wrap (1 * wx (n % 256)) ∧ IntKind.i64.wrap (1 * wx (n % 256)) ≤ 16384) ∧ True) ∧ IntKind.i64.wrap (1 * wx (n % 256)) = sn n
    have hs : sn n = sv (n % 256) := by unfold sn; rw [if_pos (by omega)]
    have w2 : IntKind.i64.wrap (1 * sv (n % 256)) = sv (n % 256) := by rw [wi64]; omega
    rw [hw, w2, hs]
    exact ⟨rfl, ⟨by omega, trivial⟩, rfl⟩
noncomputable def orcZ (E : World) : Orc := fun g vs s => match g with
  | 19 => (match frGo [] vs s (fun vs0 π s1 s0 => match vs0 with
      | [.c (.i l1 .i64 n)] => some (hdG (pre := fun _ => 0 ≤ n ∧ n ≤ 127) (fun z hz hp => HD.args (vs := [.c (.i l1 .i64 n)]) (by simp [simL, SV.sim, C.sim]) (s0_c E n z hz hp)) (by rfl) π s1 s0)
      | _ => none) with
    | some t => some t
    | none => (orcM E) g vs s)
  | g => (orcM E) g vs s
theorem orcZ_ok {E : World} : OrcOK (pe E) (orcZ E) := by
  intro g vs s t h
  unfold orcZ at h
  split at h
  · split at h
    · rename_i hfr; cases h
      obtain ⟨π, s1, hq, hK, hv, hok, hpd⟩ := frGo_spec (P := pe E) hfr
      split at hK
      · rename_i heq; cases hK
        rw [heq] at hv hok
        exact hpd _ _ (hdG_ok _ _ π s1 hq hv hok)
      · cases hK
    · exact orcM_ok _ _ _ _ h
  · exact orcM_ok _ _ _ _ h
theorem s2_p (E : World) (z : PX) (n : Int) :
    (hdP ([] : List MB).length [] (.c (.r .i64 (-16384) 16384)) (fun z y => y.n 90000 = sn n) z (fnTree (pe E) (orcZ E) (tabL fns) 20000 Try.f19 [.c (.i false .i64 n)] (mkM z [] [] 0))) =
    ((decide (bits BinOp.and IntKind.i64 n (255 : Int) ≥ (128 : Int)) = true → (([] : SW) = [] ∧ (0 : Int) ≤ IntKind.i64.wrap (bits BinOp.and IntKind.i64 n (255 : Int) - (128 :
      Int)) ∧ IntKind.i64.wrap (bits BinOp.and IntKind.i64 n (255 : Int) - (128 : Int)) ≤ (127 : Int)) ∧ ∀ (y : PX), True ∧ (((0 : Int) ≤ y.n (90000 : Nat) ∧ y.n (90000 : Nat) ≤
      (16384 : Int)) ∧ True) ∧ y.n (90000 : Nat) = sv (IntKind.i64.wrap (bits BinOp.and IntKind.i64 n (255 : Int) - (128 : Int))) → ([] : SW) = [] ∧ (((-16384 : Int) ≤
      IntKind.i64.wrap ((0 : Int) - y.n (90000 : Nat)) ∧ IntKind.i64.wrap ((0 : Int) - y.n (90000 : Nat)) ≤ (16384 : Int)) ∧ True) ∧ IntKind.i64.wrap ((0 : Int) - y.n (90000 :
      Nat)) = sn n) ∧ (decide (bits BinOp.and IntKind.i64 n (255 : Int) ≥ (128 : Int)) = false → ([] : SW) = [] ∧ (((-16384 : Int) ≤ IntKind.i64.wrap ((IntKind.i64.wrap
      (IntKind.i64.wrap (IntKind.i64.wrap ((4 : Int) * bits BinOp.and IntKind.i64 n (255 : Int)) * IntKind.i64.wrap ((128 : Int) - bits BinOp.and IntKind.i64 n (255 : Int))) *
      IntKind.i64.wrap ((12698 : Int) + IntKind.i64.wrap ((IntKind.i64.wrap ((3686 : Int) * IntKind.i64.wrap (IntKind.i64.wrap ((4 : Int) * bits BinOp.and IntKind.i64 n (255 :
      Int)) * IntKind.i64.wrap ((128 : Int) - bits BinOp.and IntKind.i64 n (255 : Int))))).tdiv (16384 : Int))))).tdiv (16384 : Int)) ∧ IntKind.i64.wrap ((IntKind.i64.wrap
      (IntKind.i64.wrap (IntKind.i64.wrap ((4 : Int) * bits BinOp.and IntKind.i64 n (255 : Int)) * IntKind.i64.wrap ((128 : Int) - bits BinOp.and IntKind.i64 n (255 : Int))) *
      IntKind.i64.wrap ((12698 : Int) + IntKind.i64.wrap ((IntKind.i64.wrap ((3686 : Int) * IntKind.i64.wrap (IntKind.i64.wrap ((4 : Int) * bits BinOp.and IntKind.i64 n (255 :
      Int)) * IntKind.i64.wrap ((128 : Int) - bits BinOp.and IntKind.i64 n (255 : Int))))).tdiv (16384 : Int))))).tdiv (16384 : Int)) ≤ (16384 : Int)) ∧ True) ∧ IntKind.i64.wrap
      ((IntKind.i64.wrap (IntKind.i64.wrap (IntKind.i64.wrap ((4 : Int) * bits BinOp.and IntKind.i64 n (255 : Int)) * IntKind.i64.wrap ((128 : Int) - bits BinOp.and IntKind.i64
      n (255 : Int))) * IntKind.i64.wrap ((12698 : Int) + IntKind.i64.wrap ((IntKind.i64.wrap ((3686 : Int) * IntKind.i64.wrap (IntKind.i64.wrap ((4 : Int) * bits BinOp.and
      IntKind.i64 n (255 : Int)) * IntKind.i64.wrap ((128 : Int) - bits BinOp.and IntKind.i64 n (255 : Int))))).tdiv (16384 : Int))))).tdiv (16384 : Int)) = sn n)) := by kernel_rfl
theorem s2_c (E : World) (n : Int) (z : PX) (hz : rgM z [] 0) (hp : (fun _ => 0 ≤ n ∧ n ≤ 1000) z) : HD (pe E) 19 [.c (.i false .i64 n)] [] [] (.c (.r .i64 (-16384) 16384)) (fun z y => y.n 90000 = sn n) z := by
  refine HD.mk (by rfl) (fnTree_sound (P := pe E) orcZ_ok tab_ok tab_sz mixed 20000 Try.func19 (by decide) [.c (.i false .i64 n)] _) ⟨?_⟩
  rw [s2_p]
  obtain ⟨h0, h1⟩ := hp
  have hb := sn_bd n
  rw [a255]
  refine ⟨fun h => ?_, fun h => ?_⟩
  · have h := of_decide_eq_true h
    have w1 : IntKind.i64.wrap (n % 256 - 128) = n % 256 - 128 := by rw [wi64]; omega
    simp only [w1]
    refine ⟨⟨trivial, by omega⟩, ?_⟩
    rintro y ⟨_, _, hq⟩
    have hb2 := (sv_bd (k := n % 256 - 128) (by omega) (by omega)).1
    have hs : sn n = - sv (n % 256 - 128) := by unfold sn; rw [if_neg (by omega)]
    have w2 : IntKind.i64.wrap (0 - sv (n % 256 - 128)) = - sv (n % 256 - 128) := by rw [wi64]; omega
    rw [hq, w2, hs]
    exact ⟨trivial, ⟨by omega, trivial⟩, rfl⟩
  · have h := of_decide_eq_false h
    have hb2 := (sv_bd (k := n % 256) (by omega) (by omega)).1
    have hw := wx_sv (k := n % 256) (by omega) (by omega)
    show ([] : SW) = [] ∧ ((-16384 ≤ wx (n % 256) ∧ wx (n % 256) ≤ 16384) ∧ True) ∧ wx (n % 256) = sn n
    have hs : sn n = sv (n % 256) := by unfold sn; rw [if_pos (by omega)]
    rw [hw, hs]
    exact ⟨rfl, ⟨by omega, trivial⟩, rfl⟩
theorem s3_p (E : World) (z : PX) (x : Int) :
    (hdP ([] : List MB).length [] (.c (.r .i64 (-32768) 32767)) (fun z y => y.n 90000 = IntKind.i16.wrap x) z (fnTree (pe E) (orcM E) (tabL fns) 20000 Try.f54 [.c (.i false .u32 x)] (mkM z [] [] 0))) =
    ((decide (IntKind.i64.wrap (x.tmod (65536 : Int)) ≥ (32768 : Int)) = true → ([] : SW) = [] ∧ (((-32768 : Int) ≤ IntKind.i64.wrap (IntKind.i64.wrap (x.tmod (65536 : Int)) -
      (65536 : Int)) ∧ IntKind.i64.wrap (IntKind.i64.wrap (x.tmod (65536 : Int)) - (65536 : Int)) ≤ (32767 : Int)) ∧ True) ∧ IntKind.i64.wrap (IntKind.i64.wrap (x.tmod (65536 :
      Int)) - (65536 : Int)) = IntKind.i16.wrap x) ∧ (decide (IntKind.i64.wrap (x.tmod (65536 : Int)) ≥ (32768 : Int)) = false → ([] : SW) = [] ∧ (((-32768 : Int) ≤
      IntKind.i64.wrap (x.tmod (65536 : Int)) ∧ IntKind.i64.wrap (x.tmod (65536 : Int)) ≤ (32767 : Int)) ∧ True) ∧ IntKind.i64.wrap (x.tmod (65536 : Int)) = IntKind.i16.wrap x)) := by kernel_rfl
theorem s3_c (E : World) (x : Int) (z : PX) (hz : rgM z [] 0) (hp : (fun _ => 0 ≤ x ∧ x ≤ 4294967295) z) : HD (pe E) 54 [.c (.i false .u32 x)] [] [] (.c (.r .i64 (-32768) 32767)) (fun z y => y.n 90000 = IntKind.i16.wrap x) z := by
  refine HD.mk (by rfl) (fnTree_sound (P := pe E) orcM_ok tab_ok tab_sz mixed 20000 Try.func54 (by decide) [.c (.i false .u32 x)] _) ⟨?_⟩
  rw [s3_p]
  have e : IntKind.i64.wrap (x % 65536) = x % 65536 := by rw [wi64]; omega
  have e3 : IntKind.i16.wrap x = if x % 65536 < 32768 then x % 65536 else x % 65536 - 65536 := by rw [wi16]; split <;> omega
  have e2 : IntKind.i64.wrap (x % 65536 - 65536) = x % 65536 - 65536 := by rw [wi64]; omega
  rw [tmod_n x _ hp.1, e, e2, e3]
  refine ⟨fun h => ?_, fun h => ?_⟩
  · have h := of_decide_eq_true h
    rw [if_neg (by omega)]
    exact ⟨rfl, ⟨by omega, trivial⟩, rfl⟩
  · have h := of_decide_eq_false h
    rw [if_pos (by omega)]
    exact ⟨rfl, ⟨by omega, trivial⟩, rfl⟩
noncomputable def orcN (E : World) : Orc := fun g vs s => match g with
  | 19 => (match frGo [] vs s (fun vs0 π s1 s0 => match vs0 with
      | [.c (.i l1 .i64 n)] => some (hdG (pre := fun _ => 0 ≤ n ∧ n ≤ 1000) (fun z hz hp => HD.args (vs := [.c (.i l1 .i64 n)]) (by simp [simL, SV.sim, C.sim]) (s2_c E n z hz hp)) (by rfl) π s1 s0)
      | _ => none) with
    | some t => some t
    | none => (orcM E) g vs s)
  | 20 => (match frGo [] vs s (fun vs0 π s1 s0 => match vs0 with
      | [.c (.i l1 .i64 n)] => some (hdG (pre := fun _ => 0 ≤ n ∧ n ≤ 1000) (fun z hz hp => HD.args (vs := [.c (.i l1 .i64 n)]) (by simp [simL, SV.sim, C.sim]) (s1_c E n z hz hp)) (by rfl) π s1 s0)
      | _ => none) with
    | some t => some t
    | none => (orcM E) g vs s)
  | 54 => (match frGo [] vs s (fun vs0 π s1 s0 => match vs0 with
      | [.c (.i l1 .u32 x)] => some (hdG (pre := fun _ => 0 ≤ x ∧ x ≤ 4294967295) (fun z hz hp => HD.args (vs := [.c (.i l1 .u32 x)]) (by simp [simL, SV.sim, C.sim]) (s3_c E x z hz hp)) (by rfl) π s1 s0)
      | _ => none) with
    | some t => some t
    | none => (orcM E) g vs s)
  | g => (orcM E) g vs s
theorem orcN_ok {E : World} : OrcOK (pe E) (orcN E) := by
  intro g vs s t h
  unfold orcN at h
  split at h
  · split at h
    · rename_i hfr; cases h
      obtain ⟨π, s1, hq, hK, hv, hok, hpd⟩ := frGo_spec (P := pe E) hfr
      split at hK
      · rename_i heq; cases hK
        rw [heq] at hv hok
        exact hpd _ _ (hdG_ok _ _ π s1 hq hv hok)
      · cases hK
    · exact orcM_ok _ _ _ _ h
  · split at h
    · rename_i hfr; cases h
      obtain ⟨π, s1, hq, hK, hv, hok, hpd⟩ := frGo_spec (P := pe E) hfr
      split at hK
      · rename_i heq; cases hK
        rw [heq] at hv hok
        exact hpd _ _ (hdG_ok _ _ π s1 hq hv hok)
      · cases hK
    · exact orcM_ok _ _ _ _ h
  · split at h
    · rename_i hfr; cases h
      obtain ⟨π, s1, hq, hK, hv, hok, hpd⟩ := frGo_spec (P := pe E) hfr
      split at hK
      · rename_i heq; cases hK
        rw [heq] at hv hok
        exact hpd _ _ (hdG_ok _ _ π s1 hq hv hok)
      · cases hK
    · exact orcM_ok _ _ _ _ h
  · exact orcM_ok _ _ _ _ h
end Go.Proofs.Ytabklphoccicmaa

