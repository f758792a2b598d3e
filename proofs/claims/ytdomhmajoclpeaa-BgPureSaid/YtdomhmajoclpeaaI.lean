import Derived.Test.YtdomhmajoclpeaaG
set_option linter.unusedVariables false
set_option linter.unusedSimpArgs false
namespace Go.Proofs.Ytdomhmajoclpeaa
open Go Go.Proofs Go.Proofs.Ytdomhmajoclpeaa.Ev Go.Proofs.Ytdomhmajoclpeaa.Ev.Ho Go.IntKind
set_option maxRecDepth 100000
noncomputable def mL2 : MB := .o [.c (.p 1 0), .c (.i true .i64 2), .r .u16 0 65535, .r .i64 0 159, .r .i64 0 15] 59
noncomputable def mL3 : MB := .o [.c (.p 1 0), .c (.i true .i64 3), .r .u16 0 65535, .r .i64 0 159, .r .i64 0 15] 59
noncomputable def pF (r a b x d : Int) : Int := IntKind.i32.wrap (IntKind.i32.wrap (r + IntKind.i32.wrap (IntKind.i32.wrap x * IntKind.i32.wrap a)) - IntKind.i32.wrap (IntKind.i32.wrap d * IntKind.i32.wrap b)) / 256
noncomputable def pxF (s : Sc) (i : Int) (x d : Int) : Int := if i = 2 then pF (s.rf.getD 0 0) (s.pa.getD 0 0) (s.pa.getD 1 0) x d else pF (s.rf.getD 2 0) (s.pa.getD 4 0) (s.pa.getD 5 0) x d
noncomputable def pyF (s : Sc) (i : Int) (x d : Int) : Int := if i = 2 then pF (s.rf.getD 1 0) (s.pa.getD 2 0) (s.pa.getD 3 0) x d else pF (s.rf.getD 3 0) (s.pa.getD 6 0) (s.pa.getD 7 0) x d
noncomputable def wdF (s : Sc) (i : Int) : Int := if selI s.bg i / 64 % 2 = 1 then s.mo % 16 + 1 else 1
noncomputable def hgF (s : Sc) (i : Int) : Int := if selI s.bg i / 64 % 2 = 1 then s.mo / 16 % 16 + 1 else 1
def exP (c i : Int) : Prop := c % 8 = 0 ∨ (c % 8 = 1 ∧ i < 3) ∨ (c % 8 = 2 ∧ 2 ≤ i) ∨ (3 ≤ c % 8 ∧ c % 8 ≤ 5 ∧ i = 2)
def shP (c i : Int) : Prop := (0 ≤ i ∧ i ≤ 3) ∧ c / 128 % 2 = 0 ∧ c / 2 ^ (8 + i).toNat % 2 = 1 ∧ exP c i
noncomputable def shF (c i : Int) : Bool := @decide (shP c i) (Classical.propDecidable _)
theorem shF_iff {c i : Int} {b : Bool} (h : b = true ↔ shP c i) : b = shF c i := by
  unfold shF
  cases b
  · by_cases hp : shP c i
    · exact absurd (h.2 hp) (by decide)
    · exact (@decide_eq_false _ (Classical.propDecidable _) hp).symm
  · exact (@decide_eq_true _ (Classical.propDecidable _) (h.1 rfl)).symm
theorem plcE (u : Int) : IntKind.i64.wrap ((IntKind.i32.wrap u).fdiv 256) = IntKind.i32.wrap u / 256 := by
  have h : -2147483648 ≤ IntKind.i32.wrap u ∧ IntKind.i32.wrap u ≤ 2147483647 := by rw [wi32]; omega
  rw [fd _ _ (by decide), wi64_in _ (by omega) (by omega)]
theorem plcB (u : Int) : -8388608 ≤ IntKind.i32.wrap u / 256 ∧ IntKind.i32.wrap u / 256 ≤ 8388607 := by
  have h : -2147483648 ≤ IntKind.i32.wrap u ∧ IntKind.i32.wrap u ≤ 2147483647 := by rw [wi32]; omega
  omega
theorem ab64 (x : Int) (h : 0 ≤ x ∧ x ≤ 65535) : (bits .and .u16 x 64 == 0) = decide (x / 64 % 2 = 0) := by
  have e := abit x 6 (by decide) h.1 h.2
  have e2 : (bits .and .u16 x 64 == 0) = !(bits .and .u16 x 64 != 0) := by rw [bne, Bool.not_not]
  rw [e2]
  rw [show (2 : Int) ^ 6 = 64 by rfl] at e
  rw [e]
  by_cases hb : x / 64 % 2 = 1
  · rw [hb]; rfl
  · have : x / 64 % 2 = 0 := by omega
    rw [this]; rfl
theorem pw (i : Int) (h : 0 ≤ i ∧ i ≤ 3) : (2 : Int) ^ min (IntKind.i64.wrap (8 + i)).toNat 16 = 2 ^ (8 + i).toNat := by
  rw [wi64_in _ (by omega) (by omega), Nat.min_eq_left (by omega)]
theorem place2R_p (E : World) (z : PX) (x : Int) :
    (hoPr true [mL2, mS 2, rowB, rowB, rowB] [] (.t [.r .i64 (-8388608) 8388607, .r .i64 (-8388608) 8388607]) (fun z y => y.n 90000 = pF (z.n 100021) (z.n 100013) (z.n 100014) x (z.n 4) ∧ y.n 90001 = pF (z.n 100022) (z.n 100015) (z.n 100016) x (z.n 4)) z (fnTree (pe E) (orcTR E) (tabL fns) 20000 Try.f35 [.c (.p 0 0), .c (.i false .i64 x)] (mkM z [] [mL2, mS 2, rowB, rowB, rowB] 0))) =
    (decide (z.n 100013 = z.n 100013) = true ∧ decide (z.n 100014 = z.n 100014) = true ∧ decide (z.n 100015 = z.n 100015) = true ∧ decide (z.n 100016 = z.n 100016) = true ∧ decide (z.n 100021 = z.n 100021) = true ∧ decide (z.n 100022 = z.n 100022) = true ∧ decide (z.n 100013 = z.n 100013) = true ∧ decide (z.n 100014 = z.n 100014) = true ∧ decide (z.n 100015 = z.n 100015) = true ∧ decide (z.n 100016 = z.n 100016) = true ∧ decide (z.n 100021 = z.n 100021) = true ∧ decide (z.n 100022 = z.n 100022) = true ∧ decide (z.n 100013 = z.n 100013) = true ∧ decide (z.n 100014 = z.n 100014) = true ∧ decide (z.n 100015 = z.n 100015) = true ∧ decide (z.n 100016 = z.n 100016) = true ∧ decide (z.n 100021 = z.n 100021) = true ∧ decide (z.n 100022 = z.n 100022) = true ∧ decide (z.n 100013 = z.n 100013) = true ∧ decide (z.n 100014 = z.n 100014) = true ∧ decide (z.n 100015 = z.n 100015) = true ∧ decide (z.n 100016 = z.n 100016) = true ∧ decide (z.n 100021 = z.n 100021) = true ∧ decide (z.n 100022 = z.n 100022) = true ∧ (((-8388608) ≤ i64.wrap ((i32.wrap (i32.wrap (z.n 100021 + i32.wrap (i32.wrap x * i32.wrap (z.n 100013))) - i32.wrap (i32.wrap (z.n 4) * i32.wrap (z.n 100014)))).fdiv 256) ∧ i64.wrap ((i32.wrap (i32.wrap (z.n 100021 + i32.wrap (i32.wrap x * i32.wrap (z.n 100013))) - i32.wrap (i32.wrap (z.n 4) * i32.wrap (z.n 100014)))).fdiv 256) ≤ 8388607) ∧ ((-8388608) ≤ i64.wrap ((i32.wrap (i32.wrap (z.n 100022 + i32.wrap (i32.wrap x * i32.wrap (z.n 100015))) - i32.wrap (i32.wrap (z.n 4) * i32.wrap (z.n 100016)))).fdiv 256) ∧ i64.wrap ((i32.wrap (i32.wrap (z.n 100022 + i32.wrap (i32.wrap x * i32.wrap (z.n 100015))) - i32.wrap (i32.wrap (z.n 4) * i32.wrap (z.n 100016)))).fdiv 256) ≤ 8388607) ∧ True) ∧ mkM z [] [mL2, mS (2 : Nat), rowB, rowB, rowB] (0 : Nat) = mkM z [] [mL2, mS (2 : Nat), rowB, rowB, rowB] (0 : Nat) ∧ i64.wrap ((i32.wrap (i32.wrap (z.n 100021 + i32.wrap (i32.wrap x * i32.wrap (z.n 100013))) - i32.wrap (i32.wrap (z.n 4) * i32.wrap (z.n 100014)))).fdiv 256) = pF (z.n 100021) (z.n 100013) (z.n 100014) x (z.n 4) ∧ i64.wrap ((i32.wrap (i32.wrap (z.n 100022 + i32.wrap (i32.wrap x * i32.wrap (z.n 100015))) - i32.wrap (i32.wrap (z.n 4) * i32.wrap (z.n 100016)))).fdiv 256) = pF (z.n 100022) (z.n 100015) (z.n 100016) x (z.n 4)) := by kernel_rfl
theorem place2R_c (E : World) (x : Int) (z : PX) (hz : rgM z [mL2, mS 2, rowB, rowB, rowB] 0) (hp : (fun _ => 0 ≤ x ∧ x ≤ 239) z) : HR (pe E) 35 [.c (.p 0 0), .c (.i false .i64 x)] [mL2, mS 2, rowB, rowB, rowB] [] (.t [.r .i64 (-8388608) 8388607, .r .i64 (-8388608) 8388607]) (fun z y => y.n 90000 = pF (z.n 100021) (z.n 100013) (z.n 100014) x (z.n 4) ∧ y.n 90001 = pF (z.n 100022) (z.n 100015) (z.n 100016) x (z.n 4)) z := by
  refine HR.mk true (by rfl) (by rfl) (fnTree_sound (P := pe E) orcTR_ok tab_ok tab_sz mixed 20000 Try.func35 (by decide) [.c (.p 0 0), .c (.i false .i64 x)] _) ⟨?_⟩
  rw [place2R_p]
  unfold pF
  simp only [plcE]
  (repeat' (first | exact trivial | exact (plcB _).1 | exact (plcB _).2 | with_reducible rfl | exact decide_eq_true rfl | exact decide_eq_true trivial | exact sameB_self _ | with_reducible assumption | apply And.intro)) <;> (first | omega | done)
theorem place3R_p (E : World) (z : PX) (x : Int) :
    (hoPr true [mL3, mS 2, rowB, rowB, rowB] [] (.t [.r .i64 (-8388608) 8388607, .r .i64 (-8388608) 8388607]) (fun z y => y.n 90000 = pF (z.n 100023) (z.n 100017) (z.n 100018) x (z.n 4) ∧ y.n 90001 = pF (z.n 100024) (z.n 100019) (z.n 100020) x (z.n 4)) z (fnTree (pe E) (orcTR E) (tabL fns) 20000 Try.f35 [.c (.p 0 0), .c (.i false .i64 x)] (mkM z [] [mL3, mS 2, rowB, rowB, rowB] 0))) =
    (decide (z.n 100017 = z.n 100017) = true ∧ decide (z.n 100018 = z.n 100018) = true ∧ decide (z.n 100019 = z.n 100019) = true ∧ decide (z.n 100020 = z.n 100020) = true ∧ decide (z.n 100023 = z.n 100023) = true ∧ decide (z.n 100024 = z.n 100024) = true ∧ decide (z.n 100017 = z.n 100017) = true ∧ decide (z.n 100018 = z.n 100018) = true ∧ decide (z.n 100019 = z.n 100019) = true ∧ decide (z.n 100020 = z.n 100020) = true ∧ decide (z.n 100023 = z.n 100023) = true ∧ decide (z.n 100024 = z.n 100024) = true ∧ decide (z.n 100017 = z.n 100017) = true ∧ decide (z.n 100018 = z.n 100018) = true ∧ decide (z.n 100019 = z.n 100019) = true ∧ decide (z.n 100020 = z.n 100020) = true ∧ decide (z.n 100023 = z.n 100023) = true ∧ decide (z.n 100024 = z.n 100024) = true ∧ decide (z.n 100017 = z.n 100017) = true ∧ decide (z.n 100018 = z.n 100018) = true ∧ decide (z.n 100019 = z.n 100019) = true ∧ decide (z.n 100020 = z.n 100020) = true ∧ decide (z.n 100023 = z.n 100023) = true ∧ decide (z.n 100024 = z.n 100024) = true ∧ (((-8388608) ≤ i64.wrap ((i32.wrap (i32.wrap (z.n 100023 + i32.wrap (i32.wrap x * i32.wrap (z.n 100017))) - i32.wrap (i32.wrap (z.n 4) * i32.wrap (z.n 100018)))).fdiv 256) ∧ i64.wrap ((i32.wrap (i32.wrap (z.n 100023 + i32.wrap (i32.wrap x * i32.wrap (z.n 100017))) - i32.wrap (i32.wrap (z.n 4) * i32.wrap (z.n 100018)))).fdiv 256) ≤ 8388607) ∧ ((-8388608) ≤ i64.wrap ((i32.wrap (i32.wrap (z.n 100024 + i32.wrap (i32.wrap x * i32.wrap (z.n 100019))) - i32.wrap (i32.wrap (z.n 4) * i32.wrap (z.n 100020)))).fdiv 256) ∧ i64.wrap ((i32.wrap (i32.wrap (z.n 100024 + i32.wrap (i32.wrap x * i32.wrap (z.n 100019))) - i32.wrap (i32.wrap (z.n 4) * i32.wrap (z.n 100020)))).fdiv 256) ≤ 8388607) ∧ True) ∧ mkM z [] [mL3, mS (2 : Nat), rowB, rowB, rowB] (0 : Nat) = mkM z [] [mL3, mS (2 : Nat), rowB, rowB, rowB] (0 : Nat) ∧ i64.wrap ((i32.wrap (i32.wrap (z.n 100023 + i32.wrap (i32.wrap x * i32.wrap (z.n 100017))) - i32.wrap (i32.wrap (z.n 4) * i32.wrap (z.n 100018)))).fdiv 256) = pF (z.n 100023) (z.n 100017) (z.n 100018) x (z.n 4) ∧ i64.wrap ((i32.wrap (i32.wrap (z.n 100024 + i32.wrap (i32.wrap x * i32.wrap (z.n 100019))) - i32.wrap (i32.wrap (z.n 4) * i32.wrap (z.n 100020)))).fdiv 256) = pF (z.n 100024) (z.n 100019) (z.n 100020) x (z.n 4)) := by kernel_rfl
theorem place3R_c (E : World) (x : Int) (z : PX) (hz : rgM z [mL3, mS 2, rowB, rowB, rowB] 0) (hp : (fun _ => 0 ≤ x ∧ x ≤ 239) z) : HR (pe E) 35 [.c (.p 0 0), .c (.i false .i64 x)] [mL3, mS 2, rowB, rowB, rowB] [] (.t [.r .i64 (-8388608) 8388607, .r .i64 (-8388608) 8388607]) (fun z y => y.n 90000 = pF (z.n 100023) (z.n 100017) (z.n 100018) x (z.n 4) ∧ y.n 90001 = pF (z.n 100024) (z.n 100019) (z.n 100020) x (z.n 4)) z := by
  refine HR.mk true (by rfl) (by rfl) (fnTree_sound (P := pe E) orcTR_ok tab_ok tab_sz mixed 20000 Try.func35 (by decide) [.c (.p 0 0), .c (.i false .i64 x)] _) ⟨?_⟩
  rw [place3R_p]
  unfold pF
  simp only [plcE]
  (repeat' (first | exact trivial | exact (plcB _).1 | exact (plcB _).2 | with_reducible rfl | exact decide_eq_true rfl | exact decide_eq_true trivial | exact sameB_self _ | with_reducible assumption | apply And.intro)) <;> (first | omega | done)
theorem placeR_c (E : World) (x : Int) (z : PX) (hz : rgM z [mL, mS 2, rowB, rowB, rowB] 0) (hp : (fun z => (ROk (z.l 2) (z.n 100026).toNat ∧ ROk (z.l 3) (z.n 100027).toNat) ∧ 2 ≤ z.n 1 ∧ 0 ≤ x ∧ x ≤ 239) z) : HR (pe E) 35 [.c (.p 0 0), .c (.i false .i64 x)] [mL, mS 2, rowB, rowB, rowB] [] (.t [.r .i64 (-8388608) 8388607, .r .i64 (-8388608) 8388607]) (fun z y => y.n 90000 = pxF (scM z 100000 (bR (z.l 2) (z.n 100026).toNat) (z.n 100026).toNat (bR (z.l 3) (z.n 100027).toNat) (z.n 100027).toNat) (z.n 1) x (z.n 4) ∧ y.n 90001 = pyF (scM z 100000 (bR (z.l 2) (z.n 100026).toNat) (z.n 100026).toNat (bR (z.l 3) (z.n 100027).toNat) (z.n 100027).toNat) (z.n 1) x (z.n 4)) z := by
  obtain ⟨_, h2, h0, h1⟩ := hp
  have q1 : 0 ≤ z.n 1 ∧ z.n 1 ≤ 3 := hz.1.1
  have : z.n 1 = 2 ∨ z.n 1 = 3 := by omega
  rcases this with h | h
  · refine HR.mem (z2 := z) (ms2 := [mL2, mS 2, rowB, rowB, rowB]) ?_ ?_ (place2R_c E x z ⟨hz.1.2, hz.2⟩ ⟨h0, h1⟩) _ (fun y hy hq => ?_)
    · exact ⟨⟨rfl, ⟨rfl, ⟨rfl, h⟩, ⟨rfl, rfl⟩, ⟨rfl, rfl⟩, ⟨rfl, rfl⟩⟩⟩, refS_refl _⟩
    · exact ⟨⟨rfl, ⟨rfl, ⟨rfl, h.symm⟩, ⟨rfl, rfl⟩, ⟨rfl, rfl⟩, ⟨rfl, rfl⟩⟩⟩, refS_refl _⟩
    · show y.n 90000 = pxF (scM z 100000 (bR (z.l 2) (z.n 100026).toNat) (z.n 100026).toNat (bR (z.l 3) (z.n 100027).toNat) (z.n 100027).toNat) (z.n 1) x (z.n 4) ∧ y.n 90001 = pyF (scM z 100000 (bR (z.l 2) (z.n 100026).toNat) (z.n 100026).toNat (bR (z.l 3) (z.n 100027).toNat) (z.n 100027).toNat) (z.n 1) x (z.n 4)
      rw [h]
      exact hq
  · refine HR.mem (z2 := z) (ms2 := [mL3, mS 2, rowB, rowB, rowB]) ?_ ?_ (place3R_c E x z ⟨hz.1.2, hz.2⟩ ⟨h0, h1⟩) _ (fun y hy hq => ?_)
    · exact ⟨⟨rfl, ⟨rfl, ⟨rfl, h⟩, ⟨rfl, rfl⟩, ⟨rfl, rfl⟩, ⟨rfl, rfl⟩⟩⟩, refS_refl _⟩
    · exact ⟨⟨rfl, ⟨rfl, ⟨rfl, h.symm⟩, ⟨rfl, rfl⟩, ⟨rfl, rfl⟩, ⟨rfl, rfl⟩⟩⟩, refS_refl _⟩
    · show y.n 90000 = pxF (scM z 100000 (bR (z.l 2) (z.n 100026).toNat) (z.n 100026).toNat (bR (z.l 3) (z.n 100027).toNat) (z.n 100027).toNat) (z.n 1) x (z.n 4) ∧ y.n 90001 = pyF (scM z 100000 (bR (z.l 2) (z.n 100026).toNat) (z.n 100026).toNat (bR (z.l 3) (z.n 100027).toNat) (z.n 100027).toNat) (z.n 1) x (z.n 4)
      rw [h]
      exact hq
theorem blkR_p (E : World) (z : PX) (i : Int) :
    (hoPr true [mS 1, rowB, rowB, rowB] [] (.t [.r .i64 1 16, .r .i64 1 16]) (fun z y => y.n 90000 = wdF (scM z 0 (bR (z.l 1) (z.n 26).toNat) (z.n 26).toNat (bR (z.l 2) (z.n 27).toNat) (z.n 27).toNat) i ∧ y.n 90001 = hgF (scM z 0 (bR (z.l 1) (z.n 26).toNat) (z.n 26).toNat (bR (z.l 2) (z.n 27).toNat) (z.n 27).toNat) i) z (fnTree (pe E) (orcL E) (tabL fns) 20000 Try.f17 [.c (.p 0 0), .c (.i false .i64 i)] (mkM z [] [mS 1, rowB, rowB, rowB] 0))) =
    (inB i (4 : Nat) = true ∧ ((bits BinOp.and u16 (selI [z.n 1, z.n 2, z.n 3, z.n 4] i) (64 : Int) == 0) = true → (((1 : Int) ≤ (1 : Int) ∧ (1 : Int) ≤ 16) ∧ ((1 : Int) ≤ (1 : Int) ∧ (1 : Int) ≤ 16) ∧ True) ∧ mkM z [] [mS (1 : Nat), rowB, rowB, rowB] (0 : Nat) = mkM z [] [mS (1 : Nat), rowB, rowB, rowB] (0 : Nat) ∧ 1 = wdF (scM z 0 (bR (z.l 1) (z.n 26).toNat) (z.n 26).toNat (bR (z.l 2) (z.n 27).toNat) (z.n 27).toNat) i ∧ 1 = hgF (scM z 0 (bR (z.l 1) (z.n 26).toNat) (z.n 26).toNat (bR (z.l 2) (z.n 27).toNat) (z.n 27).toNat) i) ∧ ((bits BinOp.and u16 (selI [z.n 1, z.n 2, z.n 3, z.n 4] i) (64 : Int) == 0) = false → ((1 ≤ i64.wrap (i64.wrap (bits BinOp.and u16 (z.n 25) 15) + 1) ∧ i64.wrap (i64.wrap (bits BinOp.and u16 (z.n 25) 15) + 1) ≤ 16) ∧ (1 ≤ i64.wrap (i64.wrap (bits BinOp.and u16 ((z.n 25).fdiv 16) 15) + 1) ∧ i64.wrap (i64.wrap (bits BinOp.and u16 ((z.n 25).fdiv 16) 15) + 1) ≤ 16) ∧ True) ∧ mkM z [] [mS (1 : Nat), rowB, rowB, rowB] (0 : Nat) = mkM z [] [mS (1 : Nat), rowB, rowB, rowB] (0 : Nat) ∧ i64.wrap (i64.wrap (bits BinOp.and u16 (z.n 25) 15) + 1) = wdF (scM z 0 (bR (z.l 1) (z.n 26).toNat) (z.n 26).toNat (bR (z.l 2) (z.n 27).toNat) (z.n 27).toNat) i ∧ i64.wrap (i64.wrap (bits BinOp.and u16 ((z.n 25).fdiv 16) 15) + 1) = hgF (scM z 0 (bR (z.l 1) (z.n 26).toNat) (z.n 26).toNat (bR (z.l 2) (z.n 27).toNat) (z.n 27).toNat) i)) := by kernel_rfl
theorem blkR_c (E : World) (i : Int) (z : PX) (hz : rgM z [mS 1, rowB, rowB, rowB] 0) (hp : (fun _ => 0 ≤ i ∧ i ≤ 3) z) : HR (pe E) 17 [.c (.p 0 0), .c (.i false .i64 i)] [mS 1, rowB, rowB, rowB] [] (.t [.r .i64 1 16, .r .i64 1 16]) (fun z y => y.n 90000 = wdF (scM z 0 (bR (z.l 1) (z.n 26).toNat) (z.n 26).toNat (bR (z.l 2) (z.n 27).toNat) (z.n 27).toNat) i ∧ y.n 90001 = hgF (scM z 0 (bR (z.l 1) (z.n 26).toNat) (z.n 26).toNat (bR (z.l 2) (z.n 27).toNat) (z.n 27).toNat) i) z := by
  refine HR.mk true (by rfl) (by rfl) (fnTree_sound (P := pe E) orcL_ok tab_ok tab_sz mixed 20000 Try.func17 (by decide) [.c (.p 0 0), .c (.i false .i64 i)] _) ⟨?_⟩
  rw [blkR_p]
  obtain ⟨h0, h1⟩ := hp
  have hR1 : Row [.r .u8 0 255] (z.l 1) := hz.2.1.2
  have hR2 : Row [.r .u8 0 255] (z.l 2) := hz.2.2.1.2
  have hR3 : Row [.r .u8 0 255] (z.l 3) := hz.2.2.2.1.2
  have hF : flat [Sp.r .u8 0 255] = true := rfl
  obtain ⟨r0, r1, r2, r3, r4, r5, r6, r7, r8, r9, r10, r11, r12, r13, r14, r15, r16, r17, r18, r19, r20, r21, r22, r23, r24, r25, v26, v27, v28, _⟩ := hz.1
  have sB : 0 ≤ selI [z.n 1, z.n 2, z.n 3, z.n 4] i ∧ selI [z.n 1, z.n 2, z.n 3, z.n 4] i ≤ 65535 := selI_rg _ _ h0 (by show i < 4; omega) (by intro a ha; simp only [List.mem_cons, List.not_mem_nil, or_false] at ha; rcases ha with rfl | rfl | rfl | rfl <;> assumption)
  unfold wdF hgF
  simp only []
  generalize selI [z.n 1, z.n 2, z.n 3, z.n 4] i = b at *
  have r25' : 0 ≤ z.n 25 ∧ z.n 25 ≤ 65535 := r25
  generalize z.n 25 = m at *
  rw [ab64 b sB, a15u, fd m 16 (by decide), a15u, wi64_in (m % 16) (by omega) (by omega), wi64_in (m / 16 % 16) (by omega) (by omega), wi64_in (m % 16 + 1) (by omega) (by omega), wi64_in (m / 16 % 16 + 1) (by omega) (by omega)]
  simp only [decide_eq_true_eq, decide_eq_false_iff_not]
  refine ⟨inB_of h0 (by omega), fun h => ?_, fun h => ?_⟩
  · rw [if_neg (by omega), if_neg (by omega)]
    (repeat' (first | exact trivial | with_reducible rfl | exact decide_eq_true rfl | exact decide_eq_true trivial | exact sameB_self _ | with_reducible assumption | apply And.intro)) <;> (first | omega | done)
  · rw [if_pos (by omega), if_pos (by omega)]
    (repeat' (first | exact trivial | with_reducible rfl | exact decide_eq_true rfl | exact decide_eq_true trivial | exact sameB_self _ | with_reducible assumption | apply And.intro)) <;> (first | omega | done)
theorem shownR_p (E : World) (z : PX) (i : Int) :
    (hoPr true [mS 1, rowB, rowB, rowB] [] (.c .b) (fun z y => y.b 90000 = shF (z.n 0) i) z (fnTree (pe E) (orcL E) (tabL fns) 20000 Try.f13 [.c (.p 0 0), .c (.i false .i64 i)] (mkM z [] [mS 1, rowB, rowB, rowB] 0))) =
    (((bif bif decide (i < 0) then true else decide (i > 3) then true else bits BinOp.and u16 (z.n 0) (128 : Int) != 0) = true → True ∧ mkM z [] [mS (1 : Nat), rowB, rowB, rowB] (0 : Nat) = mkM z [] [mS (1 : Nat), rowB, rowB, rowB] (0 : Nat) ∧ false = shF (z.n 0) i) ∧ ((bif bif decide (i < 0) then true else decide (i > 3) then true else bits BinOp.and u16 (z.n 0) (128 : Int) != 0) = false → decide (0 ≤ i64.wrap (8 + i)) = true ∧ ((bits BinOp.and u16 ((z.n 0).fdiv (2 ^ min (i64.wrap (8 + i)).toNat (16 : Nat))) (1 : Int) != 0) = true → ((i64.wrap (bits BinOp.and u16 (z.n 0) 7) == 0) = true → True ∧ mkM z [] [mS (1 : Nat), rowB, rowB, rowB] (0 : Nat) = mkM z [] [mS (1 : Nat), rowB, rowB, rowB] (0 : Nat) ∧ true = shF (z.n 0) i) ∧ ((i64.wrap (bits BinOp.and u16 (z.n 0) 7) == 0) = false → ((i64.wrap (bits BinOp.and u16 (z.n 0) 7) == 1) = true → True ∧ mkM z [] [mS (1 : Nat), rowB, rowB, rowB] (0 : Nat) = mkM z [] [mS (1 : Nat), rowB, rowB, rowB] (0 : Nat) ∧ decide (i < 3) = shF (z.n 0) i) ∧ ((i64.wrap (bits BinOp.and u16 (z.n 0) 7) == 1) = false → ((i64.wrap (bits BinOp.and u16 (z.n 0) 7) == 2) = true → True ∧ mkM z [] [mS (1 : Nat), rowB, rowB, rowB] (0 : Nat) = mkM z [] [mS (1 : Nat), rowB, rowB, rowB] (0 : Nat) ∧ decide (i ≥ 2) = shF (z.n 0) i) ∧ ((i64.wrap (bits BinOp.and u16 (z.n 0) 7) == 2) = false → ((i64.wrap (bits BinOp.and u16 (z.n 0) 7) == 3) = true → True ∧ mkM z [] [mS (1 : Nat), rowB, rowB, rowB] (0 : Nat) = mkM z [] [mS (1 : Nat), rowB, rowB, rowB] (0 : Nat) ∧ (i == 2) = shF (z.n 0) i) ∧ ((i64.wrap (bits BinOp.and u16 (z.n 0) 7) == 3) = false → ((i64.wrap (bits BinOp.and u16 (z.n 0) 7) == 4) = true → True ∧ mkM z [] [mS (1 : Nat), rowB, rowB, rowB] (0 : Nat) = mkM z [] [mS (1 : Nat), rowB, rowB, rowB] (0 : Nat) ∧ (i == 2) = shF (z.n 0) i) ∧ ((i64.wrap (bits BinOp.and u16 (z.n 0) 7) == 4) = false → ((i64.wrap (bits BinOp.and u16 (z.n 0) 7) == 5) = true → True ∧ mkM z [] [mS (1 : Nat), rowB, rowB, rowB] (0 : Nat) = mkM z [] [mS (1 : Nat), rowB, rowB, rowB] (0 : Nat) ∧ (i == 2) = shF (z.n 0) i) ∧ ((i64.wrap (bits BinOp.and u16 (z.n 0) 7) == 5) = false → True ∧ mkM z [] [mS (1 : Nat), rowB, rowB, rowB] (0 : Nat) = mkM z [] [mS (1 : Nat), rowB, rowB, rowB] (0 : Nat) ∧ false = shF (z.n 0) i))))))) ∧ ((bits BinOp.and u16 ((z.n 0).fdiv (2 ^ min (i64.wrap (8 + i)).toNat (16 : Nat))) (1 : Int) != 0) = false → True ∧ mkM z [] [mS (1 : Nat), rowB, rowB, rowB] (0 : Nat) = mkM z [] [mS (1 : Nat), rowB, rowB, rowB] (0 : Nat) ∧ false = shF (z.n 0) i))) := by kernel_rfl
theorem shownR_c (E : World) (i : Int) (z : PX) (hz : rgM z [mS 1, rowB, rowB, rowB] 0) (hp : (fun _ => True) z) : HR (pe E) 13 [.c (.p 0 0), .c (.i false .i64 i)] [mS 1, rowB, rowB, rowB] [] (.c .b) (fun z y => y.b 90000 = shF (z.n 0) i) z := by
  refine HR.mk true (by rfl) (by rfl) (fnTree_sound (P := pe E) orcL_ok tab_ok tab_sz mixed 20000 Try.func13 (by decide) [.c (.p 0 0), .c (.i false .i64 i)] _) ⟨?_⟩
  rw [shownR_p]
  have hR1 : Row [.r .u8 0 255] (z.l 1) := hz.2.1.2
  have hR2 : Row [.r .u8 0 255] (z.l 2) := hz.2.2.1.2
  have hR3 : Row [.r .u8 0 255] (z.l 3) := hz.2.2.2.1.2
  have hF : flat [Sp.r .u8 0 255] = true := rfl
  obtain ⟨r0, r1, r2, r3, r4, r5, r6, r7, r8, r9, r10, r11, r12, r13, r14, r15, r16, r17, r18, r19, r20, r21, r22, r23, r24, r25, v26, v27, v28, _⟩ := hz.1
  replace r0 : 0 ≤ z.n 0 ∧ z.n 0 ≤ 65535 := r0
  generalize z.n 0 = c at *
  have em : IntKind.i64.wrap (bits .and .u16 c 7) = c % 8 := by rw [a7, wi64_in _ (by omega) (by omega)]
  rw [em, ab128 c r0]
  by_cases hi : 0 ≤ i ∧ i ≤ 3
  · rw [pw i hi, fd _ _ (Int.pow_nonneg (by decide)), am1]
    have e1 : decide (i < 0) = false := decide_eq_false (by omega)
    have e2 : decide (i > 3) = false := decide_eq_false (by omega)
    have e3 : 0 ≤ IntKind.i64.wrap (8 + i) := by rw [wi64_in _ (by omega) (by omega)]; omega
    have hm := Int.emod_nonneg (c / 2 ^ (8 + i).toNat) (show (2 : Int) ≠ 0 by decide)
    have hm2 := Int.emod_lt_of_pos (c / 2 ^ (8 + i).toNat) (show (0 : Int) < 2 by decide)
    have key : ∀ b : Bool, (b = true ↔ (c / 128 % 2 = 0 ∧ c / 2 ^ (8 + i).toNat % 2 = 1 ∧ exP c i)) → b = shF c i := fun b hb => shF_iff (hb.trans ⟨fun h => ⟨hi, h⟩, fun h => h.2⟩)
    generalize c / 2 ^ (8 + i).toNat % 2 = q at *
    simp only [e1, e2, cond_false, cond_true, decide_eq_true_eq, decide_eq_false_iff_not, bne_iff_ne, bne_eq_false_iff_eq, beq_iff_eq, beq_eq_false_iff_ne, ne_eq, Bool.not_eq_true', e3]
    unfold exP at key
    repeat' (first | exact trivial | with_reducible rfl | apply And.intro | intro _)
    all_goals (first | omega | (apply key; simp only [Bool.false_eq_true, true_iff, false_iff, decide_eq_true_eq, beq_iff_eq]; omega))
  · have e : (bif bif decide (i < 0) then true else decide (i > 3) then true else decide (c / 128 % 2 = 1)) = true := by
      by_cases h : i < 0
      · rw [decide_eq_true h]; rfl
      · rw [decide_eq_false h, decide_eq_true (show i > 3 by omega)]; rfl
    rw [e]
    refine ⟨fun _ => ⟨trivial, rfl, shF_iff ⟨fun h => by simp at h, fun h => absurd h.1 hi⟩⟩, fun h => by simp at h⟩
noncomputable def orcPR (E : World) : Orc := fun g vs s => match g with
  | 35 => (match frGo [mL, mS 2, rowB, rowB, rowB] vs s (fun vs0 π s1 s0 => match vs0 with
      | [.c (.p 0 0), .c (.i l2 .i64 x)] => some (hrG (pre := fun z => (ROk (z.l 2) (z.n 100026).toNat ∧ ROk (z.l 3) (z.n 100027).toNat) ∧ 2 ≤ z.n 1 ∧ 0 ≤ x ∧ x ≤ 239) (fun z hz hp => HR.args (vs := [.c (.p 0 0), .c (.i l2 .i64 x)]) (by simp [simL, SV.sim, C.sim]) (placeR_c E x z hz hp)) (by rfl) π s1 s0)
      | _ => none) with
    | some t => some t
    | none => (orcTR E) g vs s)
  | 30 => (match frGo [mL, mS 2, rowB, rowB, rowB] vs s (fun vs0 π s1 s0 => match vs0 with
      | [.c (.p 0 0), .c (.i l2 .i64 x)] => some (hrG (pre := fun z => (ROk (z.l 2) (z.n 100026).toNat ∧ ROk (z.l 3) (z.n 100027).toNat) ∧ 0 ≤ x ∧ x ≤ 239) (fun z hz hp => HR.args (vs := [.c (.p 0 0), .c (.i l2 .i64 x)]) (by simp [simL, SV.sim, C.sim]) (textR_c E x z hz hp)) (by rfl) π s1 s0)
      | _ => none) with
    | some t => some t
    | none => (orcTR E) g vs s)
  | 17 => (match frGo [mS 1, rowB, rowB, rowB] vs s (fun vs0 π s1 s0 => match vs0 with
      | [.c (.p 0 0), .c (.i l2 .i64 i)] => some (hrG (pre := fun _ => 0 ≤ i ∧ i ≤ 3) (fun z hz hp => HR.args (vs := [.c (.p 0 0), .c (.i l2 .i64 i)]) (by simp [simL, SV.sim, C.sim]) (blkR_c E i z hz hp)) (by rfl) π s1 s0)
      | _ => none) with
    | some t => some t
    | none => (orcTR E) g vs s)
  | 13 => (match frGo [mS 1, rowB, rowB, rowB] vs s (fun vs0 π s1 s0 => match vs0 with
      | [.c (.p 0 0), .c (.i l2 .i64 i)] => some (hrG (pre := fun _ => True) (fun z hz hp => HR.args (vs := [.c (.p 0 0), .c (.i l2 .i64 i)]) (by simp [simL, SV.sim, C.sim]) (shownR_c E i z hz hp)) (by rfl) π s1 s0)
      | _ => none) with
    | some t => some t
    | none => (orcTR E) g vs s)
  | g => (orcTR E) g vs s
theorem orcPR_ok {E : World} : OrcOK (pe E) (orcPR E) := by
  intro g vs s t h
  unfold orcPR at h
  split at h
  · split at h
    · rename_i hfr; cases h
      obtain ⟨π, s1, hq, hK, hv, hok, hpd⟩ := frGo_spec (P := pe E) hfr
      split at hK
      · rename_i heq; cases hK
        rw [heq] at hv hok
        exact hpd _ _ (hrG_ok _ _ (by rfl) π s1 hq hv hok)
      · cases hK
    · exact orcTR_ok _ _ _ _ h
  · split at h
    · rename_i hfr; cases h
      obtain ⟨π, s1, hq, hK, hv, hok, hpd⟩ := frGo_spec (P := pe E) hfr
      split at hK
      · rename_i heq; cases hK
        rw [heq] at hv hok
        exact hpd _ _ (hrG_ok _ _ (by rfl) π s1 hq hv hok)
      · cases hK
    · exact orcTR_ok _ _ _ _ h
  · split at h
    · rename_i hfr; cases h
      obtain ⟨π, s1, hq, hK, hv, hok, hpd⟩ := frGo_spec (P := pe E) hfr
      split at hK
      · rename_i heq; cases hK
        rw [heq] at hv hok
        exact hpd _ _ (hrG_ok _ _ (by rfl) π s1 hq hv hok)
      · cases hK
    · exact orcTR_ok _ _ _ _ h
  · split at h
    · rename_i hfr; cases h
      obtain ⟨π, s1, hq, hK, hv, hok, hpd⟩ := frGo_spec (P := pe E) hfr
      split at hK
      · rename_i heq; cases hK
        rw [heq] at hv hok
        exact hpd _ _ (hrG_ok _ _ (by rfl) π s1 hq hv hok)
      · cases hK
    · exact orcTR_ok _ _ _ _ h
  · exact orcTR_ok _ _ _ _ h
end Go.Proofs.Ytdomhmajoclpeaa

