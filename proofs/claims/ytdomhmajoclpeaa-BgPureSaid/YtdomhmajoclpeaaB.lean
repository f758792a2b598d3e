import Derived.Test.YtdomhmajoclpeaaH
set_option linter.unusedVariables false
set_option linter.unusedSimpArgs false
namespace Go.Proofs.Ytdomhmajoclpeaa
open Go Go.Proofs Go.Proofs.Ytdomhmajoclpeaa.Ev Go.Proofs.Ytdomhmajoclpeaa.Ev.Ho Go.IntKind
set_option maxRecDepth 100000
noncomputable def rowB : MB := .row [.r .u8 0 255] 5
/-- A memory's bytes: nothing lies outside. -/
noncomputable def bR (l : List C) (n : Nat) (at_ : Int) : Int := if 0 ≤ at_ ∧ at_ < (n : Int) then rI l at_.toNat else 0
noncomputable def bE (E : World) (a : Option Addr) (n : Nat) (at_ : Int) : Int := if 0 ≤ at_ ∧ at_ < (n : Int) then eI E a (at_.toNat * 1 + 0) else 0
noncomputable def halfF (f : Int → Int) (n : Nat) (at_ : Int) : Int := if 0 ≤ at_ ∧ at_ + 1 < (n : Int) then f at_ + 256 * f (at_ + 1) else 0
theorem cor_t {p q : Prop} [Decidable p] [Decidable q] : (bif decide p then true else decide q) = true ↔ p ∨ q := by
  by_cases p <;> simp_all
theorem cor_f {p q : Prop} [Decidable p] [Decidable q] : (bif decide p then true else decide q) = false ↔ ¬p ∧ ¬q := by
  by_cases p <;> simp_all
theorem or8 {a b : Int} (ha : 0 ≤ a ∧ a ≤ 255) (hb : 0 ≤ b ∧ b ≤ 255) : bits .or .u16 (IntKind.u16.wrap a) (IntKind.u16.wrap (IntKind.u16.wrap b * 256)) = a + 256 * b := by
  have e1 : IntKind.u16.wrap a = a := by rw [wu16]; omega
  have e2 : IntKind.u16.wrap (IntKind.u16.wrap b * 256) = b * 256 := by rw [wu16, wu16]; omega
  rw [e1, e2]
  obtain ⟨x, rfl⟩ : ∃ x : Nat, a = x := ⟨a.toNat, by omega⟩
  obtain ⟨y, rfl⟩ : ∃ y : Nat, b = y := ⟨b.toNat, by omega⟩
  have hx : x < 2 ^ 8 := by omega
  have e : ((y : Int) * 256) = ((y * 2 ^ 8 : Nat) : Int) := by omega
  rw [e, bits_or_n .u16 rfl _ _ (by show x < 2 ^ 16; omega) (by show y * 2 ^ 8 < 2 ^ 16; omega), Nat.or_comm, Nat.mul_comm y, ← Nat.two_pow_add_eq_or_of_lt hx]
  omega
structure EOk (E : World) (a : Option Addr) (n : Nat) : Prop where
  r : eRows E a n 1 [.i .u8] = true
  z : a = none → n = 0
  b : n ≤ 1000000000
structure ROk (l : List C) (n : Nat) : Prop where
  r : Row [.r .u8 0 255] l
  z : l.length = n
  b : n ≤ 1000000000
theorem inB_of {x : Int} {n : Nat} (h0 : 0 ≤ x) (h1 : x < n) : inB x n = true := by simp only [inB, Bool.and_eq_true, decide_eq_true_eq]; omega
theorem rR {l : List C} {n : Nat} {x : Int} (h : ROk l n) (h0 : 0 ≤ x) (h1 : x < n) : rI l x.toNat = bR l n x ∧ rOk l x.toNat (EK.i .u8) = true ∧ inB x n = true := by
  have hl := h.z
  refine ⟨by unfold bR; rw [if_pos ⟨h0, h1⟩], h.r.rOk (q := .r .u8 0 255) (by omega) (by simp [Nat.mod_one]) rfl, inB_of h0 h1⟩
theorem gR {l : List C} {n : Nat} (h : ROk l n) (x : Int) : 0 ≤ bR l n x ∧ bR l n x ≤ 255 := by
  have hl := h.z
  unfold bR
  split
  · exact h.r.rg (by omega) (k := .u8) (by simp [Nat.mod_one])
  · decide
theorem rE {E : World} {a : Option Addr} {n : Nat} {x : Int} (h : EOk E a n) (h0 : 0 ≤ x) (h1 : x < n) : eI E a (x.toNat * 1 + 0) = bE E a n x ∧ eRow E a (x.toNat * 1 + 0) [EK.i .u8] = true ∧ inB x n = true ∧ a.isSome = true := by
  refine ⟨by unfold bE; rw [if_pos ⟨h0, h1⟩], ?_, inB_of h0 h1, some_of_lt h.z (j := x.toNat) (by omega)⟩
  exact List.all_eq_true.1 h.r x.toNat (List.mem_range.2 (by omega))
theorem gE {E : World} {a : Option Addr} {n : Nat} (h : EOk E a n) (x : Int) : 0 ≤ bE E a n x ∧ bE E a n x ≤ 255 := by
  by_cases hc : 0 ≤ x ∧ x < n
  · obtain ⟨k1, k2, _, _⟩ := rE h hc.1 hc.2
    have k := bounds_u8 (eOk_int (eRow_get _ _ 0 _ k2 rfl))
    rw [show x.toNat * 1 + 0 + 0 = x.toNat * 1 + 0 by omega, k1] at k
    omega
  · unfold bE; rw [if_neg hc]; decide
theorem halfF_in {f : Int → Int} {n : Nat} {x : Int} (h0 : 0 ≤ x) (h1 : x + 1 < n) : halfF f n x = f x + 256 * f (x + 1) := if_pos ⟨h0, h1⟩
theorem halfF_out {f : Int → Int} {n : Nat} {x : Int} (h : ¬(0 ≤ x ∧ x + 1 < n)) : halfF f n x = 0 := if_neg h
theorem bR_out {l : List C} {n : Nat} {x : Int} (h : ¬(0 ≤ x ∧ x < n)) : bR l n x = 0 := if_neg h
theorem bE_out {E : World} {a : Option Addr} {n : Nat} {x : Int} (h : ¬(0 ≤ x ∧ x < n)) : bE E a n x = 0 := if_neg h
theorem wu8_in (x : Int) (h0 : 0 ≤ x) (h1 : x ≤ 255) : IntKind.u8.wrap x = x := by rw [wu8]; omega
theorem halfR_p (E : World) (z : PX) (n : Nat) (at_ : Int) :
    (hoPr true [rowB] [] (.c (.r .u16 0 65535)) (fun z y => y.n 90000 = halfF (bR (z.l 0) n) n at_) z (fnTree (pe E) (orcNone) (tabL fns) 20000 Try.f37 [.c (.rn 0 1 n), .c (.i false .i64 at_)] (mkM z [] [rowB] 0))) =
    (((bif decide (at_ < 0) then true else decide (at_ > i64.wrap ((↑n : Int) - 2))) = true → (((0 : Int) ≤ (0 : Int) ∧ (0 : Int) ≤ 65535) ∧ True) ∧ mkM z [] [rowB] (0 : Nat) = mkM z [] [rowB] (0 : Nat) ∧ 0 = halfF (bR (z.l 0) n) n at_) ∧ ((bif decide (at_ < 0) then true else decide (at_ > i64.wrap ((↑n : Int) - 2))) = false → inB at_ n = true ∧ inB (i64.wrap (at_ + 1)) n = true ∧ rOk (z.l 0) at_.toNat (EK.i u8) = true ∧ rOk (z.l 0) (i64.wrap (at_ + 1)).toNat (EK.i u8) = true ∧ ((0 ≤ bits BinOp.or u16 (u16.wrap (rI (z.l 0) at_.toNat)) (u16.wrap (u16.wrap (rI (z.l 0) (i64.wrap (at_ + 1)).toNat) * 256)) ∧ bits BinOp.or u16 (u16.wrap (rI (z.l 0) at_.toNat)) (u16.wrap (u16.wrap (rI (z.l 0) (i64.wrap (at_ + 1)).toNat) * 256)) ≤ 65535) ∧ True) ∧ mkM z [] [rowB] (0 : Nat) = mkM z [] [rowB] (0 : Nat) ∧ bits BinOp.or u16 (u16.wrap (rI (z.l 0) at_.toNat)) (u16.wrap (u16.wrap (rI (z.l 0) (i64.wrap (at_ + 1)).toNat) * 256)) = halfF (bR (z.l 0) n) n at_)) := by kernel_rfl
theorem halfR_c (E : World) (n : Nat) (at_ : Int) (z : PX) (hz : rgM z [rowB] 0) (hp : (fun z => ROk (z.l 0) n ∧ -1000000000 ≤ at_ ∧ at_ ≤ 1000000000) z) : HR (pe E) 37 [.c (.rn 0 1 n), .c (.i false .i64 at_)] [rowB] [] (.c (.r .u16 0 65535)) (fun z y => y.n 90000 = halfF (bR (z.l 0) n) n at_) z := by
  refine HR.mk true (by rfl) (by rfl) (fnTree_sound (P := pe E) orcNone_ok tab_ok tab_sz mixed 20000 Try.func37 (by decide) [.c (.rn 0 1 n), .c (.i false .i64 at_)] _) ⟨?_⟩
  rw [halfR_p]
  have hR : Row [.r .u8 0 255] (z.l 0) := hz.1.2
  have hF : flat [Sp.r .u8 0 255] = true := rfl
  obtain ⟨hK, h0, h1⟩ := hp
  replace hK : ROk (z.l 0) n := hK
  have hb := hK.b
  have w1 : IntKind.i64.wrap ((n : Int) - 2) = (n : Int) - 2 := wi64_in _ (by omega) (by omega)
  have w2 : IntKind.i64.wrap (at_ + 1) = at_ + 1 := wi64_in _ (by omega) (by omega)
  simp only [cor_t, cor_f, w1, w2]
  refine ⟨fun h => ?_, fun h => ?_⟩
  · rw [halfF_out (by omega)]
    (repeat' (first | exact trivial | rfl | with_reducible assumption | apply And.intro)) <;> (first | omega | done)
  · obtain ⟨k1, k2, k3⟩ := rR hK (x := at_) (by omega) (by omega)
    obtain ⟨l1, l2, l3⟩ := rR hK (x := at_ + 1) (by omega) (by omega)
    have g1 := gR hK at_
    have g2 := gR hK (at_ + 1)
    rw [halfF_in (by omega) (by omega), k1, l1]
    rw [or8 g1 g2]
    (repeat' (first | exact trivial | rfl | with_reducible assumption | apply And.intro)) <;> (first | omega | done)

theorem singleR_p (E : World) (z : PX) (n : Nat) (at_ : Int) :
    (hoPr true [rowB] [] (.c (.r .u8 0 255)) (fun z y => y.n 90000 = (bR (z.l 0) n) at_) z (fnTree (pe E) (orcNone) (tabL fns) 20000 Try.f39 [.c (.rn 0 1 n), .c (.i false .i64 at_)] (mkM z [] [rowB] 0))) =
    (((bif decide (at_ < 0) then true else decide (at_ ≥ (↑n : Int))) = true → (((0 : Int) ≤ (0 : Int) ∧ (0 : Int) ≤ 255) ∧ True) ∧ mkM z [] [rowB] (0 : Nat) = mkM z [] [rowB] (0 : Nat) ∧ 0 = bR (z.l 0) n at_) ∧ ((bif decide (at_ < 0) then true else decide (at_ ≥ (↑n : Int))) = false → inB at_ n = true ∧ rOk (z.l 0) at_.toNat (EK.i u8) = true ∧ ((0 ≤ rI (z.l 0) at_.toNat ∧ rI (z.l 0) at_.toNat ≤ 255) ∧ True) ∧ mkM z [] [rowB] (0 : Nat) = mkM z [] [rowB] (0 : Nat) ∧ rI (z.l 0) at_.toNat = bR (z.l 0) n at_)) := by kernel_rfl
theorem singleR_c (E : World) (n : Nat) (at_ : Int) (z : PX) (hz : rgM z [rowB] 0) (hp : (fun z => ROk (z.l 0) n ∧ -1000000000 ≤ at_ ∧ at_ ≤ 1000000000) z) : HR (pe E) 39 [.c (.rn 0 1 n), .c (.i false .i64 at_)] [rowB] [] (.c (.r .u8 0 255)) (fun z y => y.n 90000 = (bR (z.l 0) n) at_) z := by
  refine HR.mk true (by rfl) (by rfl) (fnTree_sound (P := pe E) orcNone_ok tab_ok tab_sz mixed 20000 Try.func39 (by decide) [.c (.rn 0 1 n), .c (.i false .i64 at_)] _) ⟨?_⟩
  rw [singleR_p]
  have hR : Row [.r .u8 0 255] (z.l 0) := hz.1.2
  have hF : flat [Sp.r .u8 0 255] = true := rfl
  obtain ⟨hK, h0, h1⟩ := hp
  replace hK : ROk (z.l 0) n := hK
  have hb := hK.b
  simp only [cor_t, cor_f]
  refine ⟨fun h => ?_, fun h => ?_⟩
  · rw [bR_out (by omega)]
    (repeat' (first | exact trivial | rfl | with_reducible assumption | apply And.intro)) <;> (first | omega | done)
  · obtain ⟨k1, k2, k3⟩ := rR hK (x := at_) (by omega) (by omega)
    have g1 := gR hK at_
    rw [k1]
    
    (repeat' (first | exact trivial | rfl | with_reducible assumption | apply And.intro)) <;> (first | omega | done)

theorem HalfR_p (E : World) (z : PX) (n : Nat) (at_ : Int) :
    (hoPr true [rowB] [] (.c (.r .i64 0 65535)) (fun z y => y.n 90000 = halfF (bR (z.l 0) n) n at_) z (fnTree (pe E) (orcNone) (tabL fns) 20000 Try.f31 [.c (.rn 0 1 n), .c (.i false .i64 at_)] (mkM z [] [rowB] 0))) =
    (((bif decide (at_ < 0) then true else decide (i64.wrap (at_ + 1) ≥ (↑n : Int))) = true → (((0 : Int) ≤ (0 : Int) ∧ (0 : Int) ≤ 65535) ∧ True) ∧ mkM z [] [rowB] (0 : Nat) = mkM z [] [rowB] (0 : Nat) ∧ 0 = halfF (bR (z.l 0) n) n at_) ∧ ((bif decide (at_ < 0) then true else decide (i64.wrap (at_ + 1) ≥ (↑n : Int))) = false → inB at_ n = true ∧ inB (i64.wrap (at_ + 1)) n = true ∧ rOk (z.l 0) at_.toNat (EK.i u8) = true ∧ rOk (z.l 0) (i64.wrap (at_ + 1)).toNat (EK.i u8) = true ∧ ((0 ≤ i64.wrap (i64.wrap (rI (z.l 0) at_.toNat) + i64.wrap (256 * i64.wrap (rI (z.l 0) (i64.wrap (at_ + 1)).toNat))) ∧ i64.wrap (i64.wrap (rI (z.l 0) at_.toNat) + i64.wrap (256 * i64.wrap (rI (z.l 0) (i64.wrap (at_ + 1)).toNat))) ≤ 65535) ∧ True) ∧ mkM z [] [rowB] (0 : Nat) = mkM z [] [rowB] (0 : Nat) ∧ i64.wrap (i64.wrap (rI (z.l 0) at_.toNat) + i64.wrap (256 * i64.wrap (rI (z.l 0) (i64.wrap (at_ + 1)).toNat))) = halfF (bR (z.l 0) n) n at_)) := by kernel_rfl
theorem HalfR_c (E : World) (n : Nat) (at_ : Int) (z : PX) (hz : rgM z [rowB] 0) (hp : (fun z => ROk (z.l 0) n ∧ -1000000000 ≤ at_ ∧ at_ ≤ 1000000000) z) : HR (pe E) 31 [.c (.rn 0 1 n), .c (.i false .i64 at_)] [rowB] [] (.c (.r .i64 0 65535)) (fun z y => y.n 90000 = halfF (bR (z.l 0) n) n at_) z := by
  refine HR.mk true (by rfl) (by rfl) (fnTree_sound (P := pe E) orcNone_ok tab_ok tab_sz mixed 20000 Try.func31 (by decide) [.c (.rn 0 1 n), .c (.i false .i64 at_)] _) ⟨?_⟩
  rw [HalfR_p]
  have hR : Row [.r .u8 0 255] (z.l 0) := hz.1.2
  have hF : flat [Sp.r .u8 0 255] = true := rfl
  obtain ⟨hK, h0, h1⟩ := hp
  replace hK : ROk (z.l 0) n := hK
  have hb := hK.b
  have w1 : (0 : Int) = 0 := rfl
  have w2 : IntKind.i64.wrap (at_ + 1) = at_ + 1 := wi64_in _ (by omega) (by omega)
  simp only [cor_t, cor_f, w2]
  refine ⟨fun h => ?_, fun h => ?_⟩
  · rw [halfF_out (by omega)]
    (repeat' (first | exact trivial | rfl | with_reducible assumption | apply And.intro)) <;> (first | omega | done)
  · obtain ⟨k1, k2, k3⟩ := rR hK (x := at_) (by omega) (by omega)
    obtain ⟨l1, l2, l3⟩ := rR hK (x := at_ + 1) (by omega) (by omega)
    have g1 := gR hK at_
    have g2 := gR hK (at_ + 1)
    rw [halfF_in (by omega) (by omega), k1, l1]
    rw [wi64_in ((bR (z.l 0) n) at_) (by omega) (by omega), wi64_in ((bR (z.l 0) n) (at_ + 1)) (by omega) (by omega), wi64_in (256 * (bR (z.l 0) n) (at_ + 1)) (by omega) (by omega), wi64_in ((bR (z.l 0) n) at_ + 256 * (bR (z.l 0) n) (at_ + 1)) (by omega) (by omega)]
    (repeat' (first | exact trivial | rfl | with_reducible assumption | apply And.intro)) <;> (first | omega | done)

theorem ByteR_p (E : World) (z : PX) (n : Nat) (at_ : Int) :
    (hoPr true [rowB] [] (.c (.r .i64 0 255)) (fun z y => y.n 90000 = (bR (z.l 0) n) at_) z (fnTree (pe E) (orcNone) (tabL fns) 20000 Try.f33 [.c (.rn 0 1 n), .c (.i false .i64 at_)] (mkM z [] [rowB] 0))) =
    (((bif decide (at_ < 0) then true else decide (at_ ≥ (↑n : Int))) = true → (((0 : Int) ≤ (0 : Int) ∧ (0 : Int) ≤ 255) ∧ True) ∧ mkM z [] [rowB] (0 : Nat) = mkM z [] [rowB] (0 : Nat) ∧ 0 = bR (z.l 0) n at_) ∧ ((bif decide (at_ < 0) then true else decide (at_ ≥ (↑n : Int))) = false → inB at_ n = true ∧ rOk (z.l 0) at_.toNat (EK.i u8) = true ∧ ((0 ≤ i64.wrap (rI (z.l 0) at_.toNat) ∧ i64.wrap (rI (z.l 0) at_.toNat) ≤ 255) ∧ True) ∧ mkM z [] [rowB] (0 : Nat) = mkM z [] [rowB] (0 : Nat) ∧ i64.wrap (rI (z.l 0) at_.toNat) = bR (z.l 0) n at_)) := by kernel_rfl
theorem ByteR_c (E : World) (n : Nat) (at_ : Int) (z : PX) (hz : rgM z [rowB] 0) (hp : (fun z => ROk (z.l 0) n ∧ -1000000000 ≤ at_ ∧ at_ ≤ 1000000000) z) : HR (pe E) 33 [.c (.rn 0 1 n), .c (.i false .i64 at_)] [rowB] [] (.c (.r .i64 0 255)) (fun z y => y.n 90000 = (bR (z.l 0) n) at_) z := by
  refine HR.mk true (by rfl) (by rfl) (fnTree_sound (P := pe E) orcNone_ok tab_ok tab_sz mixed 20000 Try.func33 (by decide) [.c (.rn 0 1 n), .c (.i false .i64 at_)] _) ⟨?_⟩
  rw [ByteR_p]
  have hR : Row [.r .u8 0 255] (z.l 0) := hz.1.2
  have hF : flat [Sp.r .u8 0 255] = true := rfl
  obtain ⟨hK, h0, h1⟩ := hp
  replace hK : ROk (z.l 0) n := hK
  have hb := hK.b
  simp only [cor_t, cor_f]
  refine ⟨fun h => ?_, fun h => ?_⟩
  · rw [bR_out (by omega)]
    (repeat' (first | exact trivial | rfl | with_reducible assumption | apply And.intro)) <;> (first | omega | done)
  · obtain ⟨k1, k2, k3⟩ := rR hK (x := at_) (by omega) (by omega)
    have g1 := gR hK at_
    rw [k1]
    rw [wi64_in ((bR (z.l 0) n) at_) (by omega) (by omega)]
    (repeat' (first | exact trivial | rfl | with_reducible assumption | apply And.intro)) <;> (first | omega | done)

noncomputable def orcL (E : World) : Orc := fun g vs s => match g with
  | 37 => (match frGo [rowB] vs s (fun vs0 π s1 s0 => match vs0 with
      | [.c (.rn 0 1 n), .c (.i l2 .i64 at_)] => some (hrG (pre := fun z => ROk (z.l 0) n ∧ -1000000000 ≤ at_ ∧ at_ ≤ 1000000000) (fun z hz hp => HR.args (vs := [.c (.rn 0 1 n), .c (.i l2 .i64 at_)]) (by simp [simL, SV.sim, C.sim]) (halfR_c E n at_ z hz hp)) (by rfl) π s1 s0)
      | _ => none) with
    | some t => some t
    | none => orcNone g vs s)
  | 39 => (match frGo [rowB] vs s (fun vs0 π s1 s0 => match vs0 with
      | [.c (.rn 0 1 n), .c (.i l2 .i64 at_)] => some (hrG (pre := fun z => ROk (z.l 0) n ∧ -1000000000 ≤ at_ ∧ at_ ≤ 1000000000) (fun z hz hp => HR.args (vs := [.c (.rn 0 1 n), .c (.i l2 .i64 at_)]) (by simp [simL, SV.sim, C.sim]) (singleR_c E n at_ z hz hp)) (by rfl) π s1 s0)
      | _ => none) with
    | some t => some t
    | none => orcNone g vs s)
  | 31 => (match frGo [rowB] vs s (fun vs0 π s1 s0 => match vs0 with
      | [.c (.rn 0 1 n), .c (.i l2 .i64 at_)] => some (hrG (pre := fun z => ROk (z.l 0) n ∧ -1000000000 ≤ at_ ∧ at_ ≤ 1000000000) (fun z hz hp => HR.args (vs := [.c (.rn 0 1 n), .c (.i l2 .i64 at_)]) (by simp [simL, SV.sim, C.sim]) (HalfR_c E n at_ z hz hp)) (by rfl) π s1 s0)
      | _ => none) with
    | some t => some t
    | none => orcNone g vs s)
  | 33 => (match frGo [rowB] vs s (fun vs0 π s1 s0 => match vs0 with
      | [.c (.rn 0 1 n), .c (.i l2 .i64 at_)] => some (hrG (pre := fun z => ROk (z.l 0) n ∧ -1000000000 ≤ at_ ∧ at_ ≤ 1000000000) (fun z hz hp => HR.args (vs := [.c (.rn 0 1 n), .c (.i l2 .i64 at_)]) (by simp [simL, SV.sim, C.sim]) (ByteR_c E n at_ z hz hp)) (by rfl) π s1 s0)
      | _ => none) with
    | some t => some t
    | none => orcNone g vs s)
  | g => orcNone g vs s
theorem orcL_ok {E : World} : OrcOK (pe E) (orcL E) := by
  intro g vs s t h
  unfold orcL at h
  split at h
  · split at h
    · rename_i hfr; cases h
      obtain ⟨π, s1, hq, hK, hv, hok, hpd⟩ := frGo_spec (P := pe E) hfr
      split at hK
      · rename_i heq; cases hK
        rw [heq] at hv hok
        exact hpd _ _ (hrG_ok _ _ (by rfl) π s1 hq hv hok)
      · cases hK
    · exact orcNone_ok _ _ _ _ h
  · split at h
    · rename_i hfr; cases h
      obtain ⟨π, s1, hq, hK, hv, hok, hpd⟩ := frGo_spec (P := pe E) hfr
      split at hK
      · rename_i heq; cases hK
        rw [heq] at hv hok
        exact hpd _ _ (hrG_ok _ _ (by rfl) π s1 hq hv hok)
      · cases hK
    · exact orcNone_ok _ _ _ _ h
  · split at h
    · rename_i hfr; cases h
      obtain ⟨π, s1, hq, hK, hv, hok, hpd⟩ := frGo_spec (P := pe E) hfr
      split at hK
      · rename_i heq; cases hK
        rw [heq] at hv hok
        exact hpd _ _ (hrG_ok _ _ (by rfl) π s1 hq hv hok)
      · cases hK
    · exact orcNone_ok _ _ _ _ h
  · split at h
    · rename_i hfr; cases h
      obtain ⟨π, s1, hq, hK, hv, hok, hpd⟩ := frGo_spec (P := pe E) hfr
      split at hK
      · rename_i heq; cases hK
        rw [heq] at hv hok
        exact hpd _ _ (hrG_ok _ _ (by rfl) π s1 hq hv hok)
      · cases hK
    · exact orcNone_ok _ _ _ _ h
  · exact orcNone_ok _ _ _ _ h
end Go.Proofs.Ytdomhmajoclpeaa

