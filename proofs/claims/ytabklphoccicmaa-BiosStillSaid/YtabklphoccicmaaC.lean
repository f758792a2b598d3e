import Derived.Test.YtabklphoccicmaaB
set_option linter.unusedVariables false
set_option linter.unusedSimpArgs false
namespace Go.Proofs.Ytabklphoccicmaa
open Go Go.Proofs Go.Proofs.Ytabklphoccicmaa.Ev
theorem sine_h (E : World) (n : Int) : conP (.c (.i false .i64 (sn n))) (fnTree (pe E) (orcB E) (tabL fns) 20000 Try.f19 [.c (.i false .i64 n)] []) := by
  rw [sine_p, and8]
  refine ⟨fun h => ⟨?_, rfl, ?_⟩, fun h => ⟨rfl, ?_⟩⟩
  · rw [decide_eq_true_eq] at h
    rw [wi64_in (n % 256 - 128) (by omega) (by omega), low7_iff]; omega
  · rw [decide_eq_true_eq] at h
    rw [sn, if_neg (by omega), wi64_in (n % 256 - 128) (by omega) (by omega)]
  · rw [decide_eq_false_iff_not] at h
    rw [sn, if_pos (by omega)]; rfl
theorem i32b_iff (n : Int) : i32b n = true ↔ -2147483648 ≤ n ∧ n < 2147483648 := by simp [i32b]
theorem nz_of (x : Int) (h : i32b x = true) (hx : ¬ x = 0) : nz x = true := by
  rw [i32b_iff] at h
  unfold nz
  rw [wi64_in x (by omega) (by omega)]
  simpa using hx
set_option maxHeartbeats 2000000 in
theorem a2_h (E : World) (x y : Int) (hx : i32b x = true) (hy : i32b y = true) : conP (.c (.i false .u16 (at2 x y))) (fnTree (pe E) (orcB E) (tabL fns) 20000 Try.f17 [.c (.i false .i32 x), .c (.i false .i32 y)] []) := by
  have nx := nz_of x hx
  have ny := nz_of y hy
  clear hx hy
  rw [a2_p]
  repeat' (first | apply And.intro | intro _)
  all_goals (try rfl)
  all_goals (simp only [beq_iff_eq, beq_eq_false_iff_ne, decide_eq_true_eq, decide_eq_false_iff_not, ne_eq] at *)
  all_goals first | exact nx (by omega) | exact ny (by omega) | (clear nx ny; unfold at2; (repeat' split) <;> first | rfl | omega)
set_option maxHeartbeats 2000000 in
theorem ra2_h (E : World) (x y : Int) (hx : i32b x = true) (hy : i32b y = true) : conP (.c (.i false .u16 (at2 x y))) (fnTree (pe E) (orcB E) (tabL fns) 20000 Try.f18 [.c (.i false .i32 x), .c (.i false .i32 y)] []) := by
  have nx := nz_of x hx
  have ny := nz_of y hy
  clear hx hy
  rw [ra2_p]
  repeat' (first | apply And.intro | intro _)
  all_goals (try rfl)
  all_goals (simp only [beq_iff_eq, beq_eq_false_iff_ne, decide_eq_true_eq, decide_eq_false_iff_not, ne_eq] at *)
  all_goals first | exact nx (by omega) | exact ny (by omega) | (clear nx ny; unfold at2; (repeat' split) <;> first | rfl | omega)
theorem pk_pos (k : Nat) : 1 ≤ pk k := by
  have := Nat.two_pow_pos k
  unfold pk; omega
theorem pk_succ (k : Nat) : pk (k + 1) = pk k + pk k := by unfold pk; rw [Nat.pow_succ]; omega
theorem rb_spec : ∀ (k : Nat) (r x : Int), 0 ≤ r → r * r ≤ x → x < (r + pk k) * (r + pk k) → 0 ≤ rb k r x ∧ rb k r x * rb k r x ≤ x ∧ x < (rb k r x + 1) * (rb k r x + 1)
  | 0, r, x, h0, h1, h2 => ⟨h0, h1, h2⟩
  | k + 1, r, x, h0, h1, h2 => by
    have hp := pk_pos k
    rw [pk_succ, ← Int.add_assoc] at h2
    unfold rb
    split
    · rename_i h; exact rb_spec k _ x (by omega) h h2
    · rename_i h; exact rb_spec k r x h0 h1 (by omega)
theorem rt_spec (x : Int) (h0 : 0 ≤ x) (h1 : x < 4294967296) : 0 ≤ rt x ∧ rt x * rt x ≤ x ∧ x < (rt x + 1) * (rt x + 1) :=
  rb_spec 16 0 x (Int.le_refl _) (by omega) (by show x < (0 + 65536) * (0 + 65536); omega)
theorem sq_lt (r s x : Int) (h0 : 0 ≤ r) (h1 : r < s) (h2 : x < (r + 1) * (r + 1)) : x < s * s :=
  Int.lt_of_lt_of_le h2 (Int.mul_le_mul (by omega) (by omega) (by omega) (by omega))
theorem rt_eq (r x : Int) (h0 : 0 ≤ x) (h1 : x < 4294967296) (r0 : 0 ≤ r) (r1 : r * r ≤ x) (r2 : x < (r + 1) * (r + 1)) : r = rt x := by
  obtain ⟨s0, s1, s2⟩ := rt_spec x h0 h1
  rcases Int.lt_trichotomy r (rt x) with h | h | h
  · have := sq_lt r (rt x) x r0 h r2; omega
  · exact h
  · have := sq_lt (rt x) r x s0 h s2; omega
theorem or_next (k q : Nat) (r : Int) (hr : r = ((2 ^ (k + 1) * q : Nat) : Int)) (h : r + pk k < 65536) : bits .or .u32 r (pk k) = r + pk k := by
  have hp := pk_pos k
  have h1 : 2 ^ (k + 1) * q + 2 ^ k < 65536 := by unfold pk at h; omega
  unfold pk; rw [hr]
  rw [bits_or_n .u32 rfl (2 ^ (k + 1) * q) (2 ^ k) (by show _ < 4294967296; omega) (by show _ < 4294967296; omega)]
  rw [← Nat.two_pow_add_eq_or_of_lt (i := k + 1) (Nat.pow_lt_pow_right (by decide) (by omega)) q]
  rw [Int.natCast_add]
theorem sq_c (E : World) (l1 : Bool) (y : Int) (s : SW) (h : u32b y = true) : CallTree (pe E) 13 [.c (.i l1 .u32 y)] s (.leaf (.c (.i false .u32 (rt y)), s)) := by
  refine CallTree.args (vs' := [.c (.i false .u32 y)]) ⟨rfl, rfl⟩ ?_
  refine pure_contract_loop (by simp [SV.ok, C.ok]) rfl (fun W hE => ?_) s
  rw [u32b_iff] at h
  refine calls_loopT (c := c13) (P := pe E) orcNone_ok tab_ok tab_sz mixed Try.func13 rfl (by decide) (vs := [.c (.i false .u32 y)]) (s := []) (Nat.le_of_ble_eq_true rfl) 20000 1606938044258990275541962092341162602522202993782792835301375 (hh13 E y) (mu13 E y) (fun _ => hd13 E) (lv13 E y) (sv13 E y) (fun _ => rfl) (fun x hx => ⟨rfl, rfl, Nat.le_of_ble_eq_true rfl⟩)
    (fun v _ => SV.sim v (.c (.i false .u32 (rt y)))) ?_ ?_ W 0 _ W (Inv.start hE) (by simp [SV.ok, C.ok, okL])
  · rw [sq_pro]
    exact ⟨(16, 0), ⟨by decide, by decide, by decide, ⟨0, rfl⟩, by omega, by show y < (0 + 65536) * (0 + 65536); omega⟩, rfl, rfl, ⟨⟨rfl, rfl⟩, ⟨rfl, rfl⟩, rfl, rfl⟩, trivial⟩
  · intro j hj
    rw [sq_round]
    obtain ⟨k, r⟩ := j
    obtain ⟨hk, r0, r1, ⟨q, hq⟩, r2, r3⟩ : sqI y k r := hj
    cases k with
    | zero =>
      refine ⟨fun h' => ?_, fun _ => ⟨rfl, rt_eq r y h.1 h.2 r0 r2 r3⟩⟩
      exact absurd (of_decide_eq_true h') (by show ¬ ((0 : Int) > 0); decide)
    | succ k =>
      have hp := pk_pos k
      have hs := pk_succ k
      have ho := or_next k q r hq (by omega)
      have hw : IntKind.u32.wrap ((r + pk k) * (r + pk k)) = (r + pk k) * (r + pk k) := by
        have a1 : (r + pk k) * (r + pk k) ≤ 65535 * 65535 := Int.mul_le_mul (by omega) (by omega) (by omega) (by omega)
        have a0 : 0 ≤ (r + pk k) * (r + pk k) := Int.mul_nonneg (by omega) (by omega)
        exact wu32_in _ a0 (by omega)
      have hb : (bt (k + 1)).fdiv 2 = bt k := by
        rw [fdiv_lit _ _ (by decide)]
        cases k with
        | zero => rfl
        | succ m => show pk (m + 1) / 2 = pk m; rw [pk_succ]; omega
      rw [hs, ← Int.add_assoc] at r3
      have e2 : (2 ^ (k + 1) * q : Nat) = 2 ^ k * (2 * q) := by rw [Nat.pow_succ, Nat.mul_assoc]
      refine ⟨fun _ => ⟨fun h2 => ?_, fun h2 => ?_⟩, fun h' => ?_⟩
      · have h2 := of_decide_eq_true h2
        simp only [show bt (k + 1) = pk k from rfl, ho, hw] at h2
        refine ⟨(k, r + pk k), ⟨by omega, by show 0 ≤ r + pk k; omega, by show r + pk k + pk k ≤ 65536; omega, ⟨2 * q + 1, ?_⟩, h2, r3⟩, Nat.lt_succ_self k, rfl, rfl, ⟨⟨rfl, rfl⟩, ⟨rfl, ho⟩, rfl, hb⟩, trivial⟩
        show r + pk k = ((2 ^ k * (2 * q + 1) : Nat) : Int)
        rw [hq, e2, Nat.mul_add, Nat.mul_one]; unfold pk; rw [Int.natCast_add]
      · have h2 := of_decide_eq_false h2
        simp only [show bt (k + 1) = pk k from rfl, ho, hw] at h2
        exact ⟨(k, r), ⟨by omega, r0, by show r + pk k ≤ 65536; omega, ⟨2 * q, by rw [← e2]; exact hq⟩, r2, by show y < (r + pk k) * (r + pk k); omega⟩, Nat.lt_succ_self k, rfl, rfl, ⟨⟨rfl, rfl⟩, ⟨rfl, rfl⟩, rfl, hb⟩, trivial⟩
      · have h' := of_decide_eq_false h'
        exact absurd (show bt (k + 1) > 0 from by show pk k > 0; omega) h'
theorem rsq_c (E : World) (l1 : Bool) (y : Int) (s : SW) (h : u32b y = true) : CallTree (pe E) 14 [.c (.i l1 .u32 y)] s (.leaf (.c (.i false .u32 (rt y)), s)) := by
  refine CallTree.args (vs' := [.c (.i false .u32 y)]) ⟨rfl, rfl⟩ ?_
  refine pure_contract_loop (by simp [SV.ok, C.ok]) rfl (fun W hE => ?_) s
  rw [u32b_iff] at h
  refine calls_loopT (c := c14) (P := pe E) orcNone_ok tab_ok tab_sz mixed Try.func14 rfl (by decide) (vs := [.c (.i false .u32 y)]) (s := []) (Nat.le_of_ble_eq_true rfl) 20000 1606938044258990275541962092341162602522202993782792835301375 (hh14 E y) (mu14 E y) (fun _ => hd14 E) (lv14 E y) (sv14 E y) (fun _ => rfl) (fun x hx => ⟨rfl, rfl, Nat.le_of_ble_eq_true rfl⟩)
    (fun v _ => SV.sim v (.c (.i false .u32 (rt y)))) ?_ ?_ W 0 _ W (Inv.start hE) (by simp [SV.ok, C.ok, okL])
  · rw [rsq_pro]
    exact ⟨(0, 65536), ⟨by decide, by decide, by decide, by omega, by omega⟩, rfl, rfl, ⟨⟨rfl, rfl⟩, ⟨rfl, rfl⟩, rfl, rfl⟩, trivial⟩
  · intro j hj
    rw [rsq_round]
    obtain ⟨a, b⟩ := j
    obtain ⟨a0, ab, b1, a2, b2⟩ : 0 ≤ a ∧ a < b ∧ b ≤ 65536 ∧ a * a ≤ y ∧ y < b * b := hj
    have e1 : IntKind.u64.wrap (b - a) = b - a := wu64_in _ (by omega) (by omega)
    have e2 : IntKind.u64.wrap ((IntKind.u64.wrap (a + b)).tdiv 2) = (a + b) / 2 := by
      rw [wu64_in (a + b) (by omega) (by omega), tdiv_n _ _ (by omega), wu64_in _ (by omega) (by omega)]
    have e4 : IntKind.u64.wrap y = y := wu64_in _ (by omega) (by omega)
    have m0 : 0 ≤ (a + b) / 2 := by omega
    have m1 : (a + b) / 2 ≤ 65536 := by omega
    have e3 : IntKind.u64.wrap ((a + b) / 2 * ((a + b) / 2)) = (a + b) / 2 * ((a + b) / 2) := by
      generalize (a + b) / 2 = m at *
      have a1 : m * m ≤ 65536 * 65536 := Int.mul_le_mul m1 m1 m0 (by omega)
      have a0 : 0 ≤ m * m := Int.mul_nonneg m0 m0
      exact wu64_in _ a0 (by omega)
    refine ⟨fun h1 => ⟨fun h2 => ?_, fun h2 => ?_⟩, fun h1 => ?_⟩
    · have h1 := of_decide_eq_true h1
      have h2 := of_decide_eq_true h2
      simp only [e1, e2, e3, e4] at h1 h2
      exact ⟨((a + b) / 2, b), ⟨m0, by show (a + b) / 2 < b; omega, b1, h2, b2⟩, by show (b - (a + b) / 2).toNat < (b - a).toNat; omega, rfl, rfl, ⟨⟨rfl, rfl⟩, ⟨rfl, e2⟩, rfl, rfl⟩, trivial⟩
    · have h1 := of_decide_eq_true h1
      have h2 := of_decide_eq_false h2
      simp only [e1, e2, e3, e4] at h1 h2
      exact ⟨(a, (a + b) / 2), ⟨a0, by show a < (a + b) / 2; omega, m1, a2, by show y < (a + b) / 2 * ((a + b) / 2); omega⟩, by show ((a + b) / 2 - a).toNat < (b - a).toNat; omega, rfl, rfl, ⟨⟨rfl, rfl⟩, ⟨rfl, rfl⟩, rfl, e2⟩, trivial⟩
    · have h1 := of_decide_eq_false h1
      simp only [e1] at h1
      have hb : b = a + 1 := by omega
      subst hb
      refine ⟨rfl, ?_⟩
      rw [wu32_in a (by omega) (by omega)]
      exact rt_eq a y h.1 h.2 a0 a2 b2
end Go.Proofs.Ytabklphoccicmaa

