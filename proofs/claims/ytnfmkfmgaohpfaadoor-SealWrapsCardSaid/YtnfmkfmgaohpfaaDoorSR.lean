import Derived.Test.YtnfmkfmgaohpfaaDoorSI
set_option linter.unusedVariables false
set_option linter.unusedSimpArgs false
namespace Go.Proofs.YtnfmkfmgaohpfaaDoor
open Go Go.Proofs Go.Proofs.YtnfmkfmgaohpfaaDoor.Ev Go.Proofs.YtnfmkfmgaohpfaaDoor.Ev.Ho
set_option maxRecDepth 100000
theorem size0 {d : ByteArray} : d = ByteArray.mk #[] ↔ d.size = 0 := by
  constructor
  · rintro rfl; rfl
  · intro h
    refine txt_ext ?_
    rw [size_txt] at h
    rw [List.length_eq_zero_iff.1 h]; rfl
theorem aFT {a b : ByteArray} : ((false ^^ a == b) = true) ↔ a = b := by
  rw [← beqE]; cases (a == b) <;> simp
theorem aFF {a b : ByteArray} : ((false ^^ a == b) = false) ↔ a ≠ b := by
  rw [Ne, ← beqE]; cases (a == b) <;> simp
theorem rt_p (E : World) (z : PX) (k a : Int) (d : ByteArray) :
    (hdP ([] : List MB).length [] (.c .b) (fun z y => y.b 90000 = vlF k a d) z (fnTree (pe E) (orcB E) (tabL fns) 20000 Tryd.f33 [.a [.i false .i64 k, .i false .i64 a, .str false d]] (mkM z [] [] 0))) =
    ((decide (a < (0 : Int)) = true → ([] : SW) = [] ∧ True ∧ false = vlF k a d) ∧ (decide (a < (0 : Int)) = false → (decide (a > (131071 : Int)) = true → ([] : SW) = [] ∧ True
      ∧ false = vlF k a d) ∧ (decide (a > (131071 : Int)) = false → ((k == (1 : Int)) = true → (decide ((↑d.size : Int) > (0 : Int)) = true → ([] : SW) = [] ∧ True ∧ decide
      ((↑d.size : Int) < (9 : Int)) = vlF k a d) ∧ (decide ((↑d.size : Int) > (0 : Int)) = false → ([] : SW) = [] ∧ True ∧ false = vlF k a d)) ∧ ((k == (1 : Int)) = false → ((k
      == (2 : Int)) = true → ((false ^^ d == ByteArray.mk #[]) = true → ([] : SW) = [] ∧ True ∧ (a.tmod (4096 : Int) == (0 : Int)) = vlF k a d) ∧ ((false ^^ d == ByteArray.mk
      #[]) = false → ([] : SW) = [] ∧ True ∧ false = vlF k a d)) ∧ ((k == (2 : Int)) = false → ((k == (3 : Int)) = true → ((false ^^ d == ByteArray.mk #[]) = true → ([] : SW) =
      [] ∧ True ∧ (a == (0 : Int)) = vlF k a d) ∧ ((false ^^ d == ByteArray.mk #[]) = false → ([] : SW) = [] ∧ True ∧ false = vlF k a d)) ∧ ((k == (3 : Int)) = false → ([] : SW)
      = [] ∧ True ∧ false = vlF k a d)))))) := by kernel_rfl
theorem rt_c (E : World) (k a : Int) (d : ByteArray) (z : PX) (hz : rgM z [] 0) (hp : (fun _ => True) z) : HD (pe E) 33 [.a [.i false .i64 k, .i false .i64 a, .str false d]] [] [] (.c .b) (fun z y => y.b 90000 = vlF k a d) z := by
  refine HD.mk (by rfl) (fnTree_sound (P := pe E) orcB_ok tab_ok tab_sz mixed 20000 Tryd.func33 (by decide) [.a [.i false .i64 k, .i false .i64 a, .str false d]] _) ⟨?_⟩
  rw [rt_p]
  have et : 0 ≤ a → a.tmod 4096 = a % 4096 := fun h => Int.tmod_eq_emod_of_nonneg h
  simp only [aFT, aFF, size0, ne_eq, decide_eq_true_eq, decide_eq_false_iff_not, beq_iff_eq, beq_eq_false_iff_ne]
  have key : ∀ b : Bool, (b = true ↔ vlF k a d = true) → b = vlF k a d := fun b h => Bool.eq_iff_iff.2 h
  have V : (vlF k a d = true) ↔ ((0 ≤ a ∧ a ≤ 131071) ∧ ((k = 1 ∧ 1 ≤ d.size ∧ d.size ≤ 8) ∨ (k = 2 ∧ a % 4096 = 0 ∧ d.size = 0) ∨ (k = 3 ∧ a = 0 ∧ d.size = 0))) := by
    simp only [vlF, Bool.and_eq_true, Bool.or_eq_true, decide_eq_true_eq, or_assoc]
  (repeat' (first | intro h | apply And.intro)) <;> (first | exact rfl | exact trivial | (refine key _ ?_; rw [V]; simp only [decide_eq_true_eq, beq_iff_eq, Bool.false_eq_true, false_iff]; first | omega | (rw [et (by omega)]; omega)))
theorem fo_p (E : World) (z : PX) (n : Int) :
    (hdP ([] : List MB).length [] (.c .s) (fun z y => y.s 90000 = wdT n) z (fnTree (pe E) (orcB E) (tabL fns) 20000 Tryd.f28 [.c (.i false .u32 n)] (mkM z [] [] 0))) =
    (([] : SW) = [] ∧ True ∧ bytesN [IntKind.u8.wrap (n.tmod (256 : Int)), IntKind.u8.wrap ((IntKind.u32.wrap (n.tdiv (256 : Int))).tmod (256 : Int)), IntKind.u8.wrap
      ((IntKind.u32.wrap ((IntKind.u32.wrap (n.tdiv (256 : Int))).tdiv (256 : Int))).tmod (256 : Int)), IntKind.u8.wrap ((IntKind.u32.wrap ((IntKind.u32.wrap ((IntKind.u32.wrap
      (n.tdiv (256 : Int))).tdiv (256 : Int))).tdiv (256 : Int))).tmod (256 : Int))] = wdT n) := by kernel_rfl
theorem fo_c (E : World) (n : Int) (z : PX) (hz : rgM z [] 0) (hp : (fun _ => 0 ≤ n ∧ n ≤ 4294967295) z) : HD (pe E) 28 [.c (.i false .u32 n)] [] [] (.c .s) (fun z y => y.s 90000 = wdT n) z := by
  refine HD.mk (by rfl) (fnTree_sound (P := pe E) orcB_ok tab_ok tab_sz mixed 20000 Tryd.func28 (by decide) [.c (.i false .u32 n)] _) ⟨?_⟩
  rw [fo_p]
  have t : ∀ x : Int, 0 ≤ x → x.tdiv 256 = x / 256 ∧ x.tmod 256 = x % 256 := fun x h => ⟨Int.tdiv_eq_ediv_of_nonneg h, Int.tmod_eq_emod_of_nonneg h⟩
  have u : ∀ x : Int, 0 ≤ x → x ≤ 4294967295 → IntKind.u32.wrap x = x := fun x h h' => by rw [wu32]; omega
  have f : ∀ x c : Int, 0 ≤ c → x.fdiv c = x / c := fun x c h => Int.fdiv_eq_ediv_of_nonneg _ h
  obtain ⟨h0, h1⟩ := hp
  rw [(t n h0).1, (t n h0).2, u (n / 256) (by omega) (by omega), (t (n / 256) (by omega)).1, (t (n / 256) (by omega)).2, u (n / 256 / 256) (by omega) (by omega), (t (n / 256 / 256) (by omega)).1, (t (n / 256 / 256) (by omega)).2, u (n / 256 / 256 / 256) (by omega) (by omega), (t (n / 256 / 256 / 256) (by omega)).2]
  refine ⟨rfl, trivial, ?_⟩
  rw [wdT_eq, f n 256 (by omega), f n 65536 (by omega), f n 16777216 (by omega)]
  have w : ∀ x y : Int, x % 256 = y % 256 → IntKind.u8.wrap x = IntKind.u8.wrap y := fun x y h => by rw [wu8, wu8]; exact h
  rw [w (n % 256) n (by omega), w (n / 256 % 256) (n / 256) (by omega), w (n / 256 / 256 % 256) (n / 65536) (by omega), w (n / 256 / 256 / 256 % 256) (n / 16777216) (by omega)]
theorem nu_p (E : World) (z : PX) (s : ByteArray) :
    (hdP ([] : List MB).length [] (.c (.r .u32 0 4294967295)) (fun z y => y.n 90000 = nmF s) z (fnTree (pe E) (orcB E) (tabL fns) 20000 Tryd.f31 [.c (.str false s)] (mkM z [] [] 0))) =
    (inB (3 : Int) s.size = true ∧ inB (2 : Int) s.size = true ∧ inB (1 : Int) s.size = true ∧ inB (0 : Int) s.size = true ∧ ([] : SW) = [] ∧ (((0 : Int) ≤ IntKind.u32.wrap
      (IntKind.u32.wrap (IntKind.u32.wrap (IntKind.u32.wrap (IntKind.u32.wrap (IntKind.u32.wrap (IntKind.u32.wrap ((0 : Int) + IntKind.u32.wrap (strB s (3 : Int))) * (256 :
      Int)) + IntKind.u32.wrap (strB s (2 : Int))) * (256 : Int)) + IntKind.u32.wrap (strB s (1 : Int))) * (256 : Int)) + IntKind.u32.wrap (strB s (0 : Int))) ∧ IntKind.u32.wrap
      (IntKind.u32.wrap (IntKind.u32.wrap (IntKind.u32.wrap (IntKind.u32.wrap (IntKind.u32.wrap (IntKind.u32.wrap ((0 : Int) + IntKind.u32.wrap (strB s (3 : Int))) * (256 :
      Int)) + IntKind.u32.wrap (strB s (2 : Int))) * (256 : Int)) + IntKind.u32.wrap (strB s (1 : Int))) * (256 : Int)) + IntKind.u32.wrap (strB s (0 : Int))) ≤ (4294967295 :
      Int)) ∧ True) ∧ IntKind.u32.wrap (IntKind.u32.wrap (IntKind.u32.wrap (IntKind.u32.wrap (IntKind.u32.wrap (IntKind.u32.wrap (IntKind.u32.wrap ((0 : Int) + IntKind.u32.wrap
      (strB s (3 : Int))) * (256 : Int)) + IntKind.u32.wrap (strB s (2 : Int))) * (256 : Int)) + IntKind.u32.wrap (strB s (1 : Int))) * (256 : Int)) + IntKind.u32.wrap (strB s
      (0 : Int))) = nmF s) := by kernel_rfl
theorem nu_c (E : World) (s : ByteArray) (z : PX) (hz : rgM z [] 0) (hp : (fun _ => 4 ≤ s.size) z) : HD (pe E) 31 [.c (.str false s)] [] [] (.c (.r .u32 0 4294967295)) (fun z y => y.n 90000 = nmF s) z := by
  refine HD.mk (by rfl) (fnTree_sound (P := pe E) orcB_ok tab_ok tab_sz mixed 20000 Tryd.func31 (by decide) [.c (.str false s)] _) ⟨?_⟩
  rw [nu_p]
  have h4 : 4 ≤ s.size := hp
  have b0 := strB_bd s 0
  have b1 := strB_bd s 1
  have b2 := strB_bd s 2
  have b3 := strB_bd s 3
  have u : ∀ x : Int, 0 ≤ x → x ≤ 4294967295 → IntKind.u32.wrap x = x := fun x h h' => by rw [wu32]; omega
  have nb : ∀ x : Int, 0 ≤ x → x < 4 → inB x s.size = true := fun x h h' => by simp only [inB, Bool.and_eq_true, decide_eq_true_eq]; omega
  rw [u (strB s 0) (by omega) (by omega), u (strB s 1) (by omega) (by omega), u (strB s 2) (by omega) (by omega), u (strB s 3) (by omega) (by omega), Int.zero_add, u (strB s 3) (by omega) (by omega), u (strB s 3 * 256) (by omega) (by omega), u (strB s 3 * 256 + strB s 2) (by omega) (by omega), u ((strB s 3 * 256 + strB s 2) * 256) (by omega) (by omega), u ((strB s 3 * 256 + strB s 2) * 256 + strB s 1) (by omega) (by omega), u (((strB s 3 * 256 + strB s 2) * 256 + strB s 1) * 256) (by omega) (by omega), u (((strB s 3 * 256 + strB s 2) * 256 + strB s 1) * 256 + strB s 0) (by omega) (by omega)]
  exact ⟨nb 3 (by omega) (by omega), nb 2 (by omega) (by omega), nb 1 (by omega) (by omega), nb 0 (by omega) (by omega), rfl, ⟨⟨by omega, by omega⟩, trivial⟩, by rw [nm_val]; omega⟩
noncomputable def orcR (E : World) : Orc := fun g vs s => match g with
  | 33 => (match frGo [] vs s (fun vs0 π s1 s0 => match vs0 with
      | [.a [.i l1 .i64 k, .i l2 .i64 a, .str l3 d]] => some (hdG (pre := fun _ => True) (fun z hz hp => HD.args (vs := [.a [.i l1 .i64 k, .i l2 .i64 a, .str l3 d]]) (by simp [simL, SV.sim, C.sim]) (rt_c E k a d z hz hp)) (by rfl) π s1 s0)
      | [.a [.i l1 .i64 k, .i l2 .i64 a, .strn l3 d]] => some (hdG (pre := fun _ => True) (fun z hz hp => HD.args (vs := [.a [.i l1 .i64 k, .i l2 .i64 a, .strn l3 d]]) (by simp [simL, SV.sim, C.sim]) (rt_c E k a d z hz hp)) (by rfl) π s1 s0)
      | _ => none) with
    | some t => some t
    | none => (orcB E) g vs s)
  | 28 => (match frGo [] vs s (fun vs0 π s1 s0 => match vs0 with
      | [.c (.i l1 .u32 n)] => some (hdG (pre := fun _ => 0 ≤ n ∧ n ≤ 4294967295) (fun z hz hp => HD.args (vs := [.c (.i l1 .u32 n)]) (by simp [simL, SV.sim, C.sim]) (fo_c E n z hz hp)) (by rfl) π s1 s0)
      | _ => none) with
    | some t => some t
    | none => (orcB E) g vs s)
  | 31 => (match frGo [] vs s (fun vs0 π s1 s0 => match vs0 with
      | [.c (.str l1 s)] => some (hdG (pre := fun _ => 4 ≤ s.size) (fun z hz hp => HD.args (vs := [.c (.str l1 s)]) (by simp [simL, SV.sim, C.sim]) (nu_c E s z hz hp)) (by rfl) π s1 s0)
      | [.c (.strn l1 s)] => some (hdG (pre := fun _ => 4 ≤ s.size) (fun z hz hp => HD.args (vs := [.c (.strn l1 s)]) (by simp [simL, SV.sim, C.sim]) (nu_c E s z hz hp)) (by rfl) π s1 s0)
      | _ => none) with
    | some t => some t
    | none => (orcB E) g vs s)
  | g => (orcB E) g vs s
theorem orcR_ok {E : World} : OrcOK (pe E) (orcR E) := by
  intro g vs s t h
  unfold orcR at h
  split at h
  · split at h
    · rename_i hfr; cases h
      obtain ⟨π, s1, hq, hK, hv, hok, hpd⟩ := frGo_spec (P := pe E) hfr
      split at hK
      · rename_i heq; cases hK
        rw [heq] at hv hok
        exact hpd _ _ (hdG_ok _ _ π s1 hq hv hok)
      · rename_i heq; cases hK
        rw [heq] at hv hok
        exact hpd _ _ (hdG_ok _ _ π s1 hq hv hok)
      · cases hK
    · exact orcB_ok _ _ _ _ h
  · split at h
    · rename_i hfr; cases h
      obtain ⟨π, s1, hq, hK, hv, hok, hpd⟩ := frGo_spec (P := pe E) hfr
      split at hK
      · rename_i heq; cases hK
        rw [heq] at hv hok
        exact hpd _ _ (hdG_ok _ _ π s1 hq hv hok)
      · cases hK
    · exact orcB_ok _ _ _ _ h
  · split at h
    · rename_i hfr; cases h
      obtain ⟨π, s1, hq, hK, hv, hok, hpd⟩ := frGo_spec (P := pe E) hfr
      split at hK
      · rename_i heq; cases hK
        rw [heq] at hv hok
        exact hpd _ _ (hdG_ok _ _ π s1 hq hv hok)
      · rename_i heq; cases hK
        rw [heq] at hv hok
        exact hpd _ _ (hdG_ok _ _ π s1 hq hv hok)
      · cases hK
    · exact orcB_ok _ _ _ _ h
  · exact orcB_ok _ _ _ _ h
end Go.Proofs.YtnfmkfmgaohpfaaDoor

