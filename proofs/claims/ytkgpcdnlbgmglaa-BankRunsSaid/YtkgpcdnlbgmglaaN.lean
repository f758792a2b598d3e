import Derived.Test.YtkgpcdnlbgmglaaK
set_option linter.unusedVariables false
set_option linter.unusedSimpArgs false
namespace Go.Proofs.Ytkgpcdnlbgmglaa
open Go Go.Proofs Go.Proofs.Ytkgpcdnlbgmglaa.Ev
set_option maxRecDepth 100000
theorem wu32_rng (z : Int) : 0 ≤ IntKind.u32.wrap z ∧ IntKind.u32.wrap z < 4294967296 := by
  have h1 : IntKind.u32.wrap z = z % 4294967296 := rfl
  rw [h1]; omega
theorem bounds_u32' {z : Int} (h : (Lit.int .u32 z).wf = true) : 0 ≤ z ∧ z < 4294967296 := by
  have h' : IntKind.u32.min ≤ z ∧ z ≤ IntKind.u32.max := by simpa [Lit.wf] using h
  have a1 : IntKind.u32.min = 0 := rfl
  have a2 : IntKind.u32.max = 4294967295 := rfl
  omega
theorem setSv_0 (c : Nat → Int) (x : Int) : setSv c x 0 = c 0 := by
  unfold setSv
  have : Nat.beq 0 (39 + md (c 0)) = false := by
    cases h : Nat.beq 0 (39 + md (c 0)) with
    | false => rfl
    | true => have := Nat.eq_of_beq_eq_true h; omega
  rw [this, Bool.and_false]; rfl
theorem setU_0 (c : Nat → Int) (i x : Int) : setU c i x 0 = c 0 := by
  unfold setU
  cases isE c i <;> cases isM c i <;> rfl
def gH (n : Nat) : (Nat × (Nat → Int)) ⊕ (Nat → Int) → Prop
  | .inl x => x.1 ≤ n ∧ 0 ≤ x.2 0 ∧ x.2 0 < 4294967296
  | .inr d => 0 ≤ d 0 ∧ d 0 < 4294967296
def gM (n : Nat) : (Nat × (Nat → Int)) ⊕ (Nat → Int) → Nat
  | .inl x => n - x.1 + 1
  | .inr _ => 0
noncomputable def gD (E : World) : (Nat × (Nat → Int)) ⊕ (Nat → Int) → List Item
  | .inl _ => hd5 E
  | .inr _ => hdb5 E
def gL (a : Option Addr) (n c : Nat) (mode to : Int) : (Nat × (Nat → Int)) ⊕ (Nat → Int) → List (Nat × SV)
  | .inl x => la5 a n c mode to x
  | .inr d => lb5 mode to d
def gS : (Nat × (Nat → Int)) ⊕ (Nat → Int) → SW
  | .inl x => sa5 x
  | .inr d => sb5 d
def gB : (Nat × (Nat → Int)) ⊕ (Nat → Int) → Nat
  | .inl _ => 4
  | .inr _ => 0
theorem loopP_mono {P : PE} {fn : Func} {post : SV → SW → Prop} {I J : List Item → Fr → SW → Prop} (h : ∀ t f s, I t f s → J t f s) : ∀ t : Tree Lf, loopP P fn post I t → loopP P fn post J t := by
  intro t
  induction t with
  | leaf x =>
    intro hx
    unfold loopP at hx ⊢
    cases he : x.ended
    · rw [he] at hx; exact h _ _ _ hx
    · rw [he] at hx; exact hx
  | node b t f iht ihf => exact fun hx => ⟨fun hb => iht (hx.1 hb), fun hb => ihf (hx.2 hb)⟩
  | need b t ih => exact fun hx => ⟨hx.1, ih hx.2⟩
  | fail => exact id
theorem Q_imp (E : World) (a : Option Addr) (n c : Nat) (mode to : Int) (k : Nat) (hk : 0 < k) (todo : List Item) (fr : Fr) (s' : SW) (h : Q5 E a n c mode to k todo fr s') :
    ∃ x, gH n x ∧ gM n x < k ∧ todo = gD E x ∧ fr.nt = Try.f5.ntmps ∧ refP fr (gL a n c mode to x) ∧ refT s' (gS x) := by
  unfold Q5 at h
  cases hu : usr33 s'
  · rw [hu] at h
    obtain ⟨x, h1, h2, h3, h4, h5, h6⟩ := h
    exact ⟨.inl x, h1, h2, h3, h4, h5, h6⟩
  · rw [hu] at h
    obtain ⟨d, h1, h3, h4, h5, h6⟩ := h
    exact ⟨.inr d, h1, hk, h3, h4, h5, h6⟩
set_option maxHeartbeats 8000000 in
theorem round_ok (W : World) (a : Option Addr) (n c : Nat) (mode to : Int) (hmx : n ≤ maxLen) (hz : a = none → n = 0) (he : ∀ j, j < n → eRow W a (j * 3) [.i .i64, .i .i64, .i .u32] = true)
    (i : Nat) (f : Nat → Int) (hi : i ≤ n) (hf : 0 ≤ f 0 ∧ f 0 < 4294967296) :
    loopP (pe W) Try.f5 (fun v _ => SV.sim v (.c (.b false true))) (Q5 W a n c mode to (n - i + 1)) (run (pe W) (orcF W) (tabL fns) 20000 4 (hd5 W) (mkL Try.f5.ntmps (la5 a n c mode to (i, f))) (sa5 (i, f))) := by
  rw [enters_round W a n c mode to (i, f)]
  simp only [maxLen] at hmx
  refine ⟨fun h => ?_, fun h => ?_⟩
  · have hlt : i < n := by have := of_decide_eq_true h; omega
    have hrow := he i hlt
    have hx : 0 ≤ (eI W a ((i : Int).toNat * 3 + 2)) ∧ (eI W a ((i : Int).toNat * 3 + 2)) < 4294967296 := bounds_u32' (eOk_int (eRow_get _ _ 2 (.i .u32) hrow rfl))
    have hwr : IntKind.i64.wrap ((i : Int) + 1) = ((i + 1 : Nat) : Int) := by rw [wi64_in _ (by omega) (by omega)]; simp
    have hmu : n - (i + 1) + 1 < n - i + 1 := by omega
    have hC : 0 ≤ setC (ofL (bk f)) (eI W a ((i : Int).toNat * 3 + 1)) (eI W a ((i : Int).toNat * 3 + 2)) 0 ∧ setC (ofL (bk f)) (eI W a ((i : Int).toNat * 3 + 1)) (eI W a ((i : Int).toNat * 3 + 2)) 0 < 4294967296 := hf
    have hX : 0 ≤ setSt (ofL (bk f)) (eI W a ((i : Int).toNat * 3 + 2)) 0 ∧ setSt (ofL (bk f)) (eI W a ((i : Int).toNat * 3 + 2)) 0 < 4294967296 := hx
    have hSv : 0 ≤ setSv (ofL (bk f)) (eI W a ((i : Int).toNat * 3 + 2)) 0 ∧ setSv (ofL (bk f)) (eI W a ((i : Int).toNat * 3 + 2)) 0 < 4294967296 := by rw [setSv_0]; exact hf
    have hU : 0 ≤ setU (ofL (bk f)) (eI W a ((i : Int).toNat * 3 + 1)) (eI W a ((i : Int).toNat * 3 + 2)) 0 ∧ setU (ofL (bk f)) (eI W a ((i : Int).toNat * 3 + 1)) (eI W a ((i : Int).toNat * 3 + 2)) 0 < 4294967296 := by rw [setU_0]; exact hf
    have hEn : 0 ≤ entV (ofL (bk f)) (IntKind.u32.wrap (eI W a ((i : Int).toNat * 3 + 1))) (eI W a ((i : Int).toNat * 3 + 2)) 0 ∧ entV (ofL (bk f)) (IntKind.u32.wrap (eI W a ((i : Int).toNat * 3 + 1))) (eI W a ((i : Int).toNat * 3 + 2)) 0 < 4294967296 := by
      have e : entV (ofL (bk f)) (IntKind.u32.wrap (eI W a ((i : Int).toNat * 3 + 1))) (eI W a ((i : Int).toNat * 3 + 2)) 0 = entW (oD f) (IntKind.u32.wrap (eI W a ((i : Int).toNat * 3 + 1))) := eV_0 f _ _
      rw [e]
      have hm := wu32_rng (eI W a ((i : Int).toNat * 3 + 1))
      generalize IntKind.u32.wrap (eI W a ((i : Int).toNat * 3 + 1)) = m at *
      obtain ⟨m, rfl⟩ := Int.eq_ofNat_of_zero_le hm.1
      obtain ⟨x, hx⟩ := Int.eq_ofNat_of_zero_le hf.1
      have hx1 : x < 4294967296 := by omega
      rw [entW_rr (oD f) x m hx1 (by omega) hx]
      have := rr_lt x m hx1
      omega
    refine ⟨by simp only [inB, Bool.and_eq_true, decide_eq_true_eq]; omega, some_of_lt hz hlt, by simpa using hrow, ?_⟩
    refine ⟨fun _ => ⟨(i + 1, setC (ofL (bk f)) (eI W a ((i : Int).toNat * 3 + 1)) (eI W a ((i : Int).toNat * 3 + 2))), ⟨hlt, (hC).1, (hC).2⟩, hmu, rfl, rfl, ⟨⟨rfl, rfl⟩, ⟨rfl, rfl⟩, rfl, rfl, ⟨rfl, rfl⟩, rfl, hwr⟩, ?_, trivial⟩, fun _ => ?_⟩
    · repeat' first | exact rfl | apply And.intro
    refine ⟨fun _ => ⟨(i + 1, setSt (ofL (bk f)) (eI W a ((i : Int).toNat * 3 + 2))), ⟨hlt, (hX).1, (hX).2⟩, hmu, rfl, rfl, ⟨⟨rfl, rfl⟩, ⟨rfl, rfl⟩, rfl, rfl, ⟨rfl, rfl⟩, rfl, hwr⟩, ?_, trivial⟩, fun _ => ?_⟩
    · repeat' first | exact rfl | apply And.intro
    refine ⟨fun _ => ⟨(i + 1, setSv (ofL (bk f)) (eI W a ((i : Int).toNat * 3 + 2))), ⟨hlt, (hSv).1, (hSv).2⟩, hmu, rfl, rfl, ⟨⟨rfl, rfl⟩, ⟨rfl, rfl⟩, rfl, rfl, ⟨rfl, rfl⟩, rfl, hwr⟩, ?_, trivial⟩, fun _ => ?_⟩
    · repeat' first | exact rfl | apply And.intro
    refine ⟨fun _ => ⟨(i + 1, setU (ofL (bk f)) (eI W a ((i : Int).toNat * 3 + 1)) (eI W a ((i : Int).toNat * 3 + 2))), ⟨hlt, (hU).1, (hU).2⟩, hmu, rfl, rfl, ⟨⟨rfl, rfl⟩, ⟨rfl, rfl⟩, rfl, rfl, ⟨rfl, rfl⟩, rfl, hwr⟩, ?_, trivial⟩, fun _ => ?_⟩
    · repeat' first | exact rfl | apply And.intro
    refine ⟨fun _ => ⟨(i + 1, entV (ofL (bk f)) (IntKind.u32.wrap (eI W a ((i : Int).toNat * 3 + 1))) (eI W a ((i : Int).toNat * 3 + 2))), ⟨hlt, (hEn).1, (hEn).2⟩, hmu, rfl, rfl, ⟨⟨rfl, rfl⟩, ⟨rfl, rfl⟩, rfl, rfl, ⟨rfl, rfl⟩, rfl, hwr⟩, ?_, trivial⟩, fun _ => ?_⟩
    · repeat' first | exact rfl | apply And.intro
    refine ⟨(i + 1, f), ⟨hlt, (hf).1, (hf).2⟩, hmu, rfl, rfl, ⟨⟨rfl, rfl⟩, ⟨rfl, rfl⟩, rfl, rfl, ⟨rfl, rfl⟩, rfl, hwr⟩, ?_, trivial⟩
    repeat' first | exact rfl | apply And.intro

  · have hi2 : i = n := by have := of_decide_eq_false h; omega
    refine ⟨f, hf, rfl, rfl, ?_⟩
    repeat' first | exact rfl | exact trivial | apply And.intro
set_option maxHeartbeats 4000000 in
theorem enters_calls (W : World) (a : Option Addr) (n c : Nat) (mode to : Int) (hmx : n ≤ maxLen) (hz : a = none → n = 0) (he : ∀ j, j < n → eRow W a (j * 3) [.i .i64, .i .i64, .i .u32] = true) (hm0 : 0 ≤ mode) (hm1 : mode < 4294967296) :
    Calls Try.prog 5 #[.slice a n c, .int .u32 mode, .int .u32 to] W fun e w' => e = .returned (.bool true) ∧ Grew W w' := by
  have hE : ExtI W Rh0 0 W := ExtI.refl W _
  refine law_of_calls (P := pe W) (ρ := Rh0) ?_
  refine calls_loopB (c := c5) (P := pe W) orcF_ok tab_ok tab_sz mixed Try.func5 rfl (by decide) (vs := [.c (.es a n c), .c (.i false .u32 mode), .c (.i false .u32 to)]) (s := []) (Nat.le_of_ble_eq_true rfl) 20000 4 gB (gH n) (gM n) (gD W) (gL a n c mode to) gS
    (fun x => by cases x <;> rfl) (fun x hx => by cases x <;> exact ⟨rfl, rfl, Nat.le_of_ble_eq_true rfl⟩)
    (fun v _ => SV.sim v (.c (.b false true))) ?_ ?_ W 0 _ W (Inv.start hE) (by simp [SV.ok, C.ok, okL])
  · refine loopP_mono (fun t f s h => ?_) _ (I := Q5 W a n c mode to (n + 2)) ?_
    · obtain ⟨x, h1, h2, h3⟩ := Q_imp W a n c mode to (n + 2) (by omega) t f s h
      exact ⟨x, h1, h3⟩
    · rw [enters_pro]
      refine ⟨fun _ => rfl, fun _ => ⟨(0, fun j => if j = 0 then 31 else 0), ⟨Nat.zero_le _, by decide, by decide⟩, by show n - 0 + 1 < n + 2; omega, rfl, rfl, ?_, ?_, trivial⟩⟩
      · repeat' first | exact rfl | apply And.intro
      · repeat' first | exact rfl | apply And.intro
  · intro j hj
    cases j with
    | inl x =>
      obtain ⟨i, f⟩ := x
      exact loopP_mono (fun t g s h => Q_imp W a n c mode to (n - i + 1) (by omega) t g s h) _ (round_ok W a n c mode to hmx hz he i f hj.1 hj.2)
    | inr d => exact loopP_mono (fun t g s h => h.elim) _ (end_ok W a n c mode to d hm0 hm1 hj.1 hj.2)
end Go.Proofs.Ytkgpcdnlbgmglaa

