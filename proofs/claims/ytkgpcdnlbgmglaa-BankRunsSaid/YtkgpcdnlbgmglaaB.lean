import Derived.Test.YtkgpcdnlbgmglaaA
set_option linter.unusedVariables false
set_option linter.unusedSimpArgs false
namespace Go.Proofs.Ytkgpcdnlbgmglaa
open Go Go.Proofs Go.Proofs.Ytkgpcdnlbgmglaa.Ev
def md (x : Int) : Nat := cond (bits .and .u32 x 31 == 17) 1 (cond (bits .and .u32 x 31 == 18) 2 (cond (bits .and .u32 x 31 == 19) 3 (cond (bits .and .u32 x 31 == 23) 4 (cond (bits .and .u32 x 31 == 27) 5 0))))
def pm (f t j : Nat) : Nat :=
  if f = t then j else if j = 14 then 17 + 2 * t else if j = 15 then 18 + 2 * t else if j = 17 + 2 * f then 14 else if j = 18 + 2 * f then 15 else
  if (f == 1) = (t == 1) then j else if 9 ≤ j ∧ j ≤ 13 then 29 + 5 * (if t = 1 then 1 else 0) + (j - 9) else
  if 29 + 5 * (if f = 1 then 1 else 0) ≤ j ∧ j < 34 + 5 * (if f = 1 then 1 else 0) then 9 + (j - (29 + 5 * (if f = 1 then 1 else 0))) else j
def setSt (c : Nat → Int) (x : Int) (j : Nat) : Int := if j = 0 then x else c (pm (md (c 0)) (md x) j)
def setC (c : Nat → Int) (i x : Int) (j : Nat) : Int := if j = 1 then cond (bits .and .i64 i 15 == 0) x (c 1) else if j = 2 then cond (bits .and .i64 i 15 == 1) x (c 2) else if j = 3 then cond (bits .and .i64 i 15 == 2) x (c 3) else if j = 4 then cond (bits .and .i64 i 15 == 3) x (c 4) else if j = 5 then cond (bits .and .i64 i 15 == 4) x (c 5) else if j = 6 then cond (bits .and .i64 i 15 == 5) x (c 6) else if j = 7 then cond (bits .and .i64 i 15 == 6) x (c 7) else if j = 8 then cond (bits .and .i64 i 15 == 7) x (c 8) else if j = 9 then cond (bits .and .i64 i 15 == 8) x (c 9) else if j = 10 then cond (bits .and .i64 i 15 == 9) x (c 10) else if j = 11 then cond (bits .and .i64 i 15 == 10) x (c 11) else if j = 12 then cond (bits .and .i64 i 15 == 11) x (c 12) else if j = 13 then cond (bits .and .i64 i 15 == 12) x (c 13) else if j = 14 then cond (bits .and .i64 i 15 == 13) x (c 14) else if j = 15 then cond (bits .and .i64 i 15 == 14) x (c 15) else if j = 16 then cond (bits .and .i64 i 15 == 15) x (c 16) else c j
def setSv (c : Nat → Int) (x : Int) (j : Nat) : Int := cond (!(Nat.beq (md (c 0)) 0) && Nat.beq j (39 + md (c 0))) x (c j)
def getV (c : Nat → Int) (i : Int) : Int := selI [c 1, c 2, c 3, c 4, c 5, c 6, c 7, c 8, c 9, c 10, c 11, c 12, c 13, c 14, c 15, c 16] (bits .and .i64 i 15)
def bk (c : Nat → Int) : List C := [.i false .u32 (c 0), .i false .u32 (c 1), .i false .u32 (c 2), .i false .u32 (c 3), .i false .u32 (c 4), .i false .u32 (c 5), .i false .u32 (c 6), .i false .u32 (c 7), .i false .u32 (c 8), .i false .u32 (c 9), .i false .u32 (c 10), .i false .u32 (c 11), .i false .u32 (c 12), .i false .u32 (c 13), .i false .u32 (c 14), .i false .u32 (c 15), .i false .u32 (c 16), .i false .u32 (c 17), .i false .u32 (c 18), .i false .u32 (c 19), .i false .u32 (c 20), .i false .u32 (c 21), .i false .u32 (c 22), .i false .u32 (c 23), .i false .u32 (c 24), .i false .u32 (c 25), .i false .u32 (c 26), .i false .u32 (c 27), .i false .u32 (c 28), .i false .u32 (c 29), .i false .u32 (c 30), .i false .u32 (c 31), .i false .u32 (c 32), .i false .u32 (c 33), .i false .u32 (c 34), .i false .u32 (c 35), .i false .u32 (c 36), .i false .u32 (c 37), .i false .u32 (c 38), .i false .u32 (c 39), .i false .u32 (c 40), .i false .u32 (c 41), .i false .u32 (c 42), .i false .u32 (c 43), .i false .u32 (c 44)]
theorem inK (i : Int) : inB (bits .and .i64 i 15) 16 = true := by
  rw [and_m4 .i64 i (by decide)]
  simp only [inB, Bool.and_eq_true, decide_eq_true_eq]; omega
def isE (c : Nat → Int) (i : Int) : Bool := !(Nat.beq (md (c 0)) 0) && (bits .and .i64 i 15 == 13 || bits .and .i64 i 15 == 14)
def isM (c : Nat → Int) (i : Int) : Bool := Nat.beq (md (c 0)) 1 && (decide (bits .and .i64 i 15 ≥ 8) && decide (bits .and .i64 i 15 ≤ 12))
def userV (c : Nat → Int) (i : Int) : Int := cond (isE c i) (selI [c 17, c 18] (IntKind.i64.wrap (bits .and .i64 i 15 - 13))) (cond (isM c i) (selI [c 29, c 30, c 31, c 32, c 33] (IntKind.i64.wrap (bits .and .i64 i 15 - 8))) (selI [c 1, c 2, c 3, c 4, c 5, c 6, c 7, c 8, c 9, c 10, c 11, c 12, c 13, c 14, c 15, c 16] (bits .and .i64 i 15)))
def setE (c : Nat → Int) (i x : Int) (j : Nat) : Int := if j = 17 then cond (IntKind.i64.wrap (bits .and .i64 i 15 - 13) == 0) x (c 17) else if j = 18 then cond (IntKind.i64.wrap (bits .and .i64 i 15 - 13) == 1) x (c 18) else c j
def setM (c : Nat → Int) (i x : Int) (j : Nat) : Int := if j = 29 then cond (IntKind.i64.wrap (bits .and .i64 i 15 - 8) == 0) x (c 29) else if j = 30 then cond (IntKind.i64.wrap (bits .and .i64 i 15 - 8) == 1) x (c 30) else if j = 31 then cond (IntKind.i64.wrap (bits .and .i64 i 15 - 8) == 2) x (c 31) else if j = 32 then cond (IntKind.i64.wrap (bits .and .i64 i 15 - 8) == 3) x (c 32) else if j = 33 then cond (IntKind.i64.wrap (bits .and .i64 i 15 - 8) == 4) x (c 33) else c j
def setU (c : Nat → Int) (i x : Int) (j : Nat) : Int := cond (isE c i) (setE c i x j) (cond (isM c i) (setM c i x j) (setC c i x j))
def savV (c : Nat → Int) : Int := cond (Nat.beq (md (c 0)) 0) (c 0) (c (39 + md (c 0)))
theorem inE (i : Int) (h : (bits .and .i64 i 15 == 13) = true ∨ (bits .and .i64 i 15 == 14) = true) : inB (IntKind.i64.wrap (bits .and .i64 i 15 - 13)) 2 = true := by
  simp only [beq_iff_eq] at h
  rcases h with h | h <;> rw [h] <;> decide
theorem inM (i : Int) (h1 : decide (bits .and .i64 i 15 ≥ 8) = true) (h2 : decide (bits .and .i64 i 15 ≤ 12) = true) : inB (IntKind.i64.wrap (bits .and .i64 i 15 - 8)) 5 = true := by
  have h1 := of_decide_eq_true h1
  have h2 := of_decide_eq_true h2
  rw [wi64_in _ (by omega) (by omega)]
  simp only [inB, Bool.and_eq_true, decide_eq_true_eq]; omega
def conE (r : SV × SW) : Tree (SV × SW) → Prop
  | .leaf p => p = r
  | .node b t f => (b = true → conE r t) ∧ (b = false → conE r f)
  | .need b t => b = true ∧ conE r t
  | .fail => False
theorem conE_OK {r : SV × SW} {post : SV × SW → Prop} (hp : post r) : ∀ t : Tree (SV × SW), conE r t → t.OK post := by
  intro t
  induction t with
  | leaf x => intro h; have h' : x = r := h; subst h'; exact hp
  | node b t f iht ihf => exact fun h => ⟨fun hb => iht (h.1 hb), fun hb => ihf (h.2 hb)⟩
  | need b t ih => exact fun h => ⟨h.1, ih h.2⟩
  | fail => exact id
theorem call_conE {P : PE} {g : FuncId} {vs : List SV} {s : SW} {t : Tree (SV × SW)} {r : SV × SW} (h : CallTree P g vs s t) (ht : conE r t) : CallTree P g vs s (.leaf r) := by
  intro W L ρ w post hI hok hp
  exact h W L ρ w post hI hok (conE_OK hp t ht)
def mdB {α : Type} (x : Int) (f : Nat → Tree α) : Tree α := .node (bits .and .u32 x 31 == 17) (f 1) (.node (bits .and .u32 x 31 == 18) (f 2) (.node (bits .and .u32 x 31 == 19) (f 3) (.node (bits .and .u32 x 31 == 23) (f 4) (.node (bits .and .u32 x 31 == 27) (f 5) (f 0)))))
theorem conE_mdB {r : SV × SW} {x : Int} {f : Nat → Tree (SV × SW)} (h : conE r (f (md x))) : conE r (mdB x f) := by
  unfold md at h
  unfold mdB
  refine ⟨fun e => by rw [e] at h; exact h, fun e => ?_⟩
  rw [e] at h
  refine ⟨fun e => by rw [e] at h; exact h, fun e => ?_⟩
  rw [e] at h
  refine ⟨fun e => by rw [e] at h; exact h, fun e => ?_⟩
  rw [e] at h
  refine ⟨fun e => by rw [e] at h; exact h, fun e => ?_⟩
  rw [e] at h
  refine ⟨fun e => by rw [e] at h; exact h, fun e => ?_⟩
  rw [e] at h
  exact h
def usT {α : Type} (m : Nat) (K : Int) (fE fM fC : Tree α) : Tree α := match m with
  | 0 => fC
  | 1 => .node (K == 13) fE (.node (K == 14) fE (.node (decide (K ≥ 8)) (.node (decide (K ≤ 12)) fM fC) fC))
  | _ => .node (K == 13) fE (.node (K == 14) fE fC)
theorem conE_us {r : SV × SW} {m : Nat} {K : Int} {fE fM fC : Tree (SV × SW)} (hE : (!(Nat.beq m 0) && (K == 13 || K == 14)) = true → conE r fE)
    (hM : (!(Nat.beq m 0) && (K == 13 || K == 14)) = false → (Nat.beq m 1 && (decide (K ≥ 8) && decide (K ≤ 12))) = true → conE r fM)
    (hC : (!(Nat.beq m 0) && (K == 13 || K == 14)) = false → (Nat.beq m 1 && (decide (K ≥ 8) && decide (K ≤ 12))) = false → conE r fC) : conE r (usT m K fE fM fC) := by
  match m with
  | 0 => exact hC rfl rfl
  | 1 =>
    refine ⟨fun e => hE (by rw [e]; rfl), fun e => ⟨fun e2 => hE (by rw [e, e2]; rfl), fun e2 => ⟨fun e3 => ⟨fun e4 => ?_, fun e4 => ?_⟩, fun e3 => ?_⟩⟩⟩
    · exact hM (by rw [e, e2]; rfl) (by rw [e3, e4]; rfl)
    · exact hC (by rw [e, e2]; rfl) (by rw [e3, e4]; rfl)
    · exact hC (by rw [e, e2]; rfl) (by rw [e3]; rfl)
  | a + 2 =>
    refine ⟨fun e => hE (by rw [e]; rfl), fun e => ⟨fun e2 => hE (by rw [e, e2]; rfl), fun e2 => ?_⟩⟩
    exact hC (by rw [e, e2]; rfl) rfl
set_option maxRecDepth 100000 in
theorem get_t (E : World) (i : Int) (c : Nat → Int) (S : SW) : fnTree (pe E) (orcA E) (tabL fns) 20000 Try.f19 [.c (.p 0 0), .c (.i false .i64 i)] (⟨bk c, 59⟩ :: S) = (.need (inB (bits .and .i64 i 15) 16) (.leaf (.c (.i false .u32 (getV c i)), ⟨bk c, 59⟩ :: S))) := by kernel_rfl
theorem get_e (i : Int) (c : Nat → Int) (S : SW) : conE (.c (.i false .u32 (getV c i)), ⟨bk c, 59⟩ :: S) (.need (inB (bits .and .i64 i 15) 16) (.leaf (.c (.i false .u32 (getV c i)), ⟨bk c, 59⟩ :: S))) := by
  exact ⟨inK i, rfl⟩
set_option maxRecDepth 100000 in
theorem get_c (E : World) (i : Int) (c : Nat → Int) (S : SW) : CallTree (pe E) 19 [.c (.p 0 0), .c (.i false .i64 i)] (⟨bk c, 59⟩ :: S) (.leaf (.c (.i false .u32 (getV c i)), ⟨bk c, 59⟩ :: S)) := by
  refine call_conE (t := .need (inB (bits .and .i64 i 15) 16) (.leaf (.c (.i false .u32 (getV c i)), ⟨bk c, 59⟩ :: S))) ?_ (get_e i c S)
  rw [← get_t E i c S]
  exact fnTree_sound (P := pe E) orcA_ok tab_ok tab_sz mixed 20000 Try.func19 (by decide) [.c (.p 0 0), .c (.i false .i64 i)] (⟨bk c, 59⟩ :: S)
set_option maxRecDepth 100000 in
theorem sav_t (E : World)  (c : Nat → Int) (S : SW) : fnTree (pe E) (orcA E) (tabL fns) 20000 Try.f17 [.c (.p 0 0)] (⟨bk c, 59⟩ :: S) = (mdB (c 0) fun m => .leaf (.c (.i false .u32 (cond (Nat.beq m 0) (c 0) (c (39 + m)))), ⟨bk c, 59⟩ :: S)) := by kernel_rfl
theorem sav_e  (c : Nat → Int) (S : SW) : conE (.c (.i false .u32 (savV c)), ⟨bk c, 59⟩ :: S) (mdB (c 0) fun m => .leaf (.c (.i false .u32 (cond (Nat.beq m 0) (c 0) (c (39 + m)))), ⟨bk c, 59⟩ :: S)) := by
  exact conE_mdB rfl
set_option maxRecDepth 100000 in
theorem sav_c (E : World)  (c : Nat → Int) (S : SW) : CallTree (pe E) 17 [.c (.p 0 0)] (⟨bk c, 59⟩ :: S) (.leaf (.c (.i false .u32 (savV c)), ⟨bk c, 59⟩ :: S)) := by
  refine call_conE (t := mdB (c 0) fun m => .leaf (.c (.i false .u32 (cond (Nat.beq m 0) (c 0) (c (39 + m)))), ⟨bk c, 59⟩ :: S)) ?_ (sav_e  c S)
  rw [← sav_t E  c S]
  exact fnTree_sound (P := pe E) orcA_ok tab_ok tab_sz mixed 20000 Try.func17 (by decide) [.c (.p 0 0)] (⟨bk c, 59⟩ :: S)
set_option maxRecDepth 100000 in
theorem set_t (E : World) (i x : Int) (c : Nat → Int) (S : SW) : fnTree (pe E) (orcA E) (tabL fns) 20000 Try.f28 [.c (.p 0 0), .c (.i false .i64 i), .c (.i false .u32 x)] (⟨bk c, 59⟩ :: S) = (.need (inB (bits .and .i64 i 15) 16) (.leaf (.t [], ⟨bk (setC c i x), 59⟩ :: S))) := by kernel_rfl
theorem set_e (i x : Int) (c : Nat → Int) (S : SW) : conE (.t [], ⟨bk (setC c i x), 59⟩ :: S) (.need (inB (bits .and .i64 i 15) 16) (.leaf (.t [], ⟨bk (setC c i x), 59⟩ :: S))) := by
  exact ⟨inK i, rfl⟩
set_option maxRecDepth 100000 in
theorem set_c (E : World) (i x : Int) (c : Nat → Int) (S : SW) : CallTree (pe E) 28 [.c (.p 0 0), .c (.i false .i64 i), .c (.i false .u32 x)] (⟨bk c, 59⟩ :: S) (.leaf (.t [], ⟨bk (setC c i x), 59⟩ :: S)) := by
  refine call_conE (t := .need (inB (bits .and .i64 i 15) 16) (.leaf (.t [], ⟨bk (setC c i x), 59⟩ :: S))) ?_ (set_e i x c S)
  rw [← set_t E i x c S]
  exact fnTree_sound (P := pe E) orcA_ok tab_ok tab_sz mixed 20000 Try.func28 (by decide) [.c (.p 0 0), .c (.i false .i64 i), .c (.i false .u32 x)] (⟨bk c, 59⟩ :: S)
set_option maxRecDepth 100000 in
theorem ssv_t (E : World) (x : Int) (c : Nat → Int) (S : SW) : fnTree (pe E) (orcA E) (tabL fns) 20000 Try.f29 [.c (.p 0 0), .c (.i false .u32 x)] (⟨bk c, 59⟩ :: S) = (mdB (c 0) fun m => .leaf (.t [], ⟨bk (fun j => cond (!(Nat.beq m 0) && Nat.beq j (39 + m)) x (c j)), 59⟩ :: S)) := by kernel_rfl
theorem ssv_e (x : Int) (c : Nat → Int) (S : SW) : conE (.t [], ⟨bk (setSv c x), 59⟩ :: S) (mdB (c 0) fun m => .leaf (.t [], ⟨bk (fun j => cond (!(Nat.beq m 0) && Nat.beq j (39 + m)) x (c j)), 59⟩ :: S)) := by
  exact conE_mdB rfl
set_option maxRecDepth 100000 in
theorem ssv_c (E : World) (x : Int) (c : Nat → Int) (S : SW) : CallTree (pe E) 29 [.c (.p 0 0), .c (.i false .u32 x)] (⟨bk c, 59⟩ :: S) (.leaf (.t [], ⟨bk (setSv c x), 59⟩ :: S)) := by
  refine call_conE (t := mdB (c 0) fun m => .leaf (.t [], ⟨bk (fun j => cond (!(Nat.beq m 0) && Nat.beq j (39 + m)) x (c j)), 59⟩ :: S)) ?_ (ssv_e x c S)
  rw [← ssv_t E x c S]
  exact fnTree_sound (P := pe E) orcA_ok tab_ok tab_sz mixed 20000 Try.func29 (by decide) [.c (.p 0 0), .c (.i false .u32 x)] (⟨bk c, 59⟩ :: S)
set_option maxRecDepth 100000 in
theorem usr_t (E : World) (i : Int) (c : Nat → Int) (S : SW) : fnTree (pe E) (orcA E) (tabL fns) 20000 Try.f21 [.c (.p 0 0), .c (.i false .i64 i)] (⟨bk c, 59⟩ :: S) = (mdB (c 0) fun m => usT m (bits .and .i64 i 15) (.need (inB (IntKind.i64.wrap (bits .and .i64 i 15 - 13)) 2) (.leaf (.c (.i false .u32 (selI [c 17, c 18] (IntKind.i64.wrap (bits .and .i64 i 15 - 13)))), ⟨bk c, 59⟩ :: S))) (.need (inB (IntKind.i64.wrap (bits .and .i64 i 15 - 8)) 5) (.leaf (.c (.i false .u32 (selI [c 29, c 30, c 31, c 32, c 33] (IntKind.i64.wrap (bits .and .i64 i 15 - 8)))), ⟨bk c, 59⟩ :: S))) (.need (inB (bits .and .i64 i 15) 16) (.leaf (.c (.i false .u32 (selI [c 1, c 2, c 3, c 4, c 5, c 6, c 7, c 8, c 9, c 10, c 11, c 12, c 13, c 14, c 15, c 16] (bits .and .i64 i 15))), ⟨bk c, 59⟩ :: S)))) := by kernel_rfl
theorem usr_e (i : Int) (c : Nat → Int) (S : SW) : conE (.c (.i false .u32 (userV c i)), ⟨bk c, 59⟩ :: S) (mdB (c 0) fun m => usT m (bits .and .i64 i 15) (.need (inB (IntKind.i64.wrap (bits .and .i64 i 15 - 13)) 2) (.leaf (.c (.i false .u32 (selI [c 17, c 18] (IntKind.i64.wrap (bits .and .i64 i 15 - 13)))), ⟨bk c, 59⟩ :: S))) (.need (inB (IntKind.i64.wrap (bits .and .i64 i 15 - 8)) 5) (.leaf (.c (.i false .u32 (selI [c 29, c 30, c 31, c 32, c 33] (IntKind.i64.wrap (bits .and .i64 i 15 - 8)))), ⟨bk c, 59⟩ :: S))) (.need (inB (bits .and .i64 i 15) 16) (.leaf (.c (.i false .u32 (selI [c 1, c 2, c 3, c 4, c 5, c 6, c 7, c 8, c 9, c 10, c 11, c 12, c 13, c 14, c 15, c 16] (bits .and .i64 i 15))), ⟨bk c, 59⟩ :: S)))) := by
  refine conE_mdB (conE_us (fun h => ⟨inE i ?_, ?_⟩) (fun h h2 => ⟨inM i ?_ ?_, ?_⟩) (fun h h2 => ⟨inK i, ?_⟩))
  · rw [Bool.and_eq_true, Bool.or_eq_true] at h; exact h.2
  · show (_, _) = (_, _)
    unfold userV isE isM
    rw [h]; rfl
  · rw [Bool.and_eq_true, Bool.and_eq_true] at h2; exact h2.2.1
  · rw [Bool.and_eq_true, Bool.and_eq_true] at h2; exact h2.2.2
  · show (_, _) = (_, _)
    unfold userV isE isM
    rw [h, h2]; rfl
  · show (_, _) = (_, _)
    unfold userV isE isM
    rw [h, h2]; rfl
set_option maxRecDepth 100000 in
theorem usr_c (E : World) (i : Int) (c : Nat → Int) (S : SW) : CallTree (pe E) 21 [.c (.p 0 0), .c (.i false .i64 i)] (⟨bk c, 59⟩ :: S) (.leaf (.c (.i false .u32 (userV c i)), ⟨bk c, 59⟩ :: S)) := by
  refine call_conE (t := mdB (c 0) fun m => usT m (bits .and .i64 i 15) (.need (inB (IntKind.i64.wrap (bits .and .i64 i 15 - 13)) 2) (.leaf (.c (.i false .u32 (selI [c 17, c 18] (IntKind.i64.wrap (bits .and .i64 i 15 - 13)))), ⟨bk c, 59⟩ :: S))) (.need (inB (IntKind.i64.wrap (bits .and .i64 i 15 - 8)) 5) (.leaf (.c (.i false .u32 (selI [c 29, c 30, c 31, c 32, c 33] (IntKind.i64.wrap (bits .and .i64 i 15 - 8)))), ⟨bk c, 59⟩ :: S))) (.need (inB (bits .and .i64 i 15) 16) (.leaf (.c (.i false .u32 (selI [c 1, c 2, c 3, c 4, c 5, c 6, c 7, c 8, c 9, c 10, c 11, c 12, c 13, c 14, c 15, c 16] (bits .and .i64 i 15))), ⟨bk c, 59⟩ :: S)))) ?_ (usr_e i c S)
  rw [← usr_t E i c S]
  exact fnTree_sound (P := pe E) orcA_ok tab_ok tab_sz mixed 20000 Try.func21 (by decide) [.c (.p 0 0), .c (.i false .i64 i)] (⟨bk c, 59⟩ :: S)
set_option maxRecDepth 100000 in
theorem sst_t (E : World) (x : Int) (c : Nat → Int) (S : SW) : fnTree (pe E) (orcA E) (tabL fns) 20000 Try.f23 [.c (.p 0 0), .c (.i false .u32 x)] (⟨bk c, 59⟩ :: S) = (mdB (c 0) fun a => mdB x fun b => .leaf (.t [], ⟨bk (fun j => if j = 0 then x else c (pm a b j)), 59⟩ :: S)) := by kernel_rfl
theorem sst_e (x : Int) (c : Nat → Int) (S : SW) : conE (.t [], ⟨bk (setSt c x), 59⟩ :: S) (mdB (c 0) fun a => mdB x fun b => .leaf (.t [], ⟨bk (fun j => if j = 0 then x else c (pm a b j)), 59⟩ :: S)) := by
  exact conE_mdB (conE_mdB rfl)
set_option maxRecDepth 100000 in
theorem sst_c (E : World) (x : Int) (c : Nat → Int) (S : SW) : CallTree (pe E) 23 [.c (.p 0 0), .c (.i false .u32 x)] (⟨bk c, 59⟩ :: S) (.leaf (.t [], ⟨bk (setSt c x), 59⟩ :: S)) := by
  refine call_conE (t := mdB (c 0) fun a => mdB x fun b => .leaf (.t [], ⟨bk (fun j => if j = 0 then x else c (pm a b j)), 59⟩ :: S)) ?_ (sst_e x c S)
  rw [← sst_t E x c S]
  exact fnTree_sound (P := pe E) orcA_ok tab_ok tab_sz mixed 20000 Try.func23 (by decide) [.c (.p 0 0), .c (.i false .u32 x)] (⟨bk c, 59⟩ :: S)
set_option maxRecDepth 100000 in
theorem sus_t (E : World) (i x : Int) (c : Nat → Int) (S : SW) : fnTree (pe E) (orcA E) (tabL fns) 20000 Try.f30 [.c (.p 0 0), .c (.i false .i64 i), .c (.i false .u32 x)] (⟨bk c, 59⟩ :: S) = (mdB (c 0) fun m => usT m (bits .and .i64 i 15) (.need (inB (IntKind.i64.wrap (bits .and .i64 i 15 - 13)) 2) (.leaf (.t [], ⟨bk (setE c i x), 59⟩ :: S))) (.need (inB (IntKind.i64.wrap (bits .and .i64 i 15 - 8)) 5) (.leaf (.t [], ⟨bk (setM c i x), 59⟩ :: S))) (.need (inB (bits .and .i64 i 15) 16) (.leaf (.t [], ⟨bk (setC c i x), 59⟩ :: S)))) := by kernel_rfl
theorem sus_e (i x : Int) (c : Nat → Int) (S : SW) : conE (.t [], ⟨bk (setU c i x), 59⟩ :: S) (mdB (c 0) fun m => usT m (bits .and .i64 i 15) (.need (inB (IntKind.i64.wrap (bits .and .i64 i 15 - 13)) 2) (.leaf (.t [], ⟨bk (setE c i x), 59⟩ :: S))) (.need (inB (IntKind.i64.wrap (bits .and .i64 i 15 - 8)) 5) (.leaf (.t [], ⟨bk (setM c i x), 59⟩ :: S))) (.need (inB (bits .and .i64 i 15) 16) (.leaf (.t [], ⟨bk (setC c i x), 59⟩ :: S)))) := by
  refine conE_mdB (conE_us (fun h => ⟨inE i ?_, ?_⟩) (fun h h2 => ⟨inM i ?_ ?_, ?_⟩) (fun h h2 => ⟨inK i, ?_⟩))
  · rw [Bool.and_eq_true, Bool.or_eq_true] at h; exact h.2
  · have e : setU c i x = setE c i x := by funext j; unfold setU isE isM; rw [h]; rfl
    rw [e]; rfl
  · rw [Bool.and_eq_true, Bool.and_eq_true] at h2; exact h2.2.1
  · rw [Bool.and_eq_true, Bool.and_eq_true] at h2; exact h2.2.2
  · have e : setU c i x = setM c i x := by funext j; unfold setU isE isM; rw [h, h2]; rfl
    rw [e]; rfl
  · have e : setU c i x = setC c i x := by funext j; unfold setU isE isM; rw [h, h2]; rfl
    rw [e]; rfl
set_option maxRecDepth 100000 in
theorem sus_c (E : World) (i x : Int) (c : Nat → Int) (S : SW) : CallTree (pe E) 30 [.c (.p 0 0), .c (.i false .i64 i), .c (.i false .u32 x)] (⟨bk c, 59⟩ :: S) (.leaf (.t [], ⟨bk (setU c i x), 59⟩ :: S)) := by
  refine call_conE (t := mdB (c 0) fun m => usT m (bits .and .i64 i 15) (.need (inB (IntKind.i64.wrap (bits .and .i64 i 15 - 13)) 2) (.leaf (.t [], ⟨bk (setE c i x), 59⟩ :: S))) (.need (inB (IntKind.i64.wrap (bits .and .i64 i 15 - 8)) 5) (.leaf (.t [], ⟨bk (setM c i x), 59⟩ :: S))) (.need (inB (bits .and .i64 i 15) 16) (.leaf (.t [], ⟨bk (setC c i x), 59⟩ :: S)))) ?_ (sus_e i x c S)
  rw [← sus_t E i x c S]
  exact fnTree_sound (P := pe E) orcA_ok tab_ok tab_sz mixed 20000 Try.func30 (by decide) [.c (.p 0 0), .c (.i false .i64 i), .c (.i false .u32 x)] (⟨bk c, 59⟩ :: S)
end Go.Proofs.Ytkgpcdnlbgmglaa

