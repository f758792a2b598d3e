import Derived.Test.YtdomhmajoclpeaaEw

/- A verified symbolic evaluator over the step machine: a function's body is run by the kernel on values that may be unknown; the run forks where a test is not known; the tree of its ends is sound for the machine. -/
set_option linter.unusedVariables false
set_option linter.unusedSimpArgs false
namespace Go.Proofs.Ytdomhmajoclpeaa.Ev
open Go
section
variable {P : PE}

noncomputable def CallTree (P : PE) (g : FuncId) (vs : List SV) (s : SW) (t : Tree (SV × SW)) : Prop :=
  ∀ (W : World) (L : Nat → Prop) (ρ : Rh) (w : World) (post : SV × SW → Prop), Inv P.E W L ρ s w → (∀ v ∈ vs, v.ok s.length = true) → t.OK post →
    Calls P g (vs.map (SV.den ρ)).toArray w fun e w' => ∃ v s' ρ', e = .returned (v.den ρ') ∧ Agree s.length ρ ρ' ∧ s.length ≤ s'.length ∧ v.ok s'.length = true ∧
      Inv P.E W L ρ' s' w' ∧ post (v, s')

noncomputable def OrcOK (P : PE) (orc : Orc) : Prop := ∀ g vs s t, orc g vs s = some t → CallTree P g vs s t
noncomputable def TabOK (P : PE) (tab : Tab) : Prop := ∀ g fn, tab g = some fn → P.funcs[g]? = some fn ∧ (fn.name == "runtime.NumGoroutine") = false ∧ fn.body.isSome = true

theorem mkFrK_eq {β : Type} : ∀ (vs : List SV) (t : Tr) (i : Nat) (K : Tr → β), mkFrK t i vs K = K (mkFrGo t i vs)
  | [], _, _, _ => rfl
  | v :: vs, t, i, K => by simp only [mkFrK, mkFrGo, Tr.setK_eq]; exact mkFrK_eq vs _ _ K

theorem mkFrGo_get : ∀ (vs : List SV) (t : Tr) (i : Nat), (∀ j, i ≤ j → j < i + vs.length → t.has j = true) →
    ∀ j, (mkFrGo t i vs).get j = if i ≤ j ∧ j < i + vs.length then vs.getD (j - i) undefS else t.get j
  | [], t, i, _, j => by simp [mkFrGo]; intro h1 h2; omega
  | v :: vs, t, i, hh, j => by
    simp only [mkFrGo]
    rw [mkFrGo_get vs (t.set i v) (i + 1) (fun j h1 h2 => by rw [Tr.has_set]; exact hh j (by omega) (by simp; omega)) j]
    rw [Tr.get_set _ _ _ _ (hh i (Nat.le_refl _) (by simp))]
    by_cases h1 : j = i
    · subst h1; simp; intro h2; omega
    · by_cases h2 : i ≤ j ∧ j < i + (v :: vs).length
      · simp only [List.length_cons] at h2
        have h3 : i + 1 ≤ j ∧ j < i + 1 + vs.length := by omega
        rw [if_pos h3, if_pos (by simp; omega)]
        obtain ⟨m, hm⟩ : ∃ m, j - i = m + 1 := ⟨j - i - 1, by omega⟩
        have hm' : j - (i + 1) = m := by omega
        rw [hm, hm']; rfl
      · simp only [List.length_cons] at h2
        rw [if_neg (by omega), if_neg h1, if_neg (by simp; omega)]

theorem Tr.has_mk (d : Nat) : ∀ k, k + 1 < 2 ^ d → (Tr.mk d).has k = true := by
  induction d with
  | zero => intro k h; simp at h
  | succ d ih =>
    intro k h
    simp only [Tr.mk, Tr.has]
    by_cases hk : k = 0
    · subst hk; rfl
    · have hk0 : Nat.beq k 0 = false := by cases k <;> simp_all [Nat.beq]
      have hp : 2 ^ (d + 1) = 2 * 2 ^ d := by rw [Nat.pow_succ]; omega
      by_cases h1 : k % 2 = 1
      · have hp1 : Nat.beq (k % 2) 1 = true := by rw [h1]; rfl
        simp only [hk0, hp1, cond_false, cond_true]
        exact ih _ (by omega)
      · have hp1 : Nat.beq (k % 2) 1 = false := by
          have : k % 2 = 0 := by omega
          rw [this]; rfl
        simp only [hk0, hp1, cond_false]
        exact ih _ (by omega)

theorem mkFr_rel {n : Nat} {ρ : Rh} {vs : List SV} {nt : Nat} (hle : vs.length ≤ nt) (hnt : nt < 4095) (hok : ∀ v ∈ vs, v.ok n = true) :
    FrRel n ρ ⟨nt, mkFrGo (Tr.mk 12) 0 vs⟩ { tmps := (vs.map (SV.den ρ)).toArray ++ Array.replicate (nt - (vs.map (SV.den ρ)).toArray.size) undef, defers := [] } := by
  have hget := mkFrGo_get vs (Tr.mk 12) 0 (fun j _ h2 => Tr.has_mk 12 j (by simp at h2 ⊢; omega))
  refine ⟨by simp; omega, fun t ht _ => ?_, fun t ht => ?_, rfl⟩
  · simp only
    rw [hget t]
    by_cases h : t < vs.length
    · rw [if_pos (by omega)]
      rw [Array.getElem?_append_left (by simpa using h)]
      simp [h]
    · rw [if_neg (by omega), Tr.get_mk, undefS_den]
      simp only at ht
      rw [Array.getElem?_append_right (by simpa using h)]
      simp only [List.size_toArray, List.length_map]
      rw [Array.getElem?_replicate, if_pos (by omega)]
  · simp only
    rw [hget t]
    by_cases h : t < vs.length
    · rw [if_pos (by omega)]
      simp [h]
      exact hok _ (List.getElem_mem _)
    · rw [if_neg (by omega), Tr.get_mk]; rfl

noncomputable def resSem (tmps : Array Value) : ResultVar → Sem Value
  | .tmp t => pure (tmps.getD t undef)
  | .cell b t => do loadVar t (← asAddr (tmps.getD b undef))
theorem results_eq (fn : Func) (tmps : Array Value) : results fn tmps = (do
  let vs ← fn.results.mapM (resSem tmps)
  pure (if h : vs.size = 1 then vs[0] else .tuple vs)) := rfl

theorem resL_sound {W : World} {L : Nat → Prop} {ρ : Rh} {s : SW} {w : World} {fr : Fr} {a : Act} (hI : Inv P.E W L ρ s w) (hf : FrRel s.length ρ fr a) :
    ∀ (rs : List ResultVar) (vs : List SV), resL P fr s rs = some vs →
      (rs.mapM (resSem a.tmps)).run P w = .ok (vs.map (SV.den ρ)) w ∧
      ∀ v ∈ vs, v.ok s.length = true
  | [], vs, h => by simp [resL] at h; subst h; simp
  | r :: rs, vs, h => by
    simp only [resL] at h
    split at h
    · cases h
    rename_i v hv
    split at h
    · rename_i vs' hvs
      simp at h; subst h
      obtain ⟨ih1, ih2⟩ := resL_sound hI hf rs vs' hvs
      have key : (resSem a.tmps r).run P w = .ok (v.den ρ) w ∧ v.ok s.length = true := by
        cases r with
        | tmp t =>
          simp only [resS] at hv
          exact ⟨by simp only [resSem]; rw [(hf.get hv).1]; rfl, (hf.get hv).2.1⟩
        | cell b t =>
          simp only [resS] at hv
          split at hv
          · rename_i u hu
            split at hv
            · rename_i u' s' hl
              simp at hv; subst hv
              obtain ⟨_, hok, hr⟩ := loadS_sound (P := P) hI hl (hf.get hu).2.1
              refine ⟨?_, hok⟩
              have h1 := (hf.get hu).1
              simp only [resSem, h1]
              cases u with
              | c x =>
                cases x with
                | p blk off =>
                  simp only [SV.den, C.den, asAddr, Sem.run_bind, Sem.run_pure, Result.andThen_ok]
                  simpa [Instr.loadAt, Instr.sureAddr, SV.den, C.den] using hr
                | q blk off m sz ix =>
                  simp only [SV.den, C.den, asAddr, Sem.run_bind, Sem.run_pure, Result.andThen_ok]
                  simpa [Instr.loadAt, Instr.sureAddr, SV.den, C.den] using hr
                | _ => simp [loadS] at hl
              | _ => simp [loadS] at hl
            · cases hv
          · cases hv
      refine ⟨?_, fun u hu => (List.mem_cons.1 hu).elim (fun e => e ▸ key.2) (ih2 u)⟩
      rw [List.mapM_cons]
      simp only [Sem.run_bind, key.1, Result.andThen_ok, ih1, Sem.run_pure, List.map_cons]
    · cases h

theorem s1L_sound {n : Nat} {ρ : Rh} : ∀ (vs : List SV) (xs : List S1), s1L vs = some xs → vs.map (SV.den ρ) = xs.map (S1.den ρ) ∧ ((∀ v ∈ vs, v.ok n = true) → xs.all (S1.ok n) = true) ∧ xs.length = vs.length
  | [], xs, h => by simp [s1L] at h; subst h; simp
  | v :: vs, xs, h => by
    simp only [s1L] at h
    split at h
    · cases h
    rename_i x hx
    split at h
    · rename_i xs' hxs
      simp at h; subst h
      obtain ⟨h1, h2, h3⟩ := s1L_sound (n := n) (ρ := ρ) vs xs' hxs
      have hd : v.den ρ = x.den ρ ∧ (v.ok n = true → x.ok n = true) := by
        cases v <;> simp [SV.s1] at hx <;> subst hx <;> exact ⟨rfl, id⟩
      refine ⟨by simp [hd.1, h1], fun hv => ?_, by simp [h3]⟩
      simp only [List.all_cons, Bool.and_eq_true]
      exact ⟨hd.2 (hv v List.mem_cons_self), h2 fun u hu => hv u (List.mem_cons_of_mem _ hu)⟩
    · cases h

theorem results1_sound {W : World} {L : Nat → Prop} {ρ : Rh} {s : SW} {w : World} {fr : Fr} {a : Act} {fn : Func} {v : SV} (hI : Inv P.E W L ρ s w) (hf : FrRel s.length ρ fr a)
    (h : results1 P fn fr s = some v) : (results fn a.tmps).run P w = .ok (v.den ρ) w ∧ v.ok s.length = true := by
  unfold results1 at h
  have hmap : ∀ vs, resL P fr s fn.results.toList = some vs → (fn.results.mapM (resSem a.tmps)).run P w = .ok (vs.map (SV.den ρ)).toArray w ∧ ∀ v ∈ vs, v.ok s.length = true := by
    intro vs hvs
    obtain ⟨h1, h2⟩ := resL_sound (P := P) hI hf _ _ hvs
    refine ⟨?_, h2⟩
    have : fn.results.mapM (resSem a.tmps) = List.toArray <$> fn.results.toList.mapM (resSem a.tmps) := by
      conv => lhs; rw [← Array.toArray_toList (xs := fn.results)]
      exact List.mapM_toArray
    rw [this]
    simp only [Sem.run_map, h1, Result.andThen_ok]
  split at h
  · cases h
  · rename_i v' hv'
    simp at h; subst h
    obtain ⟨h1, h2⟩ := hmap _ hv'
    refine ⟨?_, h2 _ (by simp)⟩
    rw [results_eq]
    simp only [Sem.run_bind, h1, Result.andThen_ok]
    simp
  · rename_i vs hne hvs
    split at h
    · rename_i xs hxs
      simp at h; subst h
      obtain ⟨h1, h2⟩ := hmap _ hvs
      obtain ⟨h3, h4, h5⟩ := s1L_sound (n := s.length) (ρ := ρ) _ _ hxs
      refine ⟨?_, h4 h2⟩
      rw [results_eq]
      simp only [Sem.run_bind, h1]
      have : (vs.map (SV.den ρ)).toArray.size ≠ 1 := by
        simp only [List.size_toArray, List.length_map]
        intro e
        obtain ⟨v, rfl⟩ := List.length_eq_one_iff.1 e
        exact hne v rfl
      simp only [Result.andThen_ok]
      rw [dif_neg this, h3]
      rfl
    · cases h
end
end Go.Proofs.Ytdomhmajoclpeaa.Ev

namespace Go.Proofs.Ytdomhmajoclpeaa.Ev
open Go
section
variable {P : PE}

theorem callFunc_run {g : FuncId} {fn : Func} (hf : P.funcs[g]? = some fn) (hn : (fn.name == "runtime.NumGoroutine") = false) (hb : fn.body.isSome = true) (args : Array Value) (w : World) :
    (callFunc g args).run P w = .ok (.enter g args) w := by
  unfold callFunc
  have : fn.body.isNone = false := by cases h : fn.body <;> simp_all
  simp only [Sem.run_bind, run_program, Result.andThen_ok, hf, hn, this, Bool.false_eq_true, if_false, Sem.run_pure]

theorem callTree_of_wp {g : FuncId} {fn : Func} {c : Code} (hf : P.funcs[g]? = some fn) (hb : fn.body = some c) {vs : List SV} {ρ : Rh} {w : World} {R : Ending → World → Prop}
    (h : TodoWp P [.code c] (bodyPost P fn R) { tmps := (vs.map (SV.den ρ)).toArray ++ Array.replicate (fn.ntmps - (vs.map (SV.den ρ)).toArray.size) undef, defers := [] } w) :
    Calls P g (vs.map (SV.den ρ)).toArray w R := calls_of_wp hf hb h.wp

noncomputable def LfQ (P : PE) (post : Lf → Prop) (W : World) (L : Nat → Prop) (n : Nat) (ρ0 : Rh) (Q : Exit → Act → World → Prop) : Prop :=
  ∀ lf a' w' ρ', post lf → Agree n ρ0 ρ' → n ≤ lf.s.length → FrRel lf.s.length ρ' lf.fr a' → Inv P.E W L ρ' lf.s w' →
    if lf.ended then Q .normal a' w' ∧ Q .ret a' w' else TodoWp P lf.todo Q a' w'

theorem Inv.frame {E W : World} {L : Nat → Prop} {ρ ρ' : Rh} {s s' : SW} {w w' : World} (h : Inv E W L ρ s w) (h' : Inv E w (fun _ => True) ρ' s' w') : Inv E W L ρ s w' := by
  have hold : ∀ b, b < w.heap.size → w'.heap[b]? = w.heap[b]? := fun b hb => h'.old b hb trivial
  refine ⟨fun i b hb => ?_, h.okc, h.inj, Nat.le_trans h.grow h'.grow, fun b hb hL => ?_, h.fresh, trivial, h'.os.trans h.os, h'.out.trans h.out, h'.tape.trans h.tape, ⟨h'.ext.1, h'.ext.2.1, h.ext.2.2⟩⟩
  · exact (h.blk i b hb).heap (hold _ (h.lt (List.getElem?_eq_some_iff.1 hb).1))
  · rw [hold b (Nat.lt_of_lt_of_le hb h.grow)]; exact h.old b hb hL

noncomputable def callOf (P : PE) (orc : Orc) (tab : Tab) (n : Nat) : CallK Lf := fun g vs s K => match tab g with
  | none => .fail
  | some fn => match orc g vs s with
    | some t => t.bind fun r => K r.1 r.2
    | none => match fn.body with
      | none => .fail
      | some c => cond (Nat.ble vs.length fn.ntmps) (mkFrK (Tr.mk 12) 0 vs fun t =>
          (run P orc tab n 0 [.code c] ⟨fn.ntmps, t⟩ s).bind fun lf => cond lf.ended (match results1 P fn lf.fr lf.s with | some v => K v lf.s | none => .fail) .fail) .fail

noncomputable def callOfC (P : PE) (orc : Orc) (tab : Tab) (n : Nat) : CallC Lf := fun g vs K => match tab g with
  | none => .fail
  | some fn => match orc g vs [] with
    | some t => t.bind fun r => cond (r.1.ok 0) (K r.1) .fail
    | none => match fn.body with
      | none => .fail
      | some c => cond (Nat.ble vs.length fn.ntmps) (mkFrK (Tr.mk 12) 0 vs fun t =>
          (run P orc tab n 0 [.code c] ⟨fn.ntmps, t⟩ []).bind fun lf => cond lf.ended (match results1 P fn lf.fr lf.s with | some v => cond (v.ok 0) (K v) .fail | none => .fail) .fail) .fail
noncomputable def Mg (v : Bool) (x y z : SV) : Prop := (z.isAny = false → x.isAny = false ∧ y.isAny = false ∧ ∀ ρ, z.den ρ = cond v (x.den ρ) (y.den ρ)) ∧ ∀ n, cond v (x.ok n) (y.ok n) = true → z.ok n = true
theorem mergeCK_spec {β : Type} (v : Bool) (x y : C) (K : C → β) (F : β) : mergeCK v x y K F = F ∨ ∃ z, mergeCK v x y K F = K z ∧ (∀ ρ, z.den ρ = cond v (x.den ρ) (y.den ρ)) ∧ ∀ n, cond v (x.ok n) (y.ok n) = true → z.ok n = true := by
  unfold mergeCK
  split
  · rename_i l a l' b
    cases h : (l && l' && (a == b)) <;> simp only [cond_true, cond_false]
    · exact .inr ⟨_, rfl, fun ρ => by cases v <;> rfl, fun n _ => rfl⟩
    · simp only [Bool.and_eq_true, beq_iff_eq] at h
      exact .inr ⟨_, rfl, fun ρ => by rw [← h.2]; cases v <;> rfl, fun n _ => rfl⟩
  · rename_i l k a l' k' b
    by_cases hk : k = k'
    · subst hk
      rw [if_pos rfl]
      cases h : (l && l' && decide (a = b)) <;> simp only [cond_true, cond_false]
      · exact .inr ⟨_, rfl, fun ρ => by cases v <;> rfl, fun n _ => rfl⟩
      · simp only [Bool.and_eq_true, decide_eq_true_eq] at h
        exact .inr ⟨_, rfl, fun ρ => by rw [← h.2]; cases v <;> rfl, fun n _ => rfl⟩
    · rw [if_neg hk]; exact .inl rfl
  · rename_i l a l' b
    cases h : (l && l' && decide (a = b)) <;> simp only [cond_true, cond_false]
    · exact .inr ⟨_, rfl, fun ρ => by cases v <;> rfl, fun n _ => rfl⟩
    · simp only [Bool.and_eq_true, decide_eq_true_eq] at h
      exact .inr ⟨_, rfl, fun ρ => by rw [← h.2]; cases v <;> rfl, fun n _ => rfl⟩
  · rename_i b o b' o'
    cases h : (Nat.beq b b' && Nat.beq o o') <;> simp only [cond_true, cond_false]
    · exact .inl trivial
    · simp only [Bool.and_eq_true] at h
      obtain rfl := Nat.eq_of_beq_eq_true h.1
      obtain rfl := Nat.eq_of_beq_eq_true h.2
      exact .inr ⟨_, rfl, fun ρ => by cases v <;> rfl, fun n hn => by cases v <;> exact hn⟩
  · rename_i f f'
    cases h : Nat.beq f f' <;> simp only [cond_true, cond_false]
    · exact .inl trivial
    · obtain rfl := Nat.eq_of_beq_eq_true h
      exact .inr ⟨_, rfl, fun ρ => by cases v <;> rfl, fun n hn => by cases v <;> exact hn⟩
  · exact .inl rfl
theorem mergeLK_spec {β : Type} (v : Bool) : ∀ (x y : List C) (K : List C → β) (F : β), mergeLK v x y K F = F ∨ ∃ z, mergeLK v x y K F = K z ∧ (∀ ρ, z.map (C.den ρ) = cond v (x.map (C.den ρ)) (y.map (C.den ρ))) ∧ ∀ n, cond v (okL n x) (okL n y) = true → okL n z = true
  | [], [], K, F => .inr ⟨[], rfl, fun ρ => by cases v <;> rfl, fun n _ => rfl⟩
  | x :: xs, y :: ys, K, F => by
    simp only [mergeLK]
    rcases mergeCK_spec v x y (fun z => mergeLK v xs ys (fun l => K (z :: l)) F) F with h | ⟨z, h, h1, h2⟩
    · exact .inl h
    · rw [h]
      rcases mergeLK_spec v xs ys (fun l => K (z :: l)) F with h | ⟨zs, h, h3, h4⟩
      · exact .inl h
      · refine .inr ⟨z :: zs, h, fun ρ => ?_, fun n hn => ?_⟩
        · simp only [List.map_cons, h1 ρ, h3 ρ]; cases v <;> rfl
        · have e1 := h2 n
          have e2 := h4 n
          cases v <;> simp only [cond_true, cond_false, okL, List.all_cons, Bool.and_eq_true] at hn e1 e2 ⊢ <;> exact ⟨e1 hn.1, e2 hn.2⟩
  | [], _ :: _, _, _ => .inl rfl
  | _ :: _, [], _, _ => .inl rfl
theorem Mg.any {v : Bool} {x y : SV} : Mg v x y .any := ⟨fun h => (by cases h), fun _ _ => rfl⟩
theorem mergeVK_spec {β : Type} (v : Bool) (x y : SV) (K : SV → β) : ∃ z, mergeVK v x y K = K z ∧ Mg v x y z := by
  unfold mergeVK
  split
  · rename_i x y
    rcases mergeCK_spec v x y (fun z => K (.c z)) (K .any) with h | ⟨z, h, h1, h2⟩
    · exact ⟨_, h, Mg.any⟩
    · exact ⟨_, h, fun _ => ⟨rfl, rfl, fun ρ => h1 ρ⟩, h2⟩
  · rename_i x y
    rcases mergeLK_spec v x y (fun z => K (.a z)) (K .any) with h | ⟨z, h, h1, h2⟩
    · exact ⟨_, h, Mg.any⟩
    · refine ⟨_, h, fun _ => ⟨rfl, rfl, fun ρ => ?_⟩, h2⟩
      simp only [SV.den, denL, h1 ρ]; cases v <;> rfl
  · exact ⟨_, rfl, fun _ => ⟨rfl, rfl, fun ρ => by cases v <;> rfl⟩, fun _ _ => rfl⟩
  · exact ⟨_, rfl, Mg.any⟩
noncomputable def Same (fr fr' : Fr) (l : List Nat) : Prop := fr'.nt = fr.nt ∧ (∀ t, fr'.tr.has t = fr.tr.has t) ∧ ∀ t, t ∉ l → fr'.tr.get t = fr.tr.get t
theorem Same.refl (fr : Fr) (l : List Nat) : Same fr fr l := ⟨rfl, fun _ => rfl, fun _ _ => rfl⟩
theorem Same.trans {a b c : Fr} {l l' : List Nat} (h : Same a b l) (h' : Same b c l') (hl : ∀ t, t ∈ l → t ∈ l') : Same a c l' :=
  ⟨h'.1.trans h.1, fun t => (h'.2.1 t).trans (h.2.1 t), fun t ht => (h'.2.2 t ht).trans (h.2.2 t fun e => ht (hl t e))⟩
theorem putK_same {β : Type} {f : Fr} {dst : Option Nat} {v : SV} {F : Tree β} {K : Fr → Tree β} {post : β → Prop} (h : (f.putK dst v F K).OK post) :
    F.OK post ∨ ∃ f', (K f').OK post ∧ Same f f' (logD dst []) ∧ (∀ d, dst = some d → f'.tr.get d = v) ∧ ∀ (n : Nat) (ρ : Rh) (a : Act), FrRel n ρ f a → v.ok n = true → FrRel n ρ f' (a.put dst (v.den ρ)) := by
  rw [Fr.putK_def] at h
  cases dst with
  | none => exact .inr ⟨f, h, Same.refl _ _, fun d hd => (by cases hd), fun n ρ a hf _ => hf⟩
  | some d =>
    simp only at h
    cases hc : Nat.blt d f.nt && f.tr.has d <;> simp only [hc, cond_true, cond_false] at h
    · exact .inl h
    · simp only [Bool.and_eq_true] at hc
      rw [Tr.setK_eq] at h
      refine .inr ⟨_, h, ⟨rfl, fun t => Tr.has_set _ _ _ _, fun t ht => ?_⟩, fun e he => ?_, fun n ρ a hf hv => hf.put (Nat.le_of_ble_eq_true hc.1) hc.2 hv⟩
      · simp only [logD, List.mem_singleton] at ht
        rw [Tr.get_set _ _ _ _ hc.2, if_neg ht]
      · cases he
        rw [Tr.get_set _ _ _ _ hc.2, if_pos rfl]
theorem mergeK_spec {β : Type} {v : Bool} {x y : Fr} {post : β → Prop} : ∀ (l : List Nat) (M : Fr) (F : Tree β) (K : Fr → Tree β), (mergeK v x y l M F K).OK post →
    F.OK post ∨ ∃ M', (K M').OK post ∧ Same M M' l ∧ ∀ t, t ∈ l → Mg v (x.tr.get t) (y.tr.get t) (M'.tr.get t)
  | [], M, F, K, h => .inr ⟨M, h, Same.refl _ _, fun t ht => (by cases ht)⟩
  | d :: l, M, F, K, h => by
    simp only [mergeK] at h
    obtain ⟨z, hz, hm⟩ := mergeVK_spec v (x.tr.get d) (y.tr.get d) fun z => M.putK (some d) z F fun M' => mergeK v x y l M' F K
    rw [hz] at h
    rcases putK_same h with h | ⟨M1, h, hs, hg, _⟩
    · exact .inl h
    · rcases mergeK_spec l M1 F K h with h | ⟨M2, h, hs2, h2⟩
      · exact .inl h
      · refine .inr ⟨M2, h, ⟨hs2.1.trans hs.1, fun t => (hs2.2.1 t).trans (hs.2.1 t), fun t ht => ?_⟩, fun t ht => ?_⟩
        · simp only [List.mem_cons, not_or] at ht
          rw [hs2.2.2 t ht.2, hs.2.2 t (by simp [logD, ht.1])]
        · by_cases hl : t ∈ l
          · exact h2 t hl
          · have : t = d := by
              rcases List.mem_cons.1 ht with h | h
              · exact h
              · exact absurd h hl
            subst this
            rw [hs2.2.2 t hl, hg t rfl]
            exact hm
theorem joinN_T {v : Bool} {x y : List Bool} (h : allT (joinN v x y)) : (v = true → allT x) ∧ (v = false → allT y) := by
  have key : ∀ l : List Bool, andL l = true → allT l := by
    intro l
    induction l with
    | nil => intro _ b hb; cases hb
    | cons b l ih =>
      intro h c hc
      cases l with
      | nil => simp at hc; subst hc; exact h
      | cons b2 l =>
        simp only [andL, Bool.and_eq_true] at h
        rcases List.mem_cons.1 hc with rfl | hc
        · exact h.1
        · exact ih h.2 c hc
  unfold joinN at h
  split at h
  · exact ⟨fun _ b hb => (by cases hb), fun _ b hb => (by cases hb)⟩
  · have := h _ List.mem_cons_self
    exact ⟨fun e => key _ (by rw [e] at this; exact this), fun e => key _ (by rw [e] at this; exact this)⟩
theorem allT_app {x y : List Bool} (h : allT (x ++ y)) : allT x ∧ allT y := ⟨fun b hb => h b (List.mem_append_left _ hb), fun b hb => h b (List.mem_append_right _ hb)⟩
theorem FrRel.joined {n : Nat} {ρ : Rh} {fr X M : Fr} {a : Act} {v lit : Bool} {d : Nat} {lX l : List Nat} (hd : fr.tr.get d = .c (.b lit v)) (hX : FrRel n ρ X a) (hnt : X.nt = fr.nt) (hun : ∀ t, t ∉ lX → t ≠ d → X.tr.get t = fr.tr.get t)
    (hXd : d ∉ lX → X.tr.get d = .c (.b true v)) (hdl : d ∉ l) (hM : Same fr M l) (hl : ∀ t, t ∈ lX → t ∈ l) (hg : ∀ t, t ∈ l → ((M.tr.get t).isAny = false → (X.tr.get t).isAny = false ∧ ∀ ρ, (M.tr.get t).den ρ = (X.tr.get t).den ρ) ∧ ∀ n, (X.tr.get t).ok n = true → (M.tr.get t).ok n = true) : FrRel n ρ M a := by
  have key : ∀ t, t ∉ l → (M.tr.get t).isAny = (X.tr.get t).isAny ∧ (M.tr.get t).den ρ = (X.tr.get t).den ρ ∧ ((X.tr.get t).ok n = true → (M.tr.get t).ok n = true) := by
    intro t ht
    rw [hM.2.2 t ht]
    by_cases e : t = d
    · subst e
      rw [hd, hXd fun e => hdl (hl _ e)]
      exact ⟨rfl, rfl, fun _ => rfl⟩
    · rw [hun t (fun e => ht (hl t e)) e]
      exact ⟨rfl, rfl, id⟩
  refine ⟨by rw [hX.size, hnt, hM.1], fun t ht hna => ?_, fun t ht => ?_, hX.defers⟩
  · have ht' : t < X.nt := by rw [hnt, ← hM.1]; exact ht
    by_cases hl' : t ∈ l
    · obtain ⟨hXa, h1⟩ := (hg t hl').1 hna
      rw [h1 ρ]; exact hX.val t ht' hXa
    · obtain ⟨h1, h2, _⟩ := key t hl'
      rw [h2]; exact hX.val t ht' (h1 ▸ hna)
  · have ht' : t < X.nt := by rw [hnt, ← hM.1]; exact ht
    by_cases hl' : t ∈ l
    · exact (hg t hl').2 n (hX.ok t ht')
    · exact (key t hl').2.2 (hX.ok t ht')
theorem memN_false {l : List Nat} {d : Nat} (h : memN l d = false) : d ∉ l := fun hd => by rw [memN_iff.2 hd] at h; cases h
theorem both_ways {n : Nat} {ρ : Rh} {fr frT frF xT xF M1 M : Fr} {v lit : Bool} {d : Nat} {lT lF : List Nat} (hd : fr.get d = some (.c (.b lit v)))
    (hT : Same fr frT [d]) (hTd : frT.tr.get d = .c (.b true true)) (hF : Same fr frF [d]) (hFd : frF.tr.get d = .c (.b true false))
    (hxT : Same frT xT lT) (hxF : Same frF xF lF) (hnT : memN lT d = false) (hnF : memN lF d = false)
    (hM1 : Same fr M1 lT) (hg1 : ∀ t, t ∈ lT → Mg v (xT.tr.get t) (xF.tr.get t) (M1.tr.get t)) (hM : Same M1 M lF) (hg2 : ∀ t, t ∈ lF → Mg v (xT.tr.get t) (xF.tr.get t) (M.tr.get t)) :
    Same fr M (lT ++ lF) ∧ ∀ a, (v = true → FrRel n ρ xT a → FrRel n ρ M a) ∧ (v = false → FrRel n ρ xF a → FrRel n ρ M a) := by
  have hs : Same fr M (lT ++ lF) := ⟨hM.1.trans hM1.1, fun t => (hM.2.1 t).trans (hM1.2.1 t), fun t ht => by
    simp only [List.mem_append, not_or] at ht
    rw [hM.2.2 t ht.2, hM1.2.2 t ht.1]⟩
  have hdt : fr.tr.get d = .c (.b lit v) := by
    rw [Fr.get_def] at hd
    cases hb : Nat.blt d fr.nt <;> simp only [hb, cond_true, cond_false] at hd
    · cases hd
    · split at hd
      · cases hd
      · simpa using hd
  have hg : ∀ t, t ∈ lT ++ lF → Mg v (xT.tr.get t) (xF.tr.get t) (M.tr.get t) := by
    intro t ht
    by_cases h : t ∈ lF
    · exact hg2 t h
    · rw [hM.2.2 t h]
      exact hg1 t ((List.mem_append.1 ht).resolve_right h)
  have hnT := memN_false hnT
  have hnF := memN_false hnF
  have hdl : d ∉ lT ++ lF := fun h => (List.mem_append.1 h).elim hnT hnF
  refine ⟨hs, fun a => ⟨fun hv hX => ?_, fun hv hX => ?_⟩⟩
  · refine FrRel.joined (lX := lT) (l := lT ++ lF) hdt hX (hxT.1.trans hT.1) (fun t ht hne => ?_) (fun _ => ?_) hdl hs (fun t ht => List.mem_append_left _ ht) (fun t ht => ?_)
    · rw [hxT.2.2 t ht, hT.2.2 t (by simpa using hne)]
    · rw [hxT.2.2 d hnT, hTd, hv]
    · obtain ⟨h1, h2⟩ := hg t ht
      rw [hv] at h1 h2
      exact ⟨fun h => ⟨(h1 h).1, (h1 h).2.2⟩, h2⟩
  · refine FrRel.joined (lX := lF) (l := lT ++ lF) hdt hX (hxF.1.trans hF.1) (fun t ht hne => ?_) (fun _ => ?_) hdl hs (fun t ht => List.mem_append_right _ ht) (fun t ht => ?_)
    · rw [hxF.2.2 t ht, hF.2.2 t (by simpa using hne)]
    · rw [hxF.2.2 d hnF, hFd, hv]
    · obtain ⟨h1, h2⟩ := hg t ht
      rw [hv] at h1 h2
      exact ⟨fun h => ⟨(h1 h).2.1, (h1 h).2.2⟩, h2⟩
theorem segOf_app {ops : Array Oper} {d : Nat} : ∀ {l a b : List (Nat × Fl)}, segOf ops d l = some (a, b) → l = a ++ b
  | [], _, _, h => by cases h
  | (i, p) :: r, a, b, h => by
    unfold segOf at h
    cases q : isPick ops d i <;> simp only [q, cond_true, cond_false] at h
    · split at h
      · rename_i a' b' h'
        simp at h
        obtain ⟨rfl, rfl⟩ := h
        rw [segOf_app h']; rfl
      · cases h
    · simp at h
      obtain ⟨rfl, rfl⟩ := h
      rfl
theorem orc_pure {orc : Orc} (ho : OrcOK P orc) {g : FuncId} {vs : List SV} {b : Bool} {v : SV} {s1 : SW} (h : orc g vs [] = some (.need b (.leaf (v, s1))) ∨ (orc g vs [] = some (.leaf (v, s1)) ∧ b = true)) (hb : b = true) (hvs : vs.all (SV.ok 0) = true) (hv : v.ok 0 = true)
    {W : World} {L : Nat → Prop} {ρ : Rh} {s : SW} {w : World} (hI : Inv P.E W L ρ s w) : Calls P g (vs.map (SV.den ρ)).toArray w fun e w' => e = .returned (v.den ρ) ∧ Inv P.E W L ρ s w' := by
  have hok := List.all_eq_true.1 hvs
  have hargs : vs.map (SV.den ρ) = vs.map (SV.den Rh0) := List.map_congr_left fun x hx => SV.den_agree (fun i hi => absurd hi (Nat.not_lt_zero _)) (hok x hx)
  have hc : ∃ t, orc g vs [] = some t ∧ t.OK fun r => r = (v, s1) := by
    rcases h with h | ⟨h, _⟩
    · exact ⟨_, h, hb, rfl⟩
    · exact ⟨_, h, rfl⟩
  obtain ⟨t, h1, h2⟩ := hc
  rw [hargs]
  refine Calls.mono (ho g vs [] t h1 w (fun _ => True) (Rh0) w _ (Inv.start hI.ext) hok h2) ?_
  rintro e w' ⟨v', s', ρ', rfl, _, _, _, hI', hp⟩
  cases hp
  exact ⟨by rw [SV.den_agree (n := 0) (ρ := ρ) (ρ' := ρ') (fun i hi => absurd hi (Nat.not_lt_zero _)) hv], hI.frame hI'⟩
theorem pureAns_spec {o : Option (Tree (SV × SW))} {r : R} (h : pureAns o = some r) (hn : allT r.nd) : ∃ b s1, (o = some (.need b (.leaf (r.v, s1))) ∨ (o = some (.leaf (r.v, s1)) ∧ b = true)) ∧ b = true ∧ r.v.ok 0 = true := by
  unfold pureAns at h
  split at h
  · rename_i v s1
    cases hv : v.ok 0 <;> simp only [hv, cond_true, cond_false] at h
    · cases h
    · simp at h; subst h; exact ⟨true, s1, .inr ⟨rfl, rfl⟩, rfl, hv⟩
  · rename_i b v s1
    cases hv : v.ok 0 <;> simp only [hv, cond_true, cond_false] at h
    · cases h
    · simp at h; subst h; exact ⟨b, s1, .inl rfl, hn _ List.mem_cons_self, hv⟩
  · cases h
theorem quietR_sound {orc : Orc} {tab : Tab} (ho : OrcOK P orc) (ht : TabOK P tab) {ops : Array Oper} {fr : Fr} {s : SW} {i : Nat} {p : Fl} {o : Oper} {rr : R} (hi : ops[i]? = some o) (h : quietR P orc tab fr s p o.op = some rr) (hn : allT rr.nd)
    {W : World} {L : Nat → Prop} {ρ : Rh} {a : Act} {w : World} (hf : FrRel s.length ρ fr a) (hI : Inv P.E W L ρ s w) (hw : Region.wanted o (yielded ops a.tmps) = true) :
    rr.v.ok s.length = true ∧ ∀ {Kp : Act → World → Prop} {r : List (Nat × Fl)}, (∀ w', Inv P.E W L ρ s w' → SeqWp P ops (Only Kp) r (a.put o.dst (rr.v.den ρ)) w') → SeqWp P ops (Only Kp) ((i, p) :: r) a w := by
  have hev := fun x y h => FrRel.ev hf x y h
  have val : (∀ w', Inv P.E W L ρ s w' → (execOp a.eval o).run P w' = .ok (.value (rr.v.den ρ)) w') → isPure' p = false → ∀ {Kp : Act → World → Prop} {r : List (Nat × Fl)}, (∀ w', Inv P.E W L ρ s w' → SeqWp P ops (Only Kp) r (a.put o.dst (rr.v.den ρ)) w') → SeqWp P ops (Only Kp) ((i, p) :: r) a w := by
    intro hx hp Kp r hk
    cases p
    · refine wpOp_run hi hw ?_
      unfold Oper.wp
      rw [hx w hI]
      exact hk w hI
    · cases hp
    · exact ⟨o, _, hi, .inl ⟨hw, fun w' hw' => by subst hw'; exact hx _ hI⟩, hk w hI⟩
  unfold quietR at h
  simp only [pureOpF_eq, extOpF_eq] at h
  split at h
  · rename_i r' hr
    simp at h; subst h
    have hp := pureOp_sound (P := P.toProgram) hev hr hn
    refine ⟨hp.2, ?_⟩
    intro Kp r hk
    cases hpp : isPure' p
    · exact val (fun w' _ => hp.1 w') hpp hk
    · cases p <;> first | (cases hpp; done) | skip
      exact ⟨o, _, hi, .inl ⟨hw, hp.1⟩, hk w hI⟩
  · cases hpp : isPure' p <;> simp only [hpp, cond_true, cond_false] at h
    rotate_left
    · cases h
    split at h
    · rename_i r' hr
      simp at h; subst h
      exact ⟨(extOp_sound hI hev hr hn).2 _, fun {Kp r} => val (fun w' hw' => (extOp_sound hw' hev hr hn).1) hpp⟩
    · split at h
      · rename_i t x hop
        split at h
        · rename_i v hx
          split at h
          · rename_i u s' hl
            simp at h; subst h
            have h1 := hev _ _ hx
            refine ⟨(loadS_sound (P := P.toProgram) hI hl h1.2).2.1, fun {Kp r} => val (fun w' hw' => ?_) hpp⟩
            obtain ⟨_, _, hrun⟩ := loadS_sound (P := P.toProgram) hw' hl h1.2
            obtain ⟨dst, op, type, pos, after, guard⟩ := o
            simp only at hop
            subst hop
            simp only [execOp, Sem.run_bind, h1.1, hrun, Result.andThen_ok, Sem.run_pure]
          · cases h
        · cases h
      · rename_i f args argTypes hop
        cases hpl : isLoud' p <;> simp only [hpl, cond_true, cond_false] at h
        · cases h
        split at h
        · rename_i g vs hg hvs
          cases hc : (vs.all (SV.ok 0) && (tab g).isSome) <;> simp only [hc, cond_true, cond_false] at h
          · cases h
          simp only [Bool.and_eq_true] at hc
          obtain ⟨fn, hfn⟩ := Option.isSome_iff_exists.1 hc.2
          obtain ⟨t1, t2, t3⟩ := ht g fn hfn
          obtain ⟨b, s1, hb, hbt, hv⟩ := pureAns_spec h hn
          have h1 := hev _ _ hg
          have h2 := evs_sound hev _ _ hvs
          refine ⟨SV.ok_mono (Nat.zero_le _) hv, ?_⟩
          intro Kp r hk
          cases p <;> first | (cases hpl; done) | skip
          refine wpOp_run hi hw ?_
          have hargs : args.map a.eval = (vs.map (SV.den ρ)).toArray := Array.ext' (by rw [Array.toList_map, h2.1])
          unfold Oper.wp
          have hx : (execOp a.eval o).run P w = .ok (.enter g (vs.map (SV.den ρ)).toArray) w := by
            obtain ⟨dst, op, type, pos, after, guard⟩ := o
            simp only at hop
            subst hop
            have h1' : a.eval f = .func (.func g) #[] #[] := h1.1
            simp only [execOp, resolve, hargs, h1', Deferred.ofValue, Sem.run_bind, Sem.run_pure, Result.andThen_ok, invoke]
            simpa using callFunc_run t1 t2 t3 _ w
          rw [hx]
          refine Calls.mono (orc_pure ho hb hbt hc.1 hv hI) ?_
          rintro e w' ⟨rfl, hI'⟩
          exact hk w' hI'
        · cases h
      · cases h
noncomputable def QRel (fr : Fr) (lg : List Nat) (nd : List Bool) (fr' : Fr) (lg' : List Nat) (nd' : List Bool) : Prop := Same fr fr' lg' ∧ (∀ t, t ∈ lg → t ∈ lg') ∧ (allT nd' → allT nd)
theorem wanted_lit {ops : Array Oper} {o : Oper} {n : Nat} {ρ : Rh} {fr : Fr} {a : Act} (hf : FrRel n ρ fr a) {j : Nat} {want : Bool} (hg : o.guard = some (j, want)) {d : Nat} (hd : (ops[j]?).bind (·.dst) = some d) {lit v : Bool} (hv : fr.get d = some (.c (.b lit v))) :
    Region.wanted o (yielded ops a.tmps) = (v == want) := by
  have h1 := hf.get hv
  have hy : yielded ops a.tmps j = some v := by
    unfold yielded
    rw [hd]
    simp only [Option.bind_some, h1.2.2]
    rfl
  simp only [Region.wanted, hg, hy]
  cases v <;> cases want <;> rfl
theorem SeqWp_skip {ops : Array Oper} {i : Nat} {p : Fl} {o : Oper} {r : List (Nat × Fl)} {a : Act} {w : World} {Kp : Act → World → Prop} (hi : ops[i]? = some o) (hw : Region.wanted o (yielded ops a.tmps) = false) (h : SeqWp P ops (Only Kp) r (a.put o.dst undef) w) :
    SeqWp P ops (Only Kp) ((i, p) :: r) a w := by
  cases p
  · exact wpOp_skip hi hw h
  · exact ⟨o, undef, hi, .inr ⟨hw, rfl⟩, h⟩
  · exact ⟨o, undef, hi, .inr ⟨hw, rfl⟩, h⟩
theorem put_true {n : Nat} {ρ : Rh} {fr : Fr} {a : Act} {d : Nat} {lit v b : Bool} (hf : FrRel n ρ fr a) (hv : fr.get d = some (.c (.b lit v))) (hb : v = b) : a.put (some d) ((SV.c (.b true b)).den ρ) = a := by
  have h1 := hf.get hv
  simp only [Act.put]
  have h2 : a.tmps[d]? = some ((SV.c (.b true b)).den ρ) := by rw [h1.2.2, hb]; rfl
  obtain ⟨hlt, he⟩ := Array.getElem?_eq_some_iff.1 h2
  have hset : a.tmps.setIfInBounds d ((SV.c (.b true b)).den ρ) = a.tmps := by
    apply Array.ext_getElem?
    intro j
    by_cases hj : d = j
    · subst hj
      rw [Array.getElem?_setIfInBounds_self, h2]
      simp [hlt]
    · rw [Array.getElem?_setIfInBounds_ne hj]
  rw [hset]
theorem logD_nil (d : Option Nat) (l : List Nat) : ∀ t, t ∈ logD d [] → t ∈ logD d l := by
  cases d with
  | none => intro t ht; cases ht
  | some d => intro t ht; simp only [logD, List.mem_singleton] at ht; subst ht; exact List.mem_cons_self
theorem logD_sub (d : Option Nat) (l : List Nat) : ∀ t, t ∈ l → t ∈ logD d l := by
  cases d with
  | none => intro t ht; exact ht
  | some d => intro t ht; exact List.mem_cons_of_mem _ ht
theorem quietOps_sound {orc : Orc} {tab : Tab} (ho : OrcOK P orc) (ht : TabOK P tab) {ops : Array Oper} {s : SW} : ∀ (n : Nat) {β : Type} (l : List (Nat × Fl)) (fr : Fr) (lg : List Nat) (nd : List Bool) (K : Fr → List Nat → List Bool → Tree β) (F : Tree β) (post : β → Prop),
    (quietOps P orc tab ops s n l fr lg nd K F).OK post → F.OK post ∨ ∃ fr' lg' nd', (K fr' lg' nd').OK post ∧ QRel fr lg nd fr' lg' nd' ∧
      (allT nd' → ∀ (W : World) (L : Nat → Prop) (ρ : Rh) (a : Act) (w : World) (Kp : Act → World → Prop) (r : List (Nat × Fl)), FrRel s.length ρ fr a → Inv P.E W L ρ s w →
        (∀ a' w', FrRel s.length ρ fr' a' → Inv P.E W L ρ s w' → SeqWp P ops (Only Kp) r a' w') → SeqWp P ops (Only Kp) (l ++ r) a w) := by
  intro n
  induction n with
  | zero => intro β l fr lg nd K F post h; exact .inl h
  | succ n ih =>
    intro β l fr lg nd K F post h
    cases l with
    | nil => exact .inr ⟨fr, lg, nd, h, ⟨Same.refl _ _, fun _ h => h, id⟩, fun _ W L ρ a w Kp r hf hI hk => hk a w hf hI⟩
    | cons ip r0 =>
      obtain ⟨i, p⟩ := ip
      simp only [quietOps] at h
      split at h
      · exact .inl h
      rename_i o hi
      -- one that is wanted
      have one : ∀ (hw : ∀ (ρ : Rh) (a : Act), FrRel s.length ρ fr a → Region.wanted o (yielded ops a.tmps) = true),
          (match quietR P orc tab fr s p o.op with | none => F | some rr => fr.putK o.dst rr.v F fun fr' => quietOps P orc tab ops s n r0 fr' (logD o.dst lg) (nd ++ rr.nd) K F).OK post →
          F.OK post ∨ ∃ fr' lg' nd', (K fr' lg' nd').OK post ∧ QRel fr lg nd fr' lg' nd' ∧
            (allT nd' → ∀ (W : World) (L : Nat → Prop) (ρ : Rh) (a : Act) (w : World) (Kp : Act → World → Prop) (r : List (Nat × Fl)), FrRel s.length ρ fr a → Inv P.E W L ρ s w →
              (∀ a' w', FrRel s.length ρ fr' a' → Inv P.E W L ρ s w' → SeqWp P ops (Only Kp) r a' w') → SeqWp P ops (Only Kp) ((i, p) :: r0 ++ r) a w) := by
        intro hw h
        split at h
        · exact .inl h
        rename_i rr hr
        rcases putK_same h with h | ⟨f1, h, hs, _, hput⟩
        · exact .inl h
        rcases ih _ _ _ _ _ _ _ h with h | ⟨fr', lg', nd', hk, hq, hsem⟩
        · exact .inl h
        refine .inr ⟨fr', lg', nd', hk, ⟨hs.trans hq.1 fun t ht => hq.2.1 t (logD_nil _ _ t ht), fun t ht => hq.2.1 t (logD_sub _ _ t ht), fun hn => (allT_app (hq.2.2 hn)).1⟩, ?_⟩
        intro hn W L ρ a w Kp r hf hI hc
        have hnr := (allT_app (hq.2.2 hn)).2
        obtain ⟨hok, hstep⟩ := quietR_sound ho ht hi hr hnr hf hI (hw ρ a hf)
        exact hstep fun w' hI' => hsem hn W L ρ _ w' Kp r (hput _ _ _ hf hok) hI' hc
      -- one that isn't
      have skip : ∀ (hw : ∀ (ρ : Rh) (a : Act), FrRel s.length ρ fr a → Region.wanted o (yielded ops a.tmps) = false),
          (fr.putK o.dst undefS F fun fr' => quietOps P orc tab ops s n r0 fr' (logD o.dst lg) nd K F).OK post →
          F.OK post ∨ ∃ fr' lg' nd', (K fr' lg' nd').OK post ∧ QRel fr lg nd fr' lg' nd' ∧
            (allT nd' → ∀ (W : World) (L : Nat → Prop) (ρ : Rh) (a : Act) (w : World) (Kp : Act → World → Prop) (r : List (Nat × Fl)), FrRel s.length ρ fr a → Inv P.E W L ρ s w →
              (∀ a' w', FrRel s.length ρ fr' a' → Inv P.E W L ρ s w' → SeqWp P ops (Only Kp) r a' w') → SeqWp P ops (Only Kp) ((i, p) :: r0 ++ r) a w) := by
        intro hw h
        rcases putK_same h with h | ⟨f1, h, hs, _, hput⟩
        · exact .inl h
        rcases ih _ _ _ _ _ _ _ h with h | ⟨fr', lg', nd', hk, hq, hsem⟩
        · exact .inl h
        refine .inr ⟨fr', lg', nd', hk, ⟨hs.trans hq.1 fun t ht => hq.2.1 t (logD_nil _ _ t ht), fun t ht => hq.2.1 t (logD_sub _ _ t ht), hq.2.2⟩, ?_⟩
        intro hn W L ρ a w Kp r hf hI hc
        have hf1 := hput _ _ _ hf (undefS_ok _)
        rw [undefS_den] at hf1
        exact SeqWp_skip hi (hw ρ a hf) (hsem hn W L ρ _ w Kp r hf1 hI hc)
      split at h
      · rename_i hg
        exact one (fun ρ a _ => by simp [Region.wanted, hg]) h
      · rename_i j want hg
        split at h
        · exact .inl h
        rename_i d hd
        split at h
        · rename_i lit v hv
          cases lit <;> simp only [cond_true, cond_false] at h
          · split at h
            · exact .inl h
            rename_i seg rest hseg
            have hl := segOf_app hseg
            rcases putK_same h with h | ⟨frT, h, hsT, hgT, hpT⟩
            · exact .inl h
            rcases ih _ _ _ _ _ _ _ h with h | ⟨xT, lT, nT, h, hqT, hsemT⟩
            · exact .inl h
            rcases putK_same h with h | ⟨frF, h, hsF, hgF, hpF⟩
            · exact .inl h
            rcases ih _ _ _ _ _ _ _ h with h | ⟨xF, lF, nF, h, hqF, hsemF⟩
            · exact .inl h
            cases hm : (memN lT d || memN lF d) <;> simp only [hm, cond_true, cond_false] at h
            rotate_left
            · exact .inl h
            simp only [Bool.or_eq_false_iff] at hm
            rcases mergeK_spec _ _ _ _ h with h | ⟨M1, h, hM1, hg1⟩
            · exact .inl h
            rcases mergeK_spec _ _ _ _ h with h | ⟨M, h, hM, hg2⟩
            · exact .inl h
            rw [joinNK_eq] at h
            rcases ih _ _ _ _ _ _ _ h with h | ⟨fr', lg', nd', hk, hq, hsem⟩
            · exact .inl h
            have bw := fun ρ => both_ways (n := s.length) (ρ := ρ) hv hsT (hgT d rfl) hsF (hgF d rfl) hqT.1 hqF.1 hm.1 hm.2 hM1 hg1 hM hg2
            refine .inr ⟨fr', lg', nd', hk, ⟨(bw Rh0).1.trans hq.1 fun t ht => hq.2.1 t (by simp only [List.mem_append] at ht ⊢; rcases ht with h | h; exact .inl h; exact .inr (.inl h)), fun t ht => hq.2.1 t (by simp only [List.mem_append]; exact .inr (.inr ht)), fun hn => (allT_app (hq.2.2 hn)).1⟩, ?_⟩
            intro hn W L ρ a w Kp r hf hI hc
            have hj := joinN_T (allT_app (hq.2.2 hn)).2
            have hcont : ∀ a' w', FrRel s.length ρ M a' → Inv P.E W L ρ s w' → SeqWp P ops (Only Kp) (rest ++ r) a' w' := fun a' w' hf' hI' => hsem hn W L ρ a' w' Kp r hf' hI' hc
            rw [hl, List.append_assoc]
            cases v
            · have hfF := hpF _ _ _ hf rfl
              rw [put_true hf hv rfl] at hfF
              exact hsemF (hj.2 rfl) W L ρ a w Kp _ hfF hI fun a' w' hf' hI' => hcont a' w' (((bw ρ).2 a').2 rfl hf') hI'
            · have hfT := hpT _ _ _ hf rfl
              rw [put_true hf hv rfl] at hfT
              exact hsemT (hj.1 rfl) W L ρ a w Kp _ hfT hI fun a' w' hf' hI' => hcont a' w' (((bw ρ).2 a').1 rfl hf') hI'
          · cases hvw : (v == want) <;> simp only [hvw, cond_true, cond_false] at h
            · exact skip (fun ρ a hf => by rw [wanted_lit hf hg hd hv, hvw]) h
            · exact one (fun ρ a hf => by rw [wanted_lit hf hg hd hv, hvw]) h
        · rename_i hv
          refine skip (fun ρ a hf => ?_) h
          have h1 := hf.get hv
          have hy : yielded ops a.tmps j = none := by
            unfold yielded
            rw [hd]
            simp only [Option.bind_some, h1.2.2]
            rfl
          simp only [Region.wanted, hg, hy]
          cases want <;> rfl
        · exact .inl h
theorem quietC_sound {orc : Orc} {tab : Tab} (ho : OrcOK P orc) (ht : TabOK P tab) (hm : P.follows .mixedOrders = true) {s : SW} : ∀ (n : Nat) {β : Type} (todo : List Item) (fr : Fr) (lg : List Nat) (nd : List Bool) (K : Fr → List Nat → List Bool → Tree β) (F : Tree β) (post : β → Prop),
    (quietC P orc tab s n todo fr lg nd K F).OK post → F.OK post ∨ ∃ fr' lg' nd', (K fr' lg' nd').OK post ∧ QRel fr lg nd fr' lg' nd' ∧
      (allT nd' → ∀ (W : World) (L : Nat → Prop) (ρ : Rh) (a : Act) (w : World) (Q : Exit → Act → World → Prop) (k : List Item), FrRel s.length ρ fr a → Inv P.E W L ρ s w →
        (∀ a' w', FrRel s.length ρ fr' a' → Inv P.E W L ρ s w' → TodoWp P k Q a' w') → TodoWp P (todo ++ k) Q a w) := by
  intro n
  induction n with
  | zero => intro β todo fr lg nd K F post h; exact .inl h
  | succ n ih =>
    intro β todo fr lg nd K F post h
    have again : ∀ todo' : List Item, (∀ (Q : Exit → Act → World → Prop) (a : Act) (w : World) (k : List Item), TodoWp P (todo' ++ k) Q a w → TodoWp P (todo ++ k) Q a w) → (quietC P orc tab s n todo' fr lg nd K F).OK post →
        F.OK post ∨ ∃ fr' lg' nd', (K fr' lg' nd').OK post ∧ QRel fr lg nd fr' lg' nd' ∧
          (allT nd' → ∀ (W : World) (L : Nat → Prop) (ρ : Rh) (a : Act) (w : World) (Q : Exit → Act → World → Prop) (k : List Item), FrRel s.length ρ fr a → Inv P.E W L ρ s w →
            (∀ a' w', FrRel s.length ρ fr' a' → Inv P.E W L ρ s w' → TodoWp P k Q a' w') → TodoWp P (todo ++ k) Q a w) := by
      intro todo' hst h
      rcases ih _ _ _ _ _ _ _ h with h | ⟨fr', lg', nd', hk, hq, hsem⟩
      · exact .inl h
      · exact .inr ⟨fr', lg', nd', hk, hq, fun hn W L ρ a w Q k hf hI hc => hst Q a w k (hsem hn W L ρ a w Q k hf hI hc)⟩
    -- a region
    have region : ∀ (id : Nat) (ops : Array Oper) (draw : Bool) (k0 : List Item) (l : List (Nat × Fl)), todo = .code (.region id ops draw) :: k0 →
        (∀ (a : Act) (w : World) (Kp : Act → World → Prop), (draw = true → SeqWp P ops (Only Kp) l a { w with drawn := w.drawn + 1 }) → (draw = false → SeqWp P ops (Only Kp) l a w) → (Code.region id ops draw).wp P (Only Kp) a w) →
        (quietOps P orc tab ops s n l fr lg nd (fun fr lg nd => quietC P orc tab s n k0 fr lg nd K F) F).OK post →
        F.OK post ∨ ∃ fr' lg' nd', (K fr' lg' nd').OK post ∧ QRel fr lg nd fr' lg' nd' ∧
          (allT nd' → ∀ (W : World) (L : Nat → Prop) (ρ : Rh) (a : Act) (w : World) (Q : Exit → Act → World → Prop) (k : List Item), FrRel s.length ρ fr a → Inv P.E W L ρ s w →
            (∀ a' w', FrRel s.length ρ fr' a' → Inv P.E W L ρ s w' → TodoWp P k Q a' w') → TodoWp P (todo ++ k) Q a w) := by
      intro id ops draw k0 l htodo hreg h
      rcases quietOps_sound ho ht _ _ _ _ _ _ _ _ h with h | ⟨f1, l1, n1, h, hq1, hsem1⟩
      · exact .inl h
      rcases ih _ _ _ _ _ _ _ h with h | ⟨fr', lg', nd', hk, hq, hsem⟩
      · exact .inl h
      refine .inr ⟨fr', lg', nd', hk, ⟨hq1.1.trans hq.1 hq.2.1, fun t ht => hq.2.1 t (hq1.2.1 t ht), fun hn => hq1.2.2 (hq.2.2 hn)⟩, ?_⟩
      intro hn W L ρ a w Q k hf hI hc
      rw [htodo]
      have go : ∀ w1, Inv P.E W L ρ s w1 → SeqWp P ops (Only (TodoWp P (k0 ++ k) Q)) l a w1 := by
        intro w1 hI1
        have := hsem1 (hq.2.2 hn) W L ρ a w1 (TodoWp P (k0 ++ k) Q) [] hf hI1 fun a' w' hf' hI' => hsem hn W L ρ a' w' Q k hf' hI' hc
        rw [List.append_nil] at this
        exact this
      exact TodoWp.code (hreg a w _ (fun _ => go _ (hI.drawn _)) (fun _ => go _ hI))
    simp only [quietC] at h
    split at h
    · exact .inr ⟨fr, lg, nd, h, ⟨Same.refl _ _, fun _ h => h, id⟩, fun _ W L ρ a w Q k hf hI hk => hk a w hf hI⟩
    · exact again _ (fun Q a w k h => TodoWp.skip h) h
    · exact again _ (fun Q a w k h => TodoWp.label h) h
    · exact again _ (fun Q a w k h => TodoWp.inBlock h) h
    · exact again _ (fun Q a w k h => TodoWp.inScope h) h
    · exact again _ (fun Q a w k h => TodoWp.seq h) h
    · exact again _ (fun Q a w k h => TodoWp.scope h) h
    · exact again _ (fun Q a w k h => TodoWp.block h) h
    · split at h
      · rename_i k' hk'
        exact again _ (fun Q a w k h => TodoWp.exit (exitTo_append hk' k) h) h
      · exact .inl h
    · rename_i c x y k0
      split at h
      · rename_i lit v hv
        have h1 : ∀ (ρ : Rh) (a : Act), FrRel s.length ρ fr a → a.eval c = .bool v := fun ρ a hf => (FrRel.ev hf _ _ hv).1
        cases lit <;> simp only [cond_true, cond_false] at h
        · split at h
          · rename_i d
            have hv : fr.get d = some (.c (.b false v)) := hv
            rcases putK_same h with h | ⟨frT, h, hsT, hgT, hpT⟩
            · exact .inl h
            rcases ih _ _ _ _ _ _ _ h with h | ⟨xT, lT, nT, h, hqT, hsemT⟩
            · exact .inl h
            rcases putK_same h with h | ⟨frF, h, hsF, hgF, hpF⟩
            · exact .inl h
            rcases ih _ _ _ _ _ _ _ h with h | ⟨xF, lF, nF, h, hqF, hsemF⟩
            · exact .inl h
            cases hm' : (memN lT d || memN lF d) <;> simp only [hm', cond_true, cond_false] at h
            rotate_left
            · exact .inl h
            simp only [Bool.or_eq_false_iff] at hm'
            rcases mergeK_spec _ _ _ _ h with h | ⟨M1, h, hM1, hg1⟩
            · exact .inl h
            rcases mergeK_spec _ _ _ _ h with h | ⟨M, h, hM, hg2⟩
            · exact .inl h
            rw [joinNK_eq] at h
            rcases ih _ _ _ _ _ _ _ h with h | ⟨fr', lg', nd', hk, hq, hsem⟩
            · exact .inl h
            have bw := fun ρ => both_ways (n := s.length) (ρ := ρ) hv hsT (hgT d rfl) hsF (hgF d rfl) hqT.1 hqF.1 hm'.1 hm'.2 hM1 hg1 hM hg2
            refine .inr ⟨fr', lg', nd', hk, ⟨(bw Rh0).1.trans hq.1 fun t ht => hq.2.1 t (by simp only [List.mem_append] at ht ⊢; rcases ht with h | h; exact .inl h; exact .inr (.inl h)), fun t ht => hq.2.1 t (by simp only [List.mem_append]; exact .inr (.inr ht)), fun hn => (allT_app (hq.2.2 hn)).1⟩, ?_⟩
            intro hn W L ρ a w Q k hf hI hc
            have hj := joinN_T (allT_app (hq.2.2 hn)).2
            have hcont : ∀ a' w', FrRel s.length ρ M a' → Inv P.E W L ρ s w' → TodoWp P (k0 ++ k) Q a' w' := fun a' w' hf' hI' => hsem hn W L ρ a' w' Q k hf' hI' hc
            refine TodoWp.cond (h1 ρ a hf) ?_
            cases v
            · have hfF := hpF _ _ _ hf rfl
              rw [put_true hf hv rfl] at hfF
              exact hsemF (hj.2 rfl) W L ρ a w Q _ hfF hI fun a' w' hf' hI' => hcont a' w' (((bw ρ).2 a').2 rfl hf') hI'
            · have hfT := hpT _ _ _ hf rfl
              rw [put_true hf hv rfl] at hfT
              exact hsemT (hj.1 rfl) W L ρ a w Q _ hfT hI fun a' w' hf' hI' => hcont a' w' (((bw ρ).2 a').1 rfl hf') hI'
          · exact .inl h
        · cases v <;> simp only [cond_true, cond_false] at h
          · rcases ih _ _ _ _ _ _ _ h with h | ⟨fr', lg', nd', hk, hq, hsem⟩
            · exact .inl h
            · exact .inr ⟨fr', lg', nd', hk, hq, fun hn W L ρ a w Q k hf hI hc => TodoWp.cond (h1 ρ a hf) (hsem hn W L ρ a w Q k hf hI hc)⟩
          · rcases ih _ _ _ _ _ _ _ h with h | ⟨fr', lg', nd', hk, hq, hsem⟩
            · exact .inl h
            · exact .inr ⟨fr', lg', nd', hk, hq, fun hn W L ρ a w Q k hf hI hc => TodoWp.cond (h1 ρ a hf) (hsem hn W L ρ a w Q k hf hI hc)⟩
      · exact .inl h
    · rename_i id ops draw k0
      cases draw <;> simp only [cond_true, cond_false] at h
      · exact region id ops false k0 _ rfl (fun a w Kp _ hw => wp_region (SeqWp.ops _ _ _ (hw rfl))) h
      · cases hs : Region.noSelect ops <;> simp only [hs, cond_true, cond_false] at h
        · exact .inl h
        split at h
        · rename_i l hl
          exact region id ops true k0 l rfl (fun a w Kp hw _ => sched_wp hm hs hl (hw rfl)) h
        · exact .inl h
    · exact .inl h
theorem yHint_eq {ops : Array Oper} {l : List (Nat × Fl)} (h : yHint P ops = some l) : schedY (cvH P) ops ops.size (Array.replicate ops.size false) = some l := by
  unfold yHint at h
  cases hq : (hintOf P.h 0 1).isSome <;> simp only [hq, cond_true, cond_false] at h
  · cases h
  · exact h
theorem noCall_ok {β : Type} {W : World} {L : Nat → Prop} : CallOK P W L (noCall (β := β)) := fun _ _ _ _ _ _ _ h => h.elim
noncomputable def Tl (n : Nat) (s s' : SW) : Prop := n ≤ s'.length ∧ ∀ i, i < n → s'[i]? = s[i]?
theorem Tl.refl {n : Nat} {s : SW} (h : n ≤ s.length) : Tl n s s := ⟨h, fun _ _ => rfl⟩
theorem Tl.app {n : Nat} {s e : SW} (h : n ≤ s.length) : Tl n s (s ++ e) := ⟨by simp; omega, fun i hi => List.getElem?_append_left (by omega)⟩
theorem Tl.trans {n : Nat} {a b c : SW} (h : Tl n a b) (h' : Tl n b c) : Tl n a c := ⟨h'.1, fun i hi => (h'.2 i hi).trans (h.2 i hi)⟩
theorem storeS_tl {n : Nat} {s s' : SW} {t : TypeId} {x v u : SV} {P : Program} {b o : Nat} (hx : x = .c (.p b o)) (hb : n ≤ b) (hn : n ≤ s.length) (h : storeS P s t x v = some (u, s')) : Tl n s s' := by
  subst hx
  unfold storeS at h
  simp only [lenOK_eq] at h
  split at h
  · cases h
  rename_i bl hbl
  split at h
  · rename_i vs i _ _
    cases hc : (Nat.beq vs.length i.size && vs.all C.storable && Nat.ble (o + vs.length) bl.cs.length) <;> simp only [hc, cond_true, cond_false] at h
    · cases h
    rw [writeLK_eq, setLK_eq] at h
    simp at h
    obtain ⟨_, rfl⟩ := h
    exact ⟨by simpa using hn, fun j hj => List.getElem?_set_ne (by omega)⟩
  · cases h
theorem newA_tl {n m sz : Nat} {s s' : SW} {cs : List C} {ty : TypeId} {v : SV} (hn : n ≤ s.length) (h : newA s cs ty m sz = some (v, s')) : Tl n s s' := by
  obtain ⟨_, _, rfl⟩ := newA_spec h
  exact Tl.app hn
theorem makeS_tl {n : Nat} {s s' : SW} {P : Program} {t : TypeId} {l c u : SV} (hn : n ≤ s.length) (h : makeS P s t l c = some (u, s')) : Tl n s s' := by
  unfold makeS at h
  split at h
  rotate_left
  · cases h
  rename_i elem kl l kc c ht
  split at h
  · cases h
  rename_i e he
  split at h
  · cases h
  rename_i z hz
  cases hc : (decide (0 ≤ l) && decide (l ≤ c) && decide (c ≤ 2 ^ 30) && Nat.ble (e.bytes * c.toNat) (2 ^ 40) && Nat.blt 0 e.size && Nat.blt elem MAPTY) <;> simp only [hc, cond_true, cond_false] at h
  · cases h
  rw [forceN_eq, cellsOfK_eq, forceN_eq, forceN_eq, forceN_eq, appLK_eq] at h
  simp at h
  rw [← h.2]
  exact Tl.app hn
theorem appendS_tl {n : Nat} {s s' : SW} {P : Program} {t : TypeId} {b c : Nat} {x u : SV} (hn : n ≤ s.length) (h : appendS P s t (.c (.x (.slice none b c))) x = some (u, s')) : Tl n s s' := by
  unfold appendS at h
  split at h
  rotate_left
  · cases h
  split at h
  · cases h
  split at h
  · cases h
  rename_i elem _ _ e _ _ z _
  cases hc : (Nat.beq z.cells.size e.size && Nat.blt 0 e.size) <;> simp only [hc, cond_true, cond_false] at h
  · cases h
  have key : ∀ (m : Nat) (news : List C), (cond (news.all C.storable && Nat.blt 0 m) (cond (appendS.isNil0 (.c (.x (.slice none b c))) && Nat.ble m (2 ^ 40) && Nat.ble (m * e.bytes) (2 ^ 40)) (newA s news elem m e.size) none) none) = some (u, s') → Tl n s s' := by
    intro m news h
    cases hc : (news.all C.storable && Nat.blt 0 m) <;> simp only [hc, cond_true, cond_false] at h
    · cases h
    cases hd : (appendS.isNil0 (.c (.x (.slice none b c))) && Nat.ble m (2 ^ 40) && Nat.ble (m * e.bytes) (2 ^ 40)) <;> simp only [hd, cond_true, cond_false] at h
    · cases h
    exact newA_tl hn h
  unfold viewK at h
  split at h
  · split at h
    · cases h
    rw [takeLK_eq] at h
    revert h
    cases (Nat.beq _ _) <;> intro h
    · cases h
    · exact key _ _ h
  · split at h
    · cases h
    rw [takeLK_eq] at h
    revert h
    cases (Nat.beq _ _) <;> intro h
    · cases h
    · exact key _ _ h
  · cases h
theorem selK_some {γ : Type} {cs : List C} {i : Int} {K : C → Option γ} {r : γ} (h : selK cs i K = some r) : ∃ c, K c = some r := by
  unfold selK at h
  split at h
  · obtain ⟨l, h1, _⟩ := intsK_spec _ _ _ h; exact ⟨_, h1⟩
  · obtain ⟨l, h1, _⟩ := boolsK_spec _ _ _ h; exact ⟨_, h1⟩
  · cases h
theorem selsK_some {γ : Type} {cs : List C} {m sz : Nat} {ix : Int} : ∀ (n off : Nat) (K : List C → Option γ) (r : γ), selsK cs m sz ix n off K = some r → ∃ l, K l = some r
  | 0, off, K, r, h => ⟨[], h⟩
  | n + 1, off, K, r, h => by
    simp only [selsK] at h
    obtain ⟨l, h1, _⟩ := gatherK_spec _ _ _ _ h
    obtain ⟨c, hc⟩ := selK_some h1
    obtain ⟨l, h3⟩ := selsK_some n _ _ _ hc
    exact ⟨_, h3⟩
theorem loadS_same {s s' : SW} {P : Program} {t : TypeId} {x v : SV} (h : loadS P s t x = some (v, s')) : s' = s := by
  unfold loadS at h
  simp only [nthR_eq, dropR_eq] at h
  split at h
  · split at h
    · cases h
    split at h
    · cases h
    rename_i d _
    cases hd : aggB d <;> simp only [hd, cond_true, cond_false] at h
    · split at h
      · simp at h; exact h.2.symm
      · cases h
    · split at h
      · cases h
      rw [takeLK_eq] at h
      revert h
      cases (Nat.beq _ _) <;> intro h
      · cases h
      · simp at h; exact h.2.symm
  · split at h
    · cases h
    split at h
    · cases h
    rename_i d _
    cases hd : aggB d <;> simp only [hd, cond_true, cond_false] at h
    · obtain ⟨l, h1, _⟩ := gatherK_spec _ _ _ _ h
      obtain ⟨c, hc⟩ := selK_some h1
      simp at hc; exact hc.2.symm
    · split at h
      · cases h
      obtain ⟨l, h1⟩ := selsK_some _ _ _ _ h
      simp at h1; exact h1.2.symm
  · cases h
theorem heapOp_tl {n : Nat} {s s' : SW} {fr : Fr} {op : Op} {v : SV} (hk : keepsOp n fr op = true) (hn : n ≤ s.length) (h : heapOp P fr.ev s op = some (v, s')) : Tl n s s' := by
  unfold keepsOp at hk
  split at hk
  · rename_i t a x
    split at hk
    rotate_left
    · cases hk
    rename_i b o ha
    simp only [heapOp, heapOpA, heapOpB, heapOpC, heapOpD, ha] at h
    split at h
    · rename_i r hr
      cases h
      split at hr
      · rename_i u v' h1 h2
        cases h1
        exact storeS_tl rfl (Nat.le_of_ble_eq_true hk) hn hr
      · cases hr
    · cases h
  · obtain ⟨e, rfl⟩ := heapOp_makes rfl h; exact Tl.app hn
  · obtain ⟨e, rfl⟩ := heapOp_makes rfl h; exact Tl.app hn
  · simp only [heapOp, heapOpA, heapOpB, heapOpC, heapOpD] at h
    split at h
    · rename_i r hr
      cases h
      split at hr
      · exact makeS_tl hn (makeT_some hr)
      · cases hr
    · cases h
  · simp only [heapOp, heapOpA, heapOpB, heapOpC, heapOpD] at h
    split at h
    · rename_i r hr
      cases h
      split at hr
      · rw [loadS_same hr]; exact Tl.refl hn
      · cases hr
    · cases h
  · split at hk
    rotate_left
    · cases hk
    rename_i b c _ ha
    simp only [heapOp, heapOpA, heapOpB, heapOpC, heapOpD, ha] at h
    split at h
    · rename_i r hr
      cases h
      split at hr
      · rename_i v' x t t' h1 h2
        cases h1
        cases ht : Nat.beq t t' <;> simp only [ht, cond_true, cond_false] at hr
        · cases hr
        exact appendS_tl hn hr
      · cases hr
    · cases h
  · cases hk
theorem putK_opt {γ : Type} {f : Fr} {dst : Option Nat} {v : SV} {g : Fr → γ} {x : γ} (h : f.putK dst v none (fun f' => some (g f')) = some x) : ∃ f', x = g f' ∧ ∀ {β : Type} (F : β) (K : Fr → β), f.putK dst v F K = K f' := by
  rw [Fr.putK_def] at h; simp only [Fr.putK_def]
  cases dst with
  | none => simp at h; exact ⟨f, h.symm, fun _ _ => rfl⟩
  | some d =>
    simp only at h
    cases hc : Nat.blt d f.nt && f.tr.has d <;> simp only [hc, cond_true, cond_false] at h
    · cases h
    · rw [Tr.setK_eq] at h
      simp at h
      refine ⟨_, h.symm, fun F K => ?_⟩
      simp only [hc, cond_true]
      rw [Tr.setK_eq]
theorem needsT_of {α : Type} {post : α → Prop} {t : Tree α} (h : t.OK post) : ∀ {l : List Bool}, allT l → (needsT l t).OK post
  | [], _ => h
  | b :: l, hl => ⟨hl b List.mem_cons_self, needsT_of h fun c hc => hl c (List.mem_cons_of_mem _ hc)⟩
theorem heapOp_app {n : Nat} {s s' : SW} {fr : Fr} {op : Op} {v : SV} (hk : keepsOp n fr op = true) (hm : (!(changes op) || makes op) = true) (h : heapOp P fr.ev s op = some (v, s')) : ∃ e, s' = s ++ e := by
  cases hmk : makes op
  · unfold keepsOp at hk
    split at hk <;> first | (cases hm; done) | (cases hmk; done) | (cases hk; done) | (rw [hmk] at hm; cases hm; done) | skip
    simp only [heapOp, heapOpA, heapOpB, heapOpC, heapOpD] at h
    split at h
    · rename_i r hr
      cases h
      split at hr
      · exact ⟨[], by rw [loadS_same hr, List.append_nil]⟩
      · cases hr
    · cases h
  · exact heapOp_makes hmk h
theorem rowNil_app {P : Program} {E : World} {n : Nat} {fr : Fr} {args : Array Operand} {argTypes : Array TypeId} {s s' : SW} {nd : List Bool} {v : SV} (hk : keepsOp n fr (.call { callee := .builtin .append, args, argTypes }) = true)
    (h : rowOp P E fr.ev s (.call { callee := .builtin .append, args, argTypes }) = some (nd, v, s')) : ∃ e, s' = s ++ e := by
  simp only [keepsOp] at hk
  simp only [rowOp] at h
  split at hk
  rotate_left
  · cases hk
  rename_i a b rest hev
  rw [hev] at h
  split at h
  · rename_i h1 _; cases h1
  · rename_i v0 x t t' _ h1 _
    simp only [Option.some.injEq, List.cons.injEq] at h1
    obtain ⟨rfl, _⟩ := h1
    cases hb : Nat.beq t t' <;> simp only [hb, cond_true, cond_false] at h
    · cases h
    unfold rowAp2 at h
    split at h
    rotate_left
    · cases h
    split at h
    · cases h
    split at h
    · cases h
    rename_i elem _ _ e _ _ z _
    cases hc : (Nat.beq z.cells.size e.size && Nat.blt 0 e.size && Nat.blt elem MAPTY) <;> simp only [hc, cond_true, cond_false] at h
    · cases h
    rw [forceN_eq] at h
    split at h
    · cases h
    rw [forceN_eq, forceN_eq] at h
    split at h
    · cases h0 : Nat.blt 0 s.length <;> simp only [h0, cond_true, cond_false] at h
      · cases h
      rw [appLK_eq] at h
      simp only [Option.some.injEq, Prod.mk.injEq] at h
      exact ⟨_, h.2.2.symm⟩
    · rename_i h2; cases h2
    · cases h
  · cases h
noncomputable def noH (P : PE) : PE := ⟨P.toProgram, P.E, P.m, []⟩
theorem stepS_spec {m : Nat} {ops : Array Oper} {i : Nat} {fr fr' : Fr} {s s' : SW} {nd : List Bool} (hn : m ≤ s.length) (h : stepS P m ops i fr s = some ((fr', s'), nd)) : ∃ o, ops[i]? = some o ∧ o.guard = none ∧
    (allT nd → (operK (noH P) noCall .loud o fr s (fun v s' => fr.putK o.dst v .fail fun fr' => .leaf (fr', s'))).OK (fun x => x = (fr', s'))) ∧ Tl m s s' ∧ Same fr fr' (logD o.dst []) ∧ (mildAt ops i = true → ∃ e, s' = s ++ e) := by
  unfold stepS at h
  simp only [pureOpF_eq, extOpF_eq, heapOpF_eq] at h
  split at h
  · cases h
  rename_i o ho
  split at h
  · cases h
  rename_i hg
  have same : ∀ v f', (∀ {β : Type} (F : β) (K : Fr → β), fr.putK o.dst v F K = K f') → Same fr f' (logD o.dst []) := by
    intro v f' h
    have h1 : (fr.putK o.dst v .fail fun f => Tree.leaf f).OK (fun x => x = f') := by rw [h]; rfl
    rcases putK_same h1 with h2 | ⟨f2, h2, hs, _⟩
    · exact h2.elim
    · have h2 : f2 = f' := h2
      rw [← h2]; exact hs
  refine ⟨o, ho, hg, ?_⟩
  unfold operK
  simp only [noH]
  split at h
  · rename_i r hr
    obtain ⟨f', he, hk⟩ := putK_opt h
    cases he
    exact ⟨fun ha => needsT_of (by show (fr.putK o.dst r.v Tree.fail (fun fr' => Tree.leaf (fr', s))).OK (fun x => x = _); rw [hk]; rfl) ha, Tl.refl hn, same _ _ hk, fun _ => ⟨[], (List.append_nil _).symm⟩⟩
  rename_i hp
  split at h
  · rename_i r hr
    obtain ⟨f', he, hk⟩ := putK_opt h
    cases he
    exact ⟨fun ha => needsT_of (by (try simp only); rw [hk]; rfl) ha, Tl.refl hn, same _ _ hk, fun _ => ⟨[], (List.append_nil _).symm⟩⟩
  rename_i hx
  cases hq : keepsOp m fr o.op <;> simp only [hq, cond_true, cond_false] at h
  · cases h
  split at h
  · rename_i v s1 hh
    obtain ⟨f', he, hk⟩ := putK_opt h
    cases he
    exact ⟨fun ha => by (try simp only); rw [hk]; rfl, heapOp_tl hq hn hh, same _ _ hk, fun hm => heapOp_app hq (by simpa only [mildAt, ho] using hm) hh⟩
  · rename_i hnone
    split at h
    · rename_i v s1 nd1 hrow
      obtain ⟨hh, args0, argTypes0, hop0⟩ := rowNilO_eq hrow
      obtain ⟨f', he, hk⟩ := putK_opt h
      cases he
      obtain ⟨e, rfl⟩ := rowNil_app (by rw [← hop0]; exact hq) (by rw [← hop0]; exact hh)
      refine ⟨fun ha => ?_, Tl.app hn, same _ _ hk, fun hm => ?_⟩
      · rw [hop0] at hh ⊢
        simp only [restK, hh]
        exact needsT_of (by show (fr.putK o.dst v Tree.fail (fun fr' => Tree.leaf (fr', s ++ e))).OK (fun x => x = _); rw [hk]; rfl) ha
      · exact ⟨e, rfl⟩
    · split at h
      · rename_i v s1 nd1 hrow
        obtain ⟨hh, t0, l0, c0, hop0⟩ := rowMkO_eq hrow
        obtain ⟨f', he, hk⟩ := putK_opt h
        cases he
        obtain ⟨e, rfl⟩ := rowMkO_app (by rw [← hop0]; exact hh)
        refine ⟨fun ha => ?_, Tl.app hn, same _ _ hk, fun hm => ?_⟩
        · rw [hop0] at hh ⊢
          simp only [restK, hh]
          exact needsT_of (by show (fr.putK o.dst v Tree.fail (fun fr' => Tree.leaf (fr', s ++ e))).OK (fun x => x = _); rw [hk]; rfl) ha
        · exact ⟨e, rfl⟩
      · cases h
theorem stepS_sound {m : Nat} {W : World} {L : Nat → Prop} {ops : Array Oper} {i : Nat} {fr fr' : Fr} {s s' : SW} {nd : List Bool} {ρ : Rh} {a : Act} {w : World} (hn : m ≤ s.length) (h : stepS P m ops i fr s = some ((fr', s'), nd)) (hnd : allT nd) (hf : FrRel s.length ρ fr a) (hI : Inv P.E W L ρ s w)
    {K : Act → World → Prop} {Q : Exit → Act → World → Prop} (hK : ∀ ρ' a' w', Agree s.length ρ ρ' → s.length ≤ s'.length → FrRel s'.length ρ' fr' a' → Inv P.E W L ρ' s' w' →
      (mildAt ops i = true → ∀ T, Kinds P.E W L ρ' s' T → Kinds P.E W L ρ s T) → (makesAt ops i = true → ∀ T, Kinds P.E W L ρ' s' T → Down (Kinds P.E W L ρ s) T) → K a' w') : wpOp P ops Q i K a w := by
  obtain ⟨o, ho, hg, ht, _, _, happ⟩ := stepS_spec hn h
  refine wpOp_run ho (by unfold Region.wanted; rw [hg]) (operK_sound (P := noH P) noCall_ok (ht hnd) hf hI fun v s1 ρ' w' h1 hag hle hok hI' => ?_)
  obtain ⟨f1, hf1, h2⟩ := putK_sound (hf.agree hag hle) hok h1
  have h2 : (f1, s1) = (fr', s') := h2
  cases h2
  have hsub : mildAt ops i = true → ∀ T, Kinds P.E W L ρ' s' T → Kinds P.E W L ρ s T := by
    intro hm T hT
    obtain ⟨ρ2, s2, rfl, hT⟩ := hT
    obtain ⟨e, rfl⟩ := happ hm
    exact ⟨ρ2, s2, rfl, fun w hw => (hT w hw).part hI.okc hag⟩
  exact hK ρ' _ w' hag hle hf1 hI' hsub fun hm T hT => Down.self (hsub (by simp only [makesAt, ho] at hm; simp only [mildAt, ho, hm, Bool.or_true]) T hT)
theorem fold_spec {γ : Type} {f : Nat → Option (List γ × List Bool)} : ∀ (l : List Nat) (R : List γ) (nd : List Bool), l.foldr (fun i acc => joinO (f i) acc) (some ([], [])) = some (R, nd) →
    ∀ i ∈ l, ∃ A x, f i = some (A, x) ∧ (∀ r ∈ A, r ∈ R) ∧ ∀ b ∈ x, b ∈ nd
  | [], R, nd, h, i, hi => by cases hi
  | j :: l, R, nd, h, i, hi => by
    simp only [List.foldr_cons] at h
    unfold joinO at h
    split at h
    · rename_i A x B y hA hB
      simp at h; obtain ⟨rfl, rfl⟩ := h
      rcases List.mem_cons.1 hi with rfl | hi
      · exact ⟨A, x, hA, fun x hx => List.mem_append_left _ hx, fun x hx => List.mem_append_left _ hx⟩
      · obtain ⟨A', x', h1, h2, h3⟩ := fold_spec l B y hB i hi
        exact ⟨A', x', h1, fun x hx => List.mem_append_right _ (h2 x hx), fun x hx => List.mem_append_right _ (h3 x hx)⟩
    · cases h
theorem fold_mem {γ : Type} {f : Nat → Option (List γ × List Bool)} : ∀ (l : List Nat) (R : List γ) (nd : List Bool), l.foldr (fun i acc => joinO (f i) acc) (some ([], [])) = some (R, nd) →
    ∀ r ∈ R, ∃ i A x, i ∈ l ∧ f i = some (A, x) ∧ r ∈ A
  | [], R, nd, h, x, hx => by simp at h; obtain ⟨rfl, _⟩ := h; cases hx
  | j :: l, R, nd, h, x, hx => by
    simp only [List.foldr_cons] at h
    unfold joinO at h
    split at h
    · rename_i A x' B y hA hB
      simp at h; obtain ⟨rfl, rfl⟩ := h
      rcases List.mem_append.1 hx with hx | hx
      · exact ⟨j, A, _, List.mem_cons_self, hA, hx⟩
      · obtain ⟨i, A', _, h1, h2, h3⟩ := fold_mem l B y hB x hx
        exact ⟨i, A', _, List.mem_cons_of_mem _ h1, h2, h3⟩
    · cases h
theorem mem_dsts {ops : Array Oper} {i d : Nat} {o : Oper} (h : ops[i]? = some o) (hd : o.dst = some d) : d ∈ dstsOf ops := by
  unfold dstsOf
  rw [List.mem_filterMap]
  exact ⟨o, by rw [Array.mem_toList_iff]; exact Array.mem_of_getElem? h, hd⟩
noncomputable abbrev ordF (P : PE) (m : Nat) (ops : Array Oper) (n : Nat) (listed : Array Bool) (fr : Fr) (s : SW) (i : Nat) : Option (List (Fr × SW) × List Bool) :=
  match stepS P m ops i fr s with | some (r, nd) => (match allOrd P m ops n (listed.setIfInBounds i true) r.1 r.2 with | some (A, x) => some (A, nd ++ x) | none => none) | none => none
theorem ordF_spec {m : Nat} {ops : Array Oper} {n : Nat} {listed : Array Bool} {fr : Fr} {s : SW} {i : Nat} {A : List (Fr × SW)} {x : List Bool} (h : ordF P m ops n listed fr s i = some (A, x)) :
    ∃ r nd y, stepS P m ops i fr s = some (r, nd) ∧ allOrd P m ops n (listed.setIfInBounds i true) r.1 r.2 = some (A, y) ∧ x = nd ++ y := by
  unfold ordF at h
  split at h
  · rename_i r nd hs
    split at h
    · rename_i A' y hA
      simp at h; obtain ⟨rfl, rfl⟩ := h
      exact ⟨r, nd, y, hs, hA, rfl⟩
    · cases h
  · cases h
theorem allOrd_keep {m : Nat} {ops : Array Oper} : ∀ (fuel : Nat) (listed : Array Bool) (fr : Fr) (s : SW) (R : List (Fr × SW)) (nd : List Bool), m ≤ s.length → allOrd P m ops fuel listed fr s = some (R, nd) →
    ∀ r ∈ R, Same fr r.1 (dstsOf ops) ∧ Tl m s r.2
  | 0, listed, fr, s, R, nd, hn, h, r, hr => by
    simp only [allOrd] at h
    split at h
    · simp at h; obtain ⟨rfl, _⟩ := h
      rw [List.mem_singleton] at hr; subst hr
      exact ⟨Same.refl _ _, Tl.refl hn⟩
    · cases h
  | n + 1, listed, fr, s, R, nd, hn, h, r, hr => by
    simp only [allOrd] at h
    split at h
    · simp at h; obtain ⟨rfl, _⟩ := h
      rw [List.mem_singleton] at hr; subst hr
      exact ⟨Same.refl _ _, Tl.refl hn⟩
    · obtain ⟨i, A, x, hi, hA, hx⟩ := fold_mem (f := ordF P m ops n listed fr s) _ _ _ h r hr
      obtain ⟨q, nd1, y, hq, hA, _⟩ := ordF_spec hA
      obtain ⟨o, ho, _, _, htl, hs, _⟩ := stepS_spec hn (fr' := q.1) (s' := q.2) hq
      obtain ⟨h1, h2⟩ := allOrd_keep n _ q.1 q.2 A y htl.1 hA r hx
      refine ⟨hs.trans h1 fun t ht => ?_, htl.trans h2⟩
      cases hd : o.dst with
      | none => rw [hd] at ht; cases ht
      | some d => rw [hd] at ht; simp only [logD, List.mem_singleton] at ht; rw [ht]; exact mem_dsts ho hd
theorem allOrd_sound {m : Nat} {W : World} {L : Nat → Prop} {ops : Array Oper} {Q : Exit → Act → World → Prop} : ∀ (fuel : Nat) (listed : Array Bool) (fr : Fr) (s : SW) (R : List (Fr × SW)) (nd : List Bool) (ρ : Rh) (a : Act), m ≤ s.length → allOrd P m ops fuel listed fr s = some (R, nd) → allT nd →
    FrRel s.length ρ fr a →
    (∀ fr' s', (fr', s') ∈ R → ∀ ρ' a' w', Agree s.length ρ ρ' → s.length ≤ s'.length → FrRel s'.length ρ' fr' a' → Inv P.E W L ρ' s' w' → Q .normal a' w') → wpAnyX mildAt P ops Q fuel (Kinds P.E W L ρ s) listed a
  | 0, listed, fr, s, R, nd, ρ, a, hn, h, hnd, hf, hQ => by
    simp only [allOrd] at h
    split at h
    · rename_i hr
      simp at h; obtain ⟨rfl, _⟩ := h
      rintro S ⟨_, _, _, hS⟩ w hw
      exact ⟨hr, hQ fr s List.mem_cons_self ρ a w (Agree.refl _ _) (Nat.le_refl _) hf (hS w hw)⟩
    · cases h
  | n + 1, listed, fr, s, R, nd, ρ, a, hn, h, hnd, hf, hQ => by
    simp only [allOrd] at h
    rintro S ⟨_, _, _, hS⟩ w hw
    have hI := hS w hw
    split at h
    · rename_i hr
      simp at h; obtain ⟨rfl, _⟩ := h
      exact ⟨fun _ => hQ fr s List.mem_cons_self ρ a w (Agree.refl _ _) (Nat.le_refl _) hf hI, by rw [hr]; simp⟩
    · rename_i i0 rs hr
      refine ⟨fun h0 => (by rw [hr] at h0; cases h0), fun i hi => ?_⟩
      rw [hr] at hi
      obtain ⟨A, x, hA, hsub, hsn⟩ := fold_spec (f := ordF P m ops n listed fr s) _ _ _ h i hi
      obtain ⟨r, nd1, y, hs, hA2, rfl⟩ := ordF_spec hA
      refine stepS_sound (fr' := r.1) (s' := r.2) hn hs (fun b hb => hnd b (hsn b (List.mem_append_left _ hb))) hf hI fun ρ' a' w' hag hle hf' hI' hC1 hC2 => ?_
      refine ⟨_, hC1, hC2, ⟨_, Kinds.self, hI'⟩, ?_⟩
      refine allOrd_sound n _ r.1 r.2 A y ρ' a' (Nat.le_trans hn hle) hA2 (fun b hb => hnd b (hsn b (List.mem_append_right _ hb))) hf' fun fr2 s2 hm ρ2 a2 w2 hag2 hle2 hf2 hI2 => ?_
      exact hQ fr2 s2 (hsub _ hm) ρ2 a2 w2 (hag.trans hag2 hle) (Nat.le_trans hle hle2) hf2 hI2
noncomputable def Rh.re (ρ : Rh) (σ : Nat → Nat) : Rh := ⟨fun i => ρ (σ i), fun i => ρ.c (σ i)⟩
theorem Inv.perm {E W : World} {L : Nat → Prop} {ρ : Rh} {s s' : SW} {w : World} {σ : Nat → Nat} (h : Inv E W L ρ s' w) (hlen : s.length = s'.length) (hr : ∀ i, i < s.length → σ i < s.length)
    (hget : ∀ i b, s[i]? = some b → okL s.length b.cs = true ∧ ∃ b', s'[σ i]? = some b' ∧ b'.ty = b.ty ∧ (b.cs = [] ↔ b'.cs = []) ∧ b.cs.map (C.den (ρ.re σ)) = b'.cs.map (C.den ρ))
    (hinj : ∀ i j, i < s.length → j < s.length → σ i = σ j → i = j) : Inv E W L (ρ.re σ) s w := by
  have hlt : ∀ {i : Nat} {b : Bl}, s[i]? = some b → i < s.length := fun hb => (List.getElem?_eq_some_iff.1 hb).1
  have lv : ∀ i, live s i → live s' (σ i) := by
    rintro i ⟨b, hb, hne⟩
    obtain ⟨_, b', h1, hty, h3, _⟩ := hget i b hb
    refine ⟨b', h1, ?_⟩
    rcases hne with hne | hm
    · exact .inl fun e => hne (h3.2 e)
    · exact .inr (by rw [hty]; exact hm)
  refine ⟨fun i b hb => ?_, fun i b hb => (hget i b hb).1, fun i j hi hj e => ?_, h.grow, h.old, fun i h1 h2 => h.fresh (σ i) (lv i h1) h2, trivial, h.os, h.out, h.tape, ⟨h.ext.1, h.ext.2.1, fun i hi => ?_⟩⟩
  · obtain ⟨_, b', h1, hty, h3, hd⟩ := hget i b hb
    exact (h.blk _ b' h1).tr hty (.inr hd) rfl rfl
  · have hk := h.inj _ _ (lv i hi) (lv j hj) e
    exact hinj i j hi.lt hj.lt hk
  · have := hr i hi
    exact h.ext.2.2 (σ i) (by omega)
theorem eqP_spec {σ : Nat → Nat} {x y : C} {nd : List Bool} (h : eqP σ x y = some nd) (hn : allT nd) (ρ : Rh) : x.den (ρ.re σ) = y.den ρ := by
  unfold eqP at h
  split at h
  · rename_i b o b' o'
    cases hc : (Nat.beq (σ b) b' && Nat.beq o o') <;> simp only [hc, cond_true, cond_false] at h
    · cases h
    simp only [Bool.and_eq_true] at hc
    have h1 := Nat.eq_of_beq_eq_true hc.1
    have h2 := Nat.eq_of_beq_eq_true hc.2
    subst h1; subst h2; rfl
  · rename_i b o n c b' o' n' c'
    cases hc : (Nat.beq (σ b) b' && Nat.beq o o' && Nat.beq n n' && Nat.beq c c') <;> simp only [hc, cond_true, cond_false] at h
    · cases h
    simp only [Bool.and_eq_true] at hc
    have h1 := Nat.eq_of_beq_eq_true hc.1.1.1
    have h2 := Nat.eq_of_beq_eq_true hc.1.1.2
    have h3 := Nat.eq_of_beq_eq_true hc.1.2
    have h4 := Nat.eq_of_beq_eq_true hc.2
    subst h1; subst h2; subst h3; subst h4; rfl
  · rename_i b o n c b' o' n' c'
    cases hc : (Nat.beq (σ b) b' && Nat.beq o o' && Nat.beq n n' && Nat.beq c c') <;> simp only [hc, cond_true, cond_false] at h
    · cases h
    simp only [Bool.and_eq_true] at hc
    have h1 := Nat.eq_of_beq_eq_true hc.1.1.1
    have h2 := Nat.eq_of_beq_eq_true hc.1.1.2
    have h3 := Nat.eq_of_beq_eq_true hc.1.2
    have h4 := Nat.eq_of_beq_eq_true hc.2
    subst h1; subst h2; subst h3; subst h4; rfl
  · rename_i t b o t' b' o'
    cases hc : (Nat.beq t t' && Nat.beq (σ b) b' && Nat.beq o o') <;> simp only [hc, cond_true, cond_false] at h
    · cases h
    simp only [Bool.and_eq_true] at hc
    have h1 := Nat.eq_of_beq_eq_true hc.1.1
    have h2 := Nat.eq_of_beq_eq_true hc.1.2
    have h3 := Nat.eq_of_beq_eq_true hc.2
    subst h1; subst h2; subst h3; rfl
  · rename_i b z n b' z' n'
    cases hc : (Nat.beq (σ b) b' && Nat.beq z z') <;> simp only [hc, cond_true, cond_false] at h
    · cases h
    simp only [Bool.and_eq_true] at hc
    have h1 := Nat.eq_of_beq_eq_true hc.1
    have h2 := Nat.eq_of_beq_eq_true hc.2
    simp only [Option.some.injEq] at h
    subst h
    have h3 := of_decide_eq_true (hn _ List.mem_cons_self)
    subst h1; subst h2; subst h3; rfl
  · rename_i b z n b' z' n'
    cases hc : (Nat.beq (σ b) b' && Nat.beq z z') <;> simp only [hc, cond_true, cond_false] at h
    · cases h
    simp only [Bool.and_eq_true] at hc
    have h1 := Nat.eq_of_beq_eq_true hc.1
    have h2 := Nat.eq_of_beq_eq_true hc.2
    simp only [Option.some.injEq] at h
    subst h
    have h3 := of_decide_eq_true (hn _ List.mem_cons_self)
    subst h1; subst h2; subst h3; rfl
  · cases hc : C.ok 0 x <;> simp only [hc, cond_true, cond_false] at h
    · cases h
    rw [C.den_agree (n := 0) (ρ := ρ) (fun i hi => absurd hi (Nat.not_lt_zero _)) hc]
    exact eqC_spec h hn ρ
theorem eqPs_spec {σ : Nat → Nat} : ∀ {xs ys : List C} {nd : List Bool}, eqPs σ xs ys = some nd → allT nd → ∀ ρ : Rh, xs.map (C.den (ρ.re σ)) = ys.map (C.den ρ)
  | [], [], _, _, _, _ => rfl
  | x :: xs, y :: ys, nd, h, hn, ρ => by
    simp only [eqPs] at h
    split at h
    · cases h
    rename_i a ha
    split at h
    · cases h
    rename_i b hb
    simp at h; subst h
    obtain ⟨h1, h2⟩ := allT_app hn
    simp only [List.map_cons, eqP_spec ha h1 ρ, eqPs_spec hb h2 ρ]
  | [], _ :: _, _, h, _, _ => by cases h
  | _ :: _, [], _, h, _, _ => by cases h
theorem eqPV_spec {σ : Nat → Nat} {x y : SV} {nd : List Bool} (h : eqPV σ x y = some nd) (hn : allT nd) (hx : x.isAny = false) (ρ : Rh) : y.isAny = false ∧ x.den (ρ.re σ) = y.den ρ := by
  unfold eqPV at h
  split at h
  · cases hx
  · exact ⟨rfl, eqP_spec h hn ρ⟩
  · exact ⟨rfl, by simp only [SV.den]; rw [show denL (ρ.re σ) _ = denL ρ _ from congrArg List.toArray (eqPs_spec h hn ρ)]⟩
  · exact ⟨rfl, rfl⟩
  · cases h
theorem eqPF_spec {σ : Nat → Nat} {f0 f : Fr} : ∀ {l : List Nat} {nd : List Bool}, eqPF σ f0 f l = some nd → allT nd → ∀ t ∈ l, ∃ x, eqPV σ (f0.tr.get t) (f.tr.get t) = some x ∧ allT x
  | [], _, _, _, t, ht => by cases ht
  | d :: l, nd, h, hn, t, ht => by
    simp only [eqPF] at h
    split at h
    · cases h
    rename_i a ha
    split at h
    · cases h
    rename_i b hb
    simp at h; subst h
    obtain ⟨h1, h2⟩ := allT_app hn
    rcases List.mem_cons.1 ht with rfl | ht
    · exact ⟨a, ha, h1⟩
    · exact eqPF_spec hb h2 t ht
theorem eqPB_spec {rt : Nat → Bool} {σ : Nat → Nat} {s' : SW} : ∀ {k : Nat} {l : SW} {nd : List Bool}, eqPB rt σ s' k l = some nd → allT nd → ∀ i b, l[i]? = some b →
    ∃ b', s'[σ (k + i)]? = some b' ∧ b'.ty = b.ty ∧ (b.cs = [] ↔ b'.cs = []) ∧ ∀ ρ : Rh, b.cs.map (C.den (ρ.re σ)) = b'.cs.map (C.den ρ)
  | _, [], _, _, _, i, b, hb => by simp at hb
  | k, x :: r, nd, h, hn, i, b, hb => by
    simp only [eqPB] at h
    split at h
    · cases h
    rename_i b' hb'
    cases hrt : rt x.ty <;> simp only [hrt, cond_true, cond_false] at h
    rotate_left
    · cases hc : Nat.beq x.ty b'.ty <;> simp only [hc, cond_true, cond_false] at h
      · cases h
      split at h
      · cases h
      rename_i v hv
      simp only [Option.some.injEq] at h; subst h
      have h1 : sameR x b' = true := hn _ List.mem_cons_self
      have h2 : allT v := fun c hc => hn c (List.mem_cons_of_mem _ hc)
      simp only [sameR, Bool.and_eq_true, decide_eq_true_eq] at h1
      cases i with
      | zero =>
        simp at hb; subst hb
        refine ⟨b', hb', (Nat.eq_of_beq_eq_true hc).symm, by rw [h1.1], fun ρ => ?_⟩
        rw [← h1.1]
        exact List.map_congr_left fun c hc' => C.den_agree (n := 0) (fun i hi => absurd hi (Nat.not_lt_zero _)) (List.all_eq_true.1 h1.2 c hc')
      | succ i =>
        have := eqPB_spec hv h2 i b (by simpa using hb)
        rw [show k + (i + 1) = k + 1 + i by omega]
        exact this
    cases hc : (Nat.beq x.ty b'.ty && (x.cs.isEmpty == b'.cs.isEmpty)) <;> simp only [hc, cond_true, cond_false] at h
    · cases h
    simp only [Bool.and_eq_true, beq_iff_eq] at hc
    split at h
    · cases h
    rename_i u hu
    split at h
    · cases h
    rename_i v hv
    simp at h; subst h
    obtain ⟨h1, h2⟩ := allT_app hn
    cases i with
    | zero =>
      simp at hb; subst hb
      refine ⟨b', hb', (Nat.eq_of_beq_eq_true hc.1).symm, ?_, eqPs_spec hu h1⟩
      rw [← List.isEmpty_iff, ← List.isEmpty_iff, hc.2]
    | succ i =>
      have := eqPB_spec hv h2 i b (by simpa using hb)
      rw [show k + (i + 1) = k + 1 + i by omega]
      exact this
theorem eqPB_ok {rt : Nat → Bool} {σ : Nat → Nat} {s' : SW} : ∀ {k : Nat} {l : SW} {nd : List Bool}, eqPB rt σ s' k l = some nd → allT nd → ∀ b ∈ l, rt b.ty = true → okL 0 b.cs = true
  | _, [], _, _, _, b, hb, _ => by cases hb
  | k, x :: r, nd, h, hn, b, hb, hrt => by
    simp only [eqPB] at h
    split at h
    · cases h
    rename_i b' hb'
    cases hx : rt x.ty <;> simp only [hx, cond_true, cond_false] at h
    · cases hc : (Nat.beq x.ty b'.ty && (x.cs.isEmpty == b'.cs.isEmpty)) <;> simp only [hc, cond_true, cond_false] at h
      · cases h
      split at h
      · cases h
      split at h
      · cases h
      rename_i v hv
      simp only [Option.some.injEq] at h; subst h
      obtain ⟨_, h2⟩ := allT_app hn
      rcases List.mem_cons.1 hb with rfl | hb
      · rw [hx] at hrt; cases hrt
      · exact eqPB_ok hv h2 b hb hrt
    · cases hc : Nat.beq x.ty b'.ty <;> simp only [hc, cond_true, cond_false] at h
      · cases h
      split at h
      · cases h
      rename_i v hv
      simp only [Option.some.injEq] at h; subst h
      have h1 : sameR x b' = true := hn _ List.mem_cons_self
      have h2 : allT v := fun c hc => hn c (List.mem_cons_of_mem _ hc)
      simp only [sameR, Bool.and_eq_true] at h1
      rcases List.mem_cons.1 hb with rfl | hb
      · exact h1.2
      · exact eqPB_ok hv h2 b hb hrt
theorem sgm_lt {n i : Nat} {π : List Nat} (h : i < n) : sgm n π i = i := by
  unfold sgm
  rw [show Nat.blt i n = true from Nat.ble_eq_true_of_le h]; rfl
theorem sgm_ge {n i : Nat} {π : List Nat} (h : n ≤ i) : sgm n π i = n + π.getD (i - n) 0 := by
  unfold sgm
  cases hc : Nat.blt i n
  · rfl
  · have : i < n := Nat.le_of_ble_eq_true hc
    omega
theorem fixGo_get : ∀ {k n : Nat} {π : List Nat}, fixGo k n π = true → ∀ i, i < n → π[i]? = some (k + i)
  | _, 0, _, _, i, hi => absurd hi (Nat.not_lt_zero _)
  | k, n + 1, x :: r, h, i, hi => by
    simp only [fixGo, Bool.and_eq_true] at h
    cases i with
    | zero => simp [Nat.eq_of_beq_eq_true h.1]
    | succ i =>
      rw [List.getElem?_cons_succ, fixGo_get h.2 i (by omega)]
      congr 1; omega
  | _, _ + 1, [], h, _, _ => by cases h
theorem sameEndP_spec {rt : Nat → Bool} {n m : Nat} (hmn : m ≤ n) {D : List Nat} {r0 r : Fr × SW} {π : List Nat} {nd : List Bool} (h : sameEndP rt n m D r0 r π = some nd) (hn : allT nd) {s : SW} (hs : s.length = n) {fr : Fr}
    (t0 : Tl m s r0.2) (t1 : Tl m s r.2) (q0 : Same fr r0.1 D) (q1 : Same fr r.1 D) {W : World} {L : Nat → Prop} {ρ ρ' : Rh} {a : Act} {w w0 : World} (hI0 : Inv P.E W L ρ s w0) (hf0 : ∀ t, t < fr.nt → (fr.tr.get t).ok n = true) (hag : Agree n ρ ρ')
    (hf : FrRel r.2.length ρ' r.1 a) (hI : Inv P.E W L ρ' r.2 w) : ∃ ρ'', Agree n ρ ρ'' ∧ FrRel r0.2.length ρ'' r0.1 a ∧ Inv P.E W L ρ'' r0.2 w := by
  unfold sameEndP at h
  cases hc : (permOK π (r0.2.length - m) && Nat.beq r.2.length r0.2.length && Nat.ble n r0.2.length && ((r0.2.drop m).all fun b => rt b.ty || okL r0.2.length b.cs) && (D.all fun t => (r0.1.tr.get t).ok r0.2.length) && fixGo 0 (n - m) π) <;> simp only [hc, cond_true, cond_false] at h
  · cases h
  simp only [Bool.and_eq_true, permOK, List.all_eq_true, decide_eq_true_eq] at hc
  obtain ⟨⟨⟨⟨⟨⟨⟨p1, p2⟩, p3⟩, hl⟩, hle⟩, hob⟩, hoD⟩, hfx⟩ := hc
  have p1 := Nat.eq_of_beq_eq_true p1
  have hl := Nat.eq_of_beq_eq_true hl
  have hle := Nat.le_of_ble_eq_true hle
  split at h
  · cases h
  rename_i x hx
  split at h
  · cases h
  rename_i y hy
  simp at h; subst h
  obtain ⟨n1, n2⟩ := allT_app hn
  have hget : ∀ i, m ≤ i → i < r0.2.length → ∃ z, π[i - m]? = some z ∧ sgm m π i = m + z ∧ z < r0.2.length - m := by
    intro i h1 h2
    have h3 : i - m < π.length := by omega
    refine ⟨π[i - m], List.getElem?_eq_getElem h3, ?_, Nat.le_of_ble_eq_true (p2 _ (List.getElem_mem h3))⟩
    rw [sgm_ge h1, List.getD_eq_getElem?_getD, List.getElem?_eq_getElem h3]; rfl
  have hre : Agree n ρ' (ρ'.re (sgm m π)) := fun i hi => by
    have : sgm m π i = i := by
      rcases Nat.lt_or_ge i m with h1 | h1
      · exact sgm_lt h1
      · rw [sgm_ge h1, List.getD_eq_getElem?_getD, fixGo_get hfx (i - m) (by omega)]
        show m + (0 + (i - m)) = i
        omega
    exact ⟨by show ρ' (sgm m π i) = ρ' i; rw [this], by show ρ'.c (sgm m π i) = ρ'.c i; rw [this]⟩
  have hag2 : Agree n ρ (ρ'.re (sgm m π)) := hag.trans hre (Nat.le_refl _)
  refine ⟨ρ'.re (sgm m π), hag2, ⟨?_, fun t ht hna => ?_, fun t ht => ?_, hf.defers⟩, ?_⟩
  · rw [hf.size, q1.1, q0.1]
  · rw [q0.1] at ht
    by_cases hD : t ∈ D
    · obtain ⟨u, hu, hnu⟩ := eqPF_spec hx n1 t hD
      obtain ⟨e1, e2⟩ := eqPV_spec hu hnu hna ρ'
      rw [e2]
      exact hf.val t (by rw [q1.1]; exact ht) e1
    · have g0 := q0.2.2 t hD
      have g1 := q1.2.2 t hD
      have := hf.val t (by rw [q1.1]; exact ht) (by rw [g1, ← g0]; exact hna)
      rw [g0, SV.den_agree hre (hf0 t ht), ← g1]
      exact this
  · rw [q0.1] at ht
    by_cases hD : t ∈ D
    · exact hoD t hD
    · rw [q0.2.2 t hD]; exact SV.ok_mono hle (hf0 t ht)
  · refine hI.perm hl.symm (fun i hi => ?_) (fun i b hb => ?_) (fun i j hi hj e => ?_)
    · rcases Nat.lt_or_ge i m with h1 | h1
      · rw [sgm_lt h1]; exact hi
      · obtain ⟨z, _, e, hz⟩ := hget i h1 hi
        omega
    · have hi := (List.getElem?_eq_some_iff.1 hb).1
      rcases Nat.lt_or_ge i m with h1 | h1
      · have hb0 := hb
        rw [t0.2 i h1] at hb
        have hok := hI0.okc i b hb
        rw [hs] at hok
        refine ⟨okL_mono hle hok, b, ?_, rfl, Iff.rfl, ?_⟩
        · rw [sgm_lt h1, t1.2 i h1]; exact hb
        · exact map_agree hre hok
      · have hd : (r0.2.drop m)[i - m]? = some b := by rw [List.getElem?_drop, show m + (i - m) = i by omega]; exact hb
        obtain ⟨b', g1, g2, g3, g4⟩ := eqPB_spec hy n2 _ _ hd
        rw [show m + (i - m) = i by omega] at g1
        have hokb : okL r0.2.length b.cs = true := by
          have := hob b (List.mem_of_getElem? hd)
          simp only [Bool.or_eq_true] at this
          rcases this with h | h
          · exact okL_mono (Nat.zero_le _) (eqPB_ok hy n2 b (List.mem_of_getElem? hd) h)
          · exact h
        exact ⟨hokb, b', g1, g2, g3, g4 ρ'⟩
    · rcases Nat.lt_or_ge i m with h1 | h1 <;> rcases Nat.lt_or_ge j m with h2 | h2
      · rw [sgm_lt h1, sgm_lt h2] at e; exact e
      · obtain ⟨z, _, e2, _⟩ := hget j h2 hj
        rw [sgm_lt h1, e2] at e; omega
      · obtain ⟨z, _, e2, _⟩ := hget i h1 hi
        rw [sgm_lt h2, e2] at e; omega
      · obtain ⟨z, y1, e1, _⟩ := hget i h1 hi
        obtain ⟨z', y2, e2, _⟩ := hget j h2 hj
        rw [e1, e2] at e
        have ez : z = z' := by omega
        subst ez
        have := (List.getElem?_inj (by omega : i - m < π.length) p3).1 (y1.trans y2.symm)
        omega
theorem firstO_spec {α γ : Type} {f : α → Option γ} : ∀ {l : List α} {y : γ}, firstO f l = some y → ∃ x, f x = some y
  | [], _, h => by cases h
  | x :: r, y, h => by
    simp only [firstO] at h
    split at h
    · rename_i z hz; simp at h; subst h; exact ⟨x, hz⟩
    · exact firstO_spec h
theorem sameEnds_spec {rt : Nat → Bool} {n m : Nat} {D : List Nat} {r0 : Fr × SW} : ∀ {l : List (Fr × SW)} {nd : List Bool}, sameEnds rt n m D r0 l = some nd → allT nd → ∀ r ∈ l, ∃ π x, sameEndP rt n m D r0 r π = some x ∧ allT x
  | [], _, _, _, r, hr => by cases hr
  | q :: l, nd, h, hn, r, hr => by
    simp only [sameEnds] at h
    split at h
    · cases h
    rename_i a ha
    split at h
    · cases h
    rename_i b hb
    simp at h; subst h
    obtain ⟨h1, h2⟩ := allT_app hn
    rcases List.mem_cons.1 hr with rfl | hr
    · obtain ⟨π, hπ⟩ := firstO_spec ha
      exact ⟨π, a, hπ, h1⟩
    · exact sameEnds_spec hb h2 r hr
theorem anyOrd_sound {β : Type} {W : World} {L : Nat → Prop} {k : Nat} {listed : Array Bool} {ops : Array Oper} {fr : Fr} {s : SW} {K : Fr → SW → Tree β} {post : β → Prop} {ρ : Rh} {a : Act} {w : World} {Q : Exit → Act → World → Prop} (h : (anyOrd P ops k listed fr s K).OK post)
    (hf : FrRel s.length ρ fr a) (hI : Inv P.E W L ρ s w)
    (hQ : ∀ fr' s' ρ' a' w', (K fr' s').OK post → Agree s.length ρ ρ' → s.length ≤ s'.length → FrRel s'.length ρ' fr' a' → Inv P.E W L ρ' s' w' → Q .normal a' w') : wpAnyX mildAt P ops Q k (Kinds P.E W L ρ s) listed a := by
  unfold anyOrd at h
  rw [forceN_eq] at h
  split at h
  rotate_left
  · exact h.elim
  rename_i r0 rs nd0 hR
  split at h
  rotate_left
  · exact h.elim
  rename_i nd hnd
  obtain ⟨hn, h⟩ := needsT_OK h
  obtain ⟨n1, n2⟩ := allT_app hn
  have hk := allOrd_keep _ _ _ _ _ _ (Nat.le_refl _) hR
  refine allOrd_sound _ _ _ _ _ _ ρ a (Nat.le_refl _) hR n1 hf fun fr' s' hm ρ' a' w' hag hle hf' hI' => ?_
  obtain ⟨π, x, hπ, hx⟩ := sameEnds_spec hnd n2 _ hm
  obtain ⟨k1, k2⟩ := hk _ hm
  obtain ⟨k3, k4⟩ := hk r0 List.mem_cons_self
  obtain ⟨ρ'', g1, g2, g3⟩ := sameEndP_spec (Nat.le_refl _) hπ hx rfl k4 k2 k3 k1 hI hf.ok hag hf' hI'
  exact hQ r0.1 r0.2 ρ'' a' w' h g1 k4.1 g2 g3
theorem anyOrdM_sound {β : Type} {W : World} {L : Nat → Prop} {q k : Nat} {listed : Array Bool} {ops : Array Oper} {fr : Fr} {s : SW} {K : Fr → SW → Tree β} {post : β → Prop} {ρ : Rh} {a : Act} {w : World} {Q : Exit → Act → World → Prop} (h : (anyOrdM P q ops k listed fr s K).OK post)
    (hf : FrRel s.length ρ fr a) (hI : Inv P.E W L ρ s w)
    (hQ : ∀ fr' s' ρ' a' w', (K fr' s').OK post → Agree s.length ρ ρ' → s.length ≤ s'.length → FrRel s'.length ρ' fr' a' → Inv P.E W L ρ' s' w' → Q .normal a' w') : wpAnyX mildAt P ops Q k (Kinds P.E W L ρ s) listed a := by
  unfold anyOrdM at h
  rw [forceN_eq, forceN_eq] at h
  split at h
  rotate_left
  · exact h.elim
  rename_i r0 rs nd0 hR
  split at h
  rotate_left
  · exact h.elim
  rename_i nd hnd
  obtain ⟨hn, h⟩ := needsT_OK h
  obtain ⟨n1, n2⟩ := allT_app hn
  have hk := allOrd_keep _ _ _ _ _ _ (Nat.sub_le _ _) hR
  refine allOrd_sound _ _ _ _ _ _ ρ a (Nat.sub_le _ _) hR n1 hf fun fr' s' hm ρ' a' w' hag hle hf' hI' => ?_
  obtain ⟨π, x, hπ, hx⟩ := sameEnds_spec hnd n2 _ hm
  obtain ⟨k1, k2⟩ := hk _ hm
  obtain ⟨k3, k4⟩ := hk r0 List.mem_cons_self
  obtain ⟨ρ'', g1, g2, g3⟩ := sameEndP_spec (Nat.sub_le _ _) hπ hx rfl k4 k2 k3 k1 hI hf.ok hag hf' hI'
  refine hQ r0.1 r0.2 ρ'' a' w' h g1 ?_ g2 g3
  unfold sameEndP at hπ
  cases hc : Nat.ble s.length r0.2.length
  · rw [hc] at hπ
    simp only [Bool.and_false, Bool.false_and, cond_false] at hπ
    cases hπ
  · exact Nat.le_of_ble_eq_true hc
theorem allOrd_soundY {m : Nat} {W : World} {L : Nat → Prop} {ops : Array Oper} {Q : Exit → Act → World → Prop} {R0 : World → Prop} : ∀ (fuel : Nat) (listed : Array Bool) (fr : Fr) (s : SW) (R : List (Fr × SW)) (nd : List Bool) (ρ : Rh) (a : Act), m ≤ s.length → allOrd P m ops fuel listed fr s = some (R, nd) → allT nd →
    FrRel s.length ρ fr a → (∀ s' ρ', Tl m s s' → Agree m ρ ρ' → ∀ w, Inv P.E W L ρ' s' w → R0 w) →
    (∀ fr' s', (fr', s') ∈ R → ∀ ρ' a' w', Agree s.length ρ ρ' → s.length ≤ s'.length → FrRel s'.length ρ' fr' a' → Inv P.E W L ρ' s' w' → Q .normal a' w') → wpAnyY P ops Q fuel R0 (Inv P.E W L ρ s) listed a
  | 0, listed, fr, s, R, nd, ρ, a, hn, h, hnd, hf, hR0, hQ => by
    simp only [allOrd] at h
    split at h
    · rename_i hr
      simp at h; obtain ⟨rfl, _⟩ := h
      intro w hw
      exact ⟨hr, hQ fr s List.mem_cons_self ρ a w (Agree.refl _ _) (Nat.le_refl _) hf hw⟩
    · cases h
  | n + 1, listed, fr, s, R, nd, ρ, a, hn, h, hnd, hf, hR0, hQ => by
    simp only [allOrd] at h
    intro w hI
    split at h
    · rename_i hr
      simp at h; obtain ⟨rfl, _⟩ := h
      exact ⟨fun _ => hQ fr s List.mem_cons_self ρ a w (Agree.refl _ _) (Nat.le_refl _) hf hI, by rw [hr]; simp⟩
    · rename_i i0 rs hr
      refine ⟨fun h0 => (by rw [hr] at h0; cases h0), fun i hi => ?_⟩
      rw [hr] at hi
      obtain ⟨A, x, hA, hsub, hsn⟩ := fold_spec (f := ordF P m ops n listed fr s) _ _ _ h i hi
      obtain ⟨r, nd1, y, hs, hA2, rfl⟩ := ordF_spec hA
      obtain ⟨o, ho, _, _, htl, hsm, _⟩ := stepS_spec hn (fr' := r.1) (s' := r.2) hs
      refine stepS_sound (fr' := r.1) (s' := r.2) hn hs (fun b hb => hnd b (hsn b (List.mem_append_left _ hb))) hf hI fun ρ' a' w' hag hle hf' hI' _ _ => ?_
      have hagm : Agree m ρ ρ' := fun k hk => hag k (Nat.lt_of_lt_of_le hk hn)
      refine ⟨R0, Inv P.E W L ρ' r.2, fun _ h => h, fun w2 hw2 => hR0 _ _ htl hagm w2 hw2, hI', ?_⟩
      refine allOrd_soundY n _ r.1 r.2 A y ρ' a' (Nat.le_trans hn hle) hA2 (fun b hb => hnd b (hsn b (List.mem_append_right _ hb))) hf' (fun s2 ρ2 ht2 hag2 w2 hw2 => hR0 s2 ρ2 (htl.trans ht2) (hagm.trans hag2 (Nat.le_refl _)) w2 hw2) fun fr2 s2 hm ρ2 a2 w2 hag2 hle2 hf2 hI2 => ?_
      exact hQ fr2 s2 (hsub _ hm) ρ2 a2 w2 (hag.trans hag2 hle) (Nat.le_trans hle hle2) hf2 hI2
theorem anyOrd_soundY {β : Type} {W : World} {L : Nat → Prop} {k : Nat} {listed : Array Bool} {ops : Array Oper} {fr : Fr} {s : SW} {K : Fr → SW → Tree β} {post : β → Prop} {ρ : Rh} {a : Act} {w : World} {Q : Exit → Act → World → Prop} (h : (anyOrd P ops k listed fr s K).OK post)
    (hf : FrRel s.length ρ fr a) (hI : Inv P.E W L ρ s w)
    (hQ : ∀ fr' s' ρ' a' w', (K fr' s').OK post → Agree s.length ρ ρ' → s.length ≤ s'.length → FrRel s'.length ρ' fr' a' → Inv P.E W L ρ' s' w' → Q .normal a' w') : wpAnyY P ops Q k (Inv P.E W L ρ s) (Inv P.E W L ρ s) listed a := by
  unfold anyOrd at h
  rw [forceN_eq] at h
  split at h
  rotate_left
  · exact h.elim
  rename_i r0 rs nd0 hR
  split at h
  rotate_left
  · exact h.elim
  rename_i nd hnd
  obtain ⟨hn, h⟩ := needsT_OK h
  obtain ⟨n1, n2⟩ := allT_app hn
  have hk := allOrd_keep _ _ _ _ _ _ (Nat.le_refl _) hR
  refine allOrd_soundY _ _ _ _ _ _ ρ a (Nat.le_refl _) hR n1 hf (fun s' ρ' ht hag w2 hw2 => ?_) fun fr' s' hm ρ' a' w' hag hle hf' hI' => ?_
  · have e : s' = s ++ s'.drop s.length := by
      have h1 : s'.take s.length = s := by
        apply List.ext_getElem?
        intro i
        rw [List.getElem?_take]
        by_cases hi : i < s.length
        · rw [if_pos hi]; exact ht.2 i hi
        · rw [if_neg hi, List.getElem?_eq_none (by omega)]
      conv => lhs; rw [← List.take_append_drop s.length s', h1]
    rw [e] at hw2
    exact hw2.part hI.okc hag
  obtain ⟨π, x, hπ, hx⟩ := sameEnds_spec hnd n2 _ hm
  obtain ⟨k1, k2⟩ := hk _ hm
  obtain ⟨k3, k4⟩ := hk r0 List.mem_cons_self
  obtain ⟨ρ'', g1, g2, g3⟩ := sameEndP_spec (Nat.le_refl _) hπ hx rfl k4 k2 k3 k1 hI hf.ok hag hf' hI'
  exact hQ r0.1 r0.2 ρ'' a' w' h g1 k4.1 g2 g3
theorem run_sound {orc : Orc} {tab : Tab} (ho : OrcOK P orc) (ht : TabOK P tab) (hsz : ∀ g fn, tab g = some fn → fn.ntmps < 4095) (hm : P.follows .mixedOrders = true) :
    ∀ (fuel brk : Nat) (todo : List Item) (fr : Fr) (s : SW) (W : World) (L : Nat → Prop) (ρ : Rh) (a : Act) (w : World) (post : Lf → Prop) (Q : Exit → Act → World → Prop),
      (run P orc tab fuel brk todo fr s).OK post → FrRel s.length ρ fr a → Inv P.E W L ρ s w → LfQ P post W L s.length ρ Q → TodoWp P todo Q a w := by
  intro fuel
  induction fuel with
  | zero => intro brk todo fr s W L ρ a w post Q h; exact h.elim
  | succ n ih =>
    intro brk todo fr s W L ρ a w post Q h hf hI hQ
    -- a call
    have hcall : ∀ (W : World) (L : Nat → Prop), CallOK P W L (callOf P orc tab n) := by
      intro W L g vs s K post ρ w h hI hok
      unfold callOf at h
      split at h
      · exact h.elim
      rename_i fn hfn
      obtain ⟨h1, h2, h3⟩ := ht g fn hfn
      refine ⟨fun w => callFunc_run h1 h2 h3 _ w, ?_⟩
      split at h
      · rename_i t ht'
        refine Calls.mono (ho g vs s t ht' W L ρ w _ hI hok (Tree.OK_bind t h)) ?_
        rintro e w' ⟨v, s', ρ', he, hag, hle, hv, hI', hp⟩
        exact ⟨v, s', ρ', he, hag, hle, hv, hI', hp⟩
      · split at h
        · exact h.elim
        rename_i c hc
        cases hb : Nat.ble vs.length fn.ntmps <;> simp only [hb, cond_true, cond_false] at h
        · exact h.elim
        rw [mkFrK_eq] at h
        have h := Tree.OK_bind _ h
        refine callTree_of_wp h1 hc ?_
        refine ih 0 _ _ s W L ρ _ w _ _ h (mkFr_rel (Nat.le_of_ble_eq_true hb) (hsz g fn hfn) hok) hI ?_
        intro lf a' w' ρ' hp hag hle hf' hI'
        cases he : lf.ended
        · simp only [he, cond_false] at hp
          exact hp.elim
        · simp only [he, cond_true] at hp
          simp only [if_true]
          split at hp
          · rename_i v hv
            have := results1_sound (P := P) hI' hf' hv
            exact ⟨⟨hf'.defers, _, this.1, v, lf.s, ρ', rfl, hag, hle, this.2, hI', hp⟩, ⟨hf'.defers, _, this.1, v, lf.s, ρ', rfl, hag, hle, this.2, hI', hp⟩⟩
          · exact hp.elim
    have hcallC : CallCOK P (callOfC P orc tab n) := by
      intro g vs K post h hok
      have hargs : ∀ ρ : Rh, (vs.map (SV.den ρ)) = vs.map (SV.den Rh0) := fun ρ => List.map_congr_left fun x hx => SV.den_agree (fun i hi => absurd hi (Nat.not_lt_zero _)) (hok x hx)
      have fin : ∀ (W : World) (L : Nat → Prop) (ρ : Rh) (s : SW) (w : World) (v : SV) (s' : SW) (ρ' : Rh) (w' : World), Inv P.E W L ρ s w → v.ok 0 = true → Inv P.E w (fun _ => True) ρ' s' w' → v.den ρ' = v.den ρ ∧ Inv P.E W L ρ s w' :=
        fun W L ρ s w v s' ρ' w' hI hv hI' => ⟨(SV.den_agree (n := 0) (fun i hi => absurd hi (Nat.not_lt_zero _)) hv), hI.frame hI'⟩
      unfold callOfC at h
      split at h
      · exact h.elim
      rename_i fn hfn
      obtain ⟨h1, h2, h3⟩ := ht g fn hfn
      split at h
      · rename_i t ht'
        obtain ⟨r, hr, hone⟩ := Tree.OK_one t (Tree.OK_bind t h)
        cases hb : r.1.ok 0 <;> simp only [hb, cond_true, cond_false] at hr
        · exact hr.elim
        refine ⟨r.1, hb, hr, fun args w => callFunc_run h1 h2 h3 args w, fun W L ρ s w hI => ?_⟩
        rw [hargs ρ]
        refine Calls.mono (ho g vs [] t ht' w (fun _ => True) (Rh0) w _ (Inv.start hI.ext) hok hone) ?_
        rintro e w' ⟨v, s', ρ', rfl, hag, hle, hv, hI', hp⟩
        subst hp
        obtain ⟨h4, h5⟩ := fin W L ρ s w v s' ρ' w' hI hb hI'
        exact ⟨by rw [h4], h5⟩
      · split at h
        · exact h.elim
        rename_i c hc
        cases hb : Nat.ble vs.length fn.ntmps <;> simp only [hb, cond_true, cond_false] at h
        · exact h.elim
        rw [mkFrK_eq] at h
        obtain ⟨lf, hlf, hone⟩ := Tree.OK_one _ (Tree.OK_bind _ h)
        cases he : lf.ended <;> simp only [he, cond_true, cond_false] at hlf
        · exact hlf.elim
        split at hlf
        · rename_i v hv
          cases hb' : v.ok 0 <;> simp only [hb', cond_true, cond_false] at hlf
          · exact hlf.elim
          refine ⟨v, hb', hlf, fun args w => callFunc_run h1 h2 h3 args w, fun W L ρ s w hI => ?_⟩
          rw [hargs ρ]
          refine callTree_of_wp h1 hc ?_
          refine ih 0 _ _ [] w (fun _ => True) (Rh0) _ w _ _ hone (mkFr_rel (Nat.le_of_ble_eq_true hb) (hsz g fn hfn) hok) (Inv.start hI.ext) ?_
          intro lf' a' w' ρ' hp hag hle hf' hI'
          subst hp
          simp only [he, if_true]
          have := results1_sound (P := P) hI' hf' hv
          obtain ⟨h4, h5⟩ := fin W L ρ s w v lf'.s ρ' w' hI hb' hI'
          exact ⟨⟨hf'.defers, _, this.1, by rw [h4], h5⟩, ⟨hf'.defers, _, this.1, by rw [h4], h5⟩⟩
        · exact hlf.elim
    have hcallD : CallDOK P (callOf P orc tab n) := by
      intro g vs s K post h hok
      unfold callOf at h
      split at h
      · exact h.elim
      rename_i fn hfn
      obtain ⟨h1, h2, h3⟩ := ht g fn hfn
      split at h
      · rename_i t ht'
        obtain ⟨r, hr, hone⟩ := Tree.OK_one t (Tree.OK_bind t h)
        refine ⟨r.1, r.2, hr, fun args w => callFunc_run h1 h2 h3 args w, fun W L ρ w hI => ?_⟩
        refine Calls.mono (ho g vs s t ht' W L ρ w _ hI hok hone) ?_
        rintro e w' ⟨v, s', ρ', rfl, hag, hle, hv, hI', hp⟩
        subst hp
        exact ⟨ρ', rfl, hag, hle, hv, hI'⟩
      · split at h
        · exact h.elim
        rename_i c hc
        cases hb : Nat.ble vs.length fn.ntmps <;> simp only [hb, cond_true, cond_false] at h
        · exact h.elim
        rw [mkFrK_eq] at h
        obtain ⟨lf, hlf, hone⟩ := Tree.OK_one _ (Tree.OK_bind _ h)
        cases he : lf.ended <;> simp only [he, cond_true, cond_false] at hlf
        · exact hlf.elim
        split at hlf
        · rename_i v hv
          refine ⟨v, lf.s, hlf, fun args w => callFunc_run h1 h2 h3 args w, fun W L ρ w hI => ?_⟩
          refine callTree_of_wp h1 hc ?_
          refine ih 0 _ _ s W L ρ _ w _ _ hone (mkFr_rel (Nat.le_of_ble_eq_true hb) (hsz g fn hfn) hok) hI ?_
          intro lf' a' w' ρ' hp hag hle hf' hI'
          subst hp
          simp only [he, if_true]
          have := results1_sound (P := P) hI' hf' hv
          exact ⟨⟨hf'.defers, _, this.1, ρ', rfl, hag, hle, this.2, hI'⟩, ⟨hf'.defers, _, this.1, ρ', rfl, hag, hle, this.2, hI'⟩⟩
        · exact hlf.elim
    have again : ∀ todo', (run P orc tab n brk todo' fr s).OK post → TodoWp P todo' Q a w := fun todo' h => ih _ _ _ _ _ _ _ _ _ _ _ h hf hI hQ
    have stop : ∀ todo', post ⟨todo', false, fr, s⟩ → TodoWp P todo' Q a w := fun todo' h => by
      have := hQ _ a w ρ h (Agree.refl _ _) (Nat.le_refl _) hf hI
      simpa using this
    have done : post ⟨[], true, fr, s⟩ → Q .normal a w ∧ Q .ret a w := fun h => by
      have := hQ _ a w ρ h (Agree.refl _ _) (Nat.le_refl _) hf hI
      simpa using this
    have cont : ∀ (k : List Item) (fr' : Fr) (s' : SW) (ρ' : Rh) (a' : Act) (w' : World), (run P orc tab n brk k fr' s').OK post → Agree s.length ρ ρ' → s.length ≤ s'.length →
        FrRel s'.length ρ' fr' a' → Inv P.E W L ρ' s' w' → TodoWp P k Q a' w' := fun k fr' s' ρ' a' w' h hag hle hf' hI' =>
      ih _ _ _ _ _ _ _ _ _ _ _ h hf' hI' fun lf a'' w'' ρ'' hp hag' hle' hf'' hI'' =>
        hQ lf a'' w'' ρ'' hp (hag.trans hag' hle) (Nat.le_trans hle hle') hf'' hI''
    rw [run_def] at h
    simp only [drawR, lineR, testR, callR, callCR, opsF_eq, lineF_eq] at h
    split at h
    · exact TodoWp.nil (done h).1
    · exact TodoWp.ret (done h).2
    · exact TodoWp.skip (again _ h)
    · exact TodoWp.label (again _ h)
    · exact TodoWp.inBlock (again _ h)
    · exact TodoWp.inScope (again _ h)
    · exact TodoWp.seq (again _ h)
    · exact TodoWp.scope (again _ h)
    · exact TodoWp.block (again _ h)
    · rename_i c k
      cases hb : Nat.beq (Nat.land 1 (Nat.shiftRight brk k.length)) 1 <;> simp only [hb, cond_true, cond_false] at h
      · exact TodoWp.loop (again _ h)
      · exact TodoWp.loop (stop _ h)
    · rename_i c k
      cases hb : Nat.beq (Nat.land 1 (Nat.shiftRight brk k.length)) 1 <;> simp only [hb, cond_true, cond_false] at h
      · exact TodoWp.inLoop (again _ h)
      · exact TodoWp.inLoop (stop _ h)
    · split at h
      · rename_i k' hk; exact TodoWp.exit hk (again _ h)
      · exact h.elim
    · split at h
      · rename_i lit v hv
        have h1 : a.eval _ = .bool v := (FrRel.ev hf _ _ hv).1
        cases lit <;> simp only [cond_true, cond_false] at h
        · rename_i c x y k _
          have old : (forkK fr c v (fun fr => run P orc tab n brk (.code x :: k) fr s) (fun fr => run P orc tab n brk (.code y :: k) fr s)).OK post → TodoWp P (.code (.cond c x y) :: k) Q a w := by
            intro h
            obtain ⟨fr', hf', h2, h3⟩ := forkK_sound hf hv h
            cases v
            · exact TodoWp.cond h1 (ih _ _ _ _ _ _ _ _ _ _ _ (h3 rfl) hf' hI hQ)
            · exact TodoWp.cond h1 (ih _ _ _ _ _ _ _ _ _ _ _ (h2 rfl) hf' hI hQ)
          cases hcalm : (P.m && (calm x && calm y)) <;> simp only [hcalm, cond_true, cond_false] at h
          · exact old h
          unfold joinK at h
          split at h
          · rename_i d
            have hv : fr.get d = some (.c (.b false v)) := hv
            rcases putK_same h with h | ⟨frT, h, hsT, hgT, hpT⟩
            · exact old h
            rcases quietC_sound ho ht hm _ _ _ _ _ _ _ _ h with h | ⟨xT, lT, nT, h, hqT, hsemT⟩
            · exact old h
            rcases putK_same h with h | ⟨frF, h, hsF, hgF, hpF⟩
            · exact old h
            rcases quietC_sound ho ht hm _ _ _ _ _ _ _ _ h with h | ⟨xF, lF, nF, h, hqF, hsemF⟩
            · exact old h
            cases hm' : (memN lT d || memN lF d) <;> simp only [hm', cond_true, cond_false] at h
            rotate_left
            · exact old h
            simp only [Bool.or_eq_false_iff] at hm'
            rcases mergeK_spec _ _ _ _ h with h | ⟨M1, h, hM1, hg1⟩
            · exact old h
            rcases mergeK_spec _ _ _ _ h with h | ⟨M, h, hM, hg2⟩
            · exact old h
            rw [joinNK_eq] at h
            have hn := needsT_OK h
            have hj := joinN_T hn.1
            have bw := both_ways (n := s.length) (ρ := ρ) hv hsT (hgT d rfl) hsF (hgF d rfl) hqT.1 hqF.1 hm'.1 hm'.2 hM1 hg1 hM hg2
            have hcont : ∀ a' w', FrRel s.length ρ M a' → Inv P.E W L ρ s w' → TodoWp P k Q a' w' := fun a' w' hf' hI' => ih _ _ _ _ _ _ _ _ _ _ _ hn.2 hf' hI' hQ
            refine TodoWp.cond h1 ?_
            cases v
            · have hfF := hpF _ _ _ hf rfl
              rw [put_true hf hv rfl] at hfF
              exact hsemF (hj.2 rfl) W L ρ a w Q _ hfF hI fun a' w' hf' hI' => hcont a' w' ((bw.2 a').2 rfl hf') hI'
            · have hfT := hpT _ _ _ hf rfl
              rw [put_true hf hv rfl] at hfT
              exact hsemT (hj.1 rfl) W L ρ a w Q _ hfT hI fun a' w' hf' hI' => hcont a' w' ((bw.2 a').1 rfl hf') hI'
          · exact old h
        · cases v <;> simp only [cond_true, cond_false] at h
          · exact TodoWp.cond h1 (again _ h)
          · exact TodoWp.cond h1 (again _ h)
      · exact h.elim
    · rename_i id ops draw k
      cases draw <;> simp only [cond_true, cond_false] at h
      · have old : (opsK P (callOf P orc tab n) ops ((List.range ops.size).map fun i => (i, .loud)) fr s fun fr' s' => run P orc tab n brk k fr' s').OK post → TodoWp P (.code (.region id ops false) :: k) Q a w := by
          intro h
          refine TodoWp.code (wp_region (SeqWp.ops _ _ _ ?_))
          exact opsK_sound (hcall W L) _ h hf hI fun fr' s' ρ' a' w' h hag hle hf' hI' => cont _ _ _ _ _ _ h hag hle hf' hI'
        cases hq : (P.m && (hasG ops && calmOps ops)) <;> simp only [hq, cond_true, cond_false] at h
        · exact old h
        rcases quietOps_sound ho ht _ _ _ _ _ _ _ _ h with h | ⟨f1, l1, n1, h, hq1, hsem1⟩
        · exact old h
        have hn := needsT_OK h
        refine TodoWp.code (wp_region (SeqWp.ops _ _ _ ?_))
        have := hsem1 hn.1 W L ρ a w (TodoWp P k Q) [] hf hI fun a' w' hf' hI' => ih _ _ _ _ _ _ _ _ _ _ _ hn.2 hf' hI' hQ
        rw [List.append_nil] at this
        exact this
      · cases hs : Region.noSelect ops <;> simp only [hs, cond_true, cond_false] at h
        · exact h.elim
        split at h
        · rename_i l hl
          have old : (opsK P (callOf P orc tab n) ops l fr s fun fr' s' => run P orc tab n brk k fr' s').OK post → TodoWp P (.code (.region id ops true) :: k) Q a w := by
            intro h
            refine TodoWp.code (sched_wp hm hs (schedV_eq hl) ?_)
            exact opsK_sound (hcall W L) _ h hf (hI.drawn _) fun fr' s' ρ' a' w' h hag hle hf' hI' => cont _ _ _ _ _ _ h hag hle hf' hI'
          cases hq : (P.m && (hasG ops && calmOps ops)) <;> simp only [hq, cond_true, cond_false] at h
          · exact old h
          rcases quietOps_sound ho ht _ _ _ _ _ _ _ _ h with h | ⟨f1, l1, n1, h, hq1, hsem1⟩
          · exact old h
          have hn := needsT_OK h
          refine TodoWp.code (sched_wp hm hs (schedV_eq hl) ?_)
          have := hsem1 hn.1 W L ρ a { w with drawn := w.drawn + 1 } (TodoWp P k Q) [] hf (hI.drawn _) fun a' w' hf' hI' => ih _ _ _ _ _ _ _ _ _ _ _ hn.2 hf' hI' hQ
          rw [List.append_nil] at this
          exact this
        split at h
        · rename_i q hq
          refine TodoWp.code (wp_region_any hm (wpAny_of_X (md := mildAt) _ _ _ _ _ _ Kinds.self (hI.drawn _) ?_))
          exact anyOrdM_sound h hf hI fun fr2 s2 ρ2 a2 w2 h2 hag2 hle2 hf2 hI2 => cont _ _ _ _ _ _ h2 hag2 hle2 hf2 hI2
        split at h
        · rename_i l hl
          rw [maskK_eq] at h
          refine TodoWp.code (schedY_wp (R := Inv P.E W L ρ (maskS (scanB P ops l fr s) 0 s)) hm hs (yHint_eq hl) (fun w hw => hw.mask _) (hI.drawn _) ?_)
          exact opsY_sound (hcall W L) _ h hf hI fun fr' s' ρ' a' w' h hag hle hf' hI' => cont _ _ _ _ _ _ h hag hle hf' hI'
        · split at h
          · rename_i l k' listed hl
            rw [maskK_eq] at h
            have hz := zHint_eq hl
            refine TodoWp.code (wp_region_any hm (wpAny_of_Y _ (Inv P.E W L ρ (maskS (scanB P ops l fr s) 0 s)) (Inv P.E W L ρ s) _ _ _ (hI.drawn _) (schedZ_sound (cv := cvH P) hs _ _ _ _ _ (fun w hw => hw.mask _) ?_)))
            rw [← hz]
            exact opsY_soundL (hcall W L) _ h hf hI fun fr' s' ρ' a' w' B' h hag hle hf' hI' => wpAnyY_mono (fun w hw => hw.mask B') (anyOrd_soundY h hf' hI' fun fr2 s2 ρ2 a2 w2 h2 hag2 hle2 hf2 hI2 => cont _ _ _ _ _ _ h2 (hag.trans hag2 hle) (Nat.le_trans hle hle2) hf2 hI2)
          split at h
          · rename_i l hl
            refine TodoWp.code (schedC_wp hm hs hl (show Just P.E W L ρ s (Inv P.E W L ρ s) from rfl) (hI.drawn _) ?_)
            exact opsD_sound hcallD _ h hf hI fun fr' s' ρ' a' w' h hag hle hf' hI' => cont _ _ _ _ _ _ h hag hle hf' hI'
          · split at h
            · rename_i l hl
              refine TodoWp.code (schedC_wp hm hs hl Kinds.self (hI.drawn _) ?_)
              exact opsC_sound hcallC hcallD _ h hf hI fun fr' s' ρ' a' w' h hag hle hf' hI' => cont _ _ _ _ _ _ h hag hle hf' hI'
            · refine TodoWp.code (wp_region_any hm (wpAny_of_X (md := mildAt) _ _ _ _ _ _ Kinds.self (hI.drawn _) (schedH_sound hs _ _ _ _ ?_)))
              exact opsC_soundL hcallC hcallD _ h hf hI fun fr' s' ρ' a' w' h hag hle hf' hI' => anyOrd_sound h hf' hI' fun fr2 s2 ρ2 a2 w2 h2 hag2 hle2 hf2 hI2 => cont _ _ _ _ _ _ h2 (hag.trans hag2 hle) (Nat.le_trans hle hle2) hf2 hI2
    · exact h.elim

noncomputable def fnTree (P : PE) (orc : Orc) (tab : Tab) (fuel : Nat) (fn : Func) (vs : List SV) (s : SW) : Tree (SV × SW) :=
  match fn.body with
  | none => .fail
  | some c => cond (Nat.ble vs.length fn.ntmps) (mkFrK (Tr.mk 12) 0 vs fun t =>
      (run P orc tab fuel 0 [.code c] ⟨fn.ntmps, t⟩ s).bind fun lf => cond lf.ended (match results1 P fn lf.fr lf.s with | some v => .leaf (v, lf.s) | none => .fail) .fail) .fail

theorem fnTree_sound {orc : Orc} {tab : Tab} (ho : OrcOK P orc) (ht : TabOK P tab) (hsz : ∀ g fn, tab g = some fn → fn.ntmps < 4095) (hm : P.follows .mixedOrders = true)
    (fuel : Nat) {g : FuncId} {fn : Func} (hf : P.funcs[g]? = some fn) (hnt : fn.ntmps < 4095) (vs : List SV) (s : SW) : CallTree P g vs s (fnTree P orc tab fuel fn vs s) := by
  intro W L ρ w post hI hok h
  unfold fnTree at h
  split at h
  · exact h.elim
  rename_i c hc
  cases hb : Nat.ble vs.length fn.ntmps <;> simp only [hb, cond_true, cond_false] at h
  · exact h.elim
  rw [mkFrK_eq] at h
  have h := Tree.OK_bind _ h
  refine callTree_of_wp hf hc ?_
  refine run_sound ho ht hsz hm fuel 0 _ _ s W L ρ _ w _ _ h (mkFr_rel (Nat.le_of_ble_eq_true hb) hnt hok) hI ?_
  intro lf a' w' ρ' hp hag hle hf' hI'
  cases he : lf.ended
  · simp only [he, cond_false] at hp
    exact hp.elim
  · simp only [he, cond_true] at hp
    simp only [if_true]
    split at hp
    · rename_i v hv
      have := results1_sound (P := P) hI' hf' hv
      exact ⟨⟨hf'.defers, _, this.1, v, lf.s, ρ', rfl, hag, hle, this.2, hI', hp⟩, ⟨hf'.defers, _, this.1, v, lf.s, ρ', rfl, hag, hle, this.2, hI', hp⟩⟩
    · exact hp.elim

theorem law_of_tree {g : FuncId} {vs : List SV} {t : Tree (SV × SW)} (hc : CallTree P g vs [] t) (hok : ∀ v ∈ vs, v.ok 0 = true) (args : Array Value)
    (hargs : (vs.map (SV.den Rh0)).toArray = args) (ht : t.OK fun r => ∃ l, r.1 = .c (.b l true)) (w : World) (hE : P.E = w) :
    Calls P g args w fun e w' => e = .returned (.bool true) ∧ Grew w w' := by
  subst hargs
  refine Calls.mono (hc w (fun _ => True) (Rh0) w _ (Inv.start (ρ := Rh0) (n := 0) (by rw [hE]; exact ExtI.refl w _)) hok ht) ?_
  rintro e w' ⟨v, s', ρ', rfl, _, _, _, hI, l, hv⟩
  simp only at hv
  subst hv
  exact ⟨rfl, hI.grown⟩

noncomputable def orcNone : Orc := fun _ _ _ => none
theorem orcNone_ok : OrcOK P orcNone := fun _ _ _ _ h => nomatch h
noncomputable def tabL : List (FuncId × Func) → Tab
  | [], _ => none
  | (i, f) :: r, g => cond (Nat.beq i g) (some f) (tabL r g)
noncomputable def FnOK (P : Program) (p : FuncId × Func) : Prop := P.funcs[p.1]? = some p.2 ∧ (p.2.name == "runtime.NumGoroutine") = false ∧ p.2.body.isSome = true ∧ p.2.ntmps < 4095
theorem tabL_ok {l : List (FuncId × Func)} (h : ∀ p, p ∈ l → FnOK P.toProgram p) : TabOK P (tabL l) := by
  intro g fn hg
  induction l with
  | nil => cases hg
  | cons p r ih =>
    obtain ⟨i, f⟩ := p
    simp only [tabL] at hg
    cases hb : Nat.beq i g <;> simp only [hb, cond_true, cond_false] at hg
    · exact ih (fun q hq => h q (List.mem_cons_of_mem _ hq)) hg
    · simp at hg; subst hg
      have := Nat.eq_of_beq_eq_true hb
      subst this
      have := h (i, f) List.mem_cons_self
      exact ⟨this.1, this.2.1, this.2.2.1⟩
theorem tabL_sz {P : Program} {l : List (FuncId × Func)} (h : ∀ p, p ∈ l → FnOK P p) : ∀ g fn, tabL l g = some fn → fn.ntmps < 4095 := by
  intro g fn hg
  induction l with
  | nil => cases hg
  | cons p r ih =>
    obtain ⟨i, f⟩ := p
    simp only [tabL] at hg
    cases hb : Nat.beq i g <;> simp only [hb, cond_true, cond_false] at hg
    · exact ih (fun q hq => h q (List.mem_cons_of_mem _ hq)) hg
    · simp at hg; subst hg
      exact (h (i, f) List.mem_cons_self).2.2.2
theorem fn_cons {P : Program} {p : FuncId × Func} {l : List (FuncId × Func)} (hp : FnOK P p) (hl : ∀ q, q ∈ l → FnOK P q) : ∀ q, q ∈ p :: l → FnOK P q :=
  fun q hq => (List.mem_cons.1 hq).elim (fun e => e ▸ hp) (hl q)
theorem fn_nil {P : Program} : ∀ q, q ∈ ([] : List (FuncId × Func)) → FnOK P q := fun _ h => nomatch h
end
end Go.Proofs.Ytdomhmajoclpeaa.Ev
