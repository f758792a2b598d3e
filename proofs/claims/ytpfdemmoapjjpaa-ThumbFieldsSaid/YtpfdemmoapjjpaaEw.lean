import Derived.Test.YtpfdemmoapjjpaaEv
import Derived.WalkKit
import Derived.ProofKit
import Derived.OpenShut
import Derived.ReadAgain
/- A verified symbolic evaluator over the step machine: a function's body is run by the kernel on values that may be unknown; the run forks where a test is not known; the tree of its ends is sound for the machine. -/
set_option linter.unusedVariables false
set_option linter.unusedSimpArgs false
namespace Go.Proofs.Ytpfdemmoapjjpaa.Ev
open Go
section
variable {P : Program} {W : World} {L : Nat}

/-- What is known of the state that is reached. -/
structure St (W : World) (L : Nat) (n : Nat) (ρ0 ρ : Nat → Nat) (s : SW) (w : World) : Prop where
  agree : Agree n ρ0 ρ
  le : n ≤ s.length
  inv : Inv W L ρ s w

theorem St.trans {n : Nat} {ρ0 ρ ρ' : Nat → Nat} {s s' : SW} {w w' : World} (h : St W L n ρ0 ρ s w) (hag : Agree s.length ρ ρ') (hle : s.length ≤ s'.length)
    (hI : Inv W L ρ' s' w') : St W L n ρ0 ρ' s' w' := ⟨h.agree.trans hag h.le, Nat.le_trans h.le hle, hI⟩

theorem FrRel.ev {n : Nat} {ρ : Nat → Nat} {f : Fr} {a : Act} (h : FrRel n ρ f a) (x : Operand) (y : SV) (hx : f.ev x = some y) : a.eval x = y.den ρ ∧ y.ok n = true := by
  cases x with
  | tmp t => exact ⟨(h.get hx).1, (h.get hx).2.1⟩
  | const v => simp [Fr.ev] at hx; subst hx; exact ⟨(ofVal_den ρ v).symm, ofVal_ok n v⟩
  | func g => simp [Fr.ev] at hx; subst hx; exact ⟨rfl, rfl⟩
  | global g => simp [Fr.ev] at hx

theorem putK_sound {β : Type} {n : Nat} {ρ : Nat → Nat} {f : Fr} {a : Act} (h : FrRel n ρ f a) {dst : Option Nat} {v : SV} {K : Fr → Tree β} {post : β → Prop} (hv : v.ok n = true)
    (ht : (f.putK dst v .fail K).OK post) : ∃ f', FrRel n ρ f' (a.put dst (v.den ρ)) ∧ (K f').OK post := by
  unfold Fr.putK at ht
  cases dst with
  | none => exact ⟨f, h, ht⟩
  | some d =>
    simp only at ht
    cases hc : Nat.blt d f.nt && f.tr.has d <;> simp only [hc, cond_true, cond_false] at ht
    · exact ht.elim
    · simp only [Bool.and_eq_true] at hc
      rw [Tr.setK_eq] at ht
      exact ⟨_, h.put (Nat.le_of_ble_eq_true hc.1) hc.2 hv, ht⟩

/-- What a call must be good for. -/
def CallOK (P : Program) (W : World) (L : Nat) {β : Type} (call : CallK β) : Prop :=
  ∀ (g : FuncId) (vs : List SV) (s : SW) (K : SV → SW → Tree β) (post : β → Prop) (ρ : Nat → Nat) (w : World),
    (call g vs s K).OK post → Inv W L ρ s w → (∀ v ∈ vs, v.ok s.length = true) →
    (∀ w, (callFunc g ((vs.map (SV.den ρ)).toArray)).run P w = .ok (.enter g (vs.map (SV.den ρ)).toArray) w) ∧
    Calls P g (vs.map (SV.den ρ)).toArray w fun e w' => ∃ v s' ρ', e = .returned (v.den ρ') ∧ Agree s.length ρ ρ' ∧ s.length ≤ s'.length ∧ v.ok s'.length = true ∧
      Inv W L ρ' s' w' ∧ (K v s').OK post

variable {β : Type} {post : β → Prop}

theorem wpOp_run {ops : Array Oper} {Q : Exit → Act → World → Prop} {i : Nat} {o : Oper} {K : Act → World → Prop} {a : Act} {w : World} (hi : ops[i]? = some o)
    (hw : Region.wanted o (yielded ops a.tmps) = true) (h : o.wp P a w K Q) : wpOp P ops Q i K a w := by
  unfold wpOp; simp only [hi, hw, if_true]; exact .inl h

theorem wpOp_skip {ops : Array Oper} {Q : Exit → Act → World → Prop} {i : Nat} {o : Oper} {K : Act → World → Prop} {a : Act} {w : World} (hi : ops[i]? = some o)
    (hw : Region.wanted o (yielded ops a.tmps) = false) (h : K (a.put o.dst undef) w) : wpOp P ops Q i K a w := by
  unfold wpOp; simp only [hi, hw, Bool.false_eq_true, if_false]; exact h

/-- One operation. -/
theorem operK_sound {call : CallK β} (hcall : CallOK P W L call) {o : Oper} {fr : Fr} {s : SW} {K : SV → SW → Tree β} {ρ : Nat → Nat} {a : Act} {w : World}
    (ht : (operK P call .loud o fr s K).OK post) (hf : FrRel s.length ρ fr a) (hI : Inv W L ρ s w) {Kp : Act → World → Prop} {Q : Exit → Act → World → Prop}
    (hK : ∀ v s' ρ' w', (K v s').OK post → Agree s.length ρ ρ' → s.length ≤ s'.length → v.ok s'.length = true → Inv W L ρ' s' w' → Kp (a.put o.dst (v.den ρ')) w') :
    o.wp P a w Kp Q := by
  have hev := fun x y h => FrRel.ev hf x y h
  unfold operK at ht
  split at ht
  · rename_i r hr
    have hn := needsT_OK ht
    have hp := pureOp_sound hev hr hn.1
    unfold Oper.wp
    rw [hp.1 w]
    exact hK _ _ _ _ hn.2 (Agree.refl _ _) (Nat.le_refl _) hp.2 hI
  · simp only at ht
    split at ht
    · rename_i v s' hh
      obtain ⟨ρ', w', nx, hag, hle, hok, hrun, hI', hnx⟩ := heapOp_sound hI hev hh
      unfold Oper.wp
      rw [hrun]
      rcases hnx with rfl | ⟨rfl, rfl⟩
      · exact hK _ _ _ _ ht hag hle hok hI'
      · have := hK _ _ _ _ ht hag hle hok hI'
        rw [undefS_den] at this
        exact this
    · split at ht
      · rename_i f args argTypes ho
        split at ht
        · rename_i g vs hg hvs
          have h1 := hev _ _ hg
          have h2 := evs_sound hev _ _ hvs
          obtain ⟨hcf, hc⟩ := hcall g vs s K post ρ w ht hI h2.2
          have hargs : args.map a.eval = (vs.map (SV.den ρ)).toArray := Array.ext' (by rw [Array.toList_map, h2.1])
          unfold Oper.wp
          have hx : (execOp a.eval o).run P w = .ok (.enter g (vs.map (SV.den ρ)).toArray) w := by
            obtain ⟨dst, op, type, pos, after, guard⟩ := o
            simp only at ho
            subst ho
            have h1' : a.eval f = .func (.func g) #[] #[] := h1.1
            simp only [execOp, resolve, hargs, h1', Deferred.ofValue, Sem.run_bind, Sem.run_pure, Result.andThen_ok, invoke]
            simpa using hcf w
          rw [hx]
          refine Calls.mono hc ?_
          rintro e w' ⟨v, s', ρ', rfl, hag, hle, hok, hI', hk⟩
          exact hK _ _ _ _ hk hag hle hok hI'
        · rename_i g caps vs hg hvs
          have h1 := hev _ _ hg
          have h2 := evs_sound hev _ _ hvs
          have hok2 : ∀ v ∈ vs ++ caps.map (fun p => SV.c (.p p.1 p.2)), v.ok s.length = true := by
            intro v hv
            rcases List.mem_append.1 hv with hv | hv
            · exact h2.2 v hv
            · obtain ⟨p, hp, rfl⟩ := List.mem_map.1 hv
              exact List.all_eq_true.1 h1.2 p hp
          obtain ⟨hcf, hc⟩ := hcall g _ s K post ρ w ht hI hok2
          have hargs : args.map a.eval ++ (caps.map fun p => Value.pointer (some ⟨ρ p.1, p.2, none⟩)).toArray = ((vs ++ caps.map (fun p => SV.c (.p p.1 p.2))).map (SV.den ρ)).toArray := by
            apply Array.ext'
            simp only [Array.toList_append, Array.toList_map, h2.1, List.map_append, List.map_map]
            rfl
          unfold Oper.wp
          have hx : (execOp a.eval o).run P w = .ok (.enter g ((vs ++ caps.map (fun p => SV.c (.p p.1 p.2))).map (SV.den ρ)).toArray) w := by
            obtain ⟨dst, op, type, pos, after, guard⟩ := o
            simp only at ho
            subst ho
            have h1' : a.eval f = .func (.func g) #[] (caps.map fun p => Value.pointer (some ⟨ρ p.1, p.2, none⟩)).toArray := h1.1
            simp only [execOp, resolve, h1', Deferred.ofValue, Sem.run_bind, Sem.run_pure, Result.andThen_ok, invoke]
            rw [show (#[] ++ args.map a.eval : Array Value) = args.map a.eval by simp, hargs]
            exact hcf w
          rw [hx]
          refine Calls.mono hc ?_
          rintro e w' ⟨v, s', ρ', rfl, hag, hle, hok, hI', hk⟩
          exact hK _ _ _ _ hk hag hle hok hI'
        · exact ht.elim
      · unfold idxK at ht
        split at ht
        · rename_i t x ix ho
          split at ht
          · rename_i xv k i hx hix
            have h1 := hev _ _ hx
            have h2 := hev _ _ hix
            have fin : ∀ (len : Nat), (chain i (fun j => (match indexAddrR P t xv (.c (.i true k (Int.ofNat j))) with | some r => needsT r.nd (K r.v s) | none => .fail)) len 0).OK post → o.wp P a w Kp Q := by
              intro len ht
              obtain ⟨j, hj, hij, this⟩ := chain_OK ht
              split at this
              · rename_i r hr
                have hn := needsT_OK this
                have hp := indexAddrR_sound (ρ := ρ) hr hn.1 h1.2
                have hi' : (Int.ofNat j) = i := hij.symm
                unfold Oper.wp
                have hx : (execOp a.eval o).run P w = .ok (.value (r.v.den ρ)) w := by
                  obtain ⟨dst, op, type, pos, after, guard⟩ := o
                  simp only at ho
                  subst ho
                  simp only [execOp, h1.1, h2.1, Sem.run_bind]
                  have := hp.1 w
                  rw [hi'] at this
                  simp only [SV.den, C.den] at this ⊢
                  rw [this]; rfl
                rw [hx]
                exact hK _ _ _ _ hn.2 (Agree.refl _ _) (Nat.le_refl _) hp.2 hI
              · exact this.elim
            split at ht
            · exact fin _ ht
            · exact fin _ ht
            · exact ht.elim
          · exact ht.elim
        · rename_i t x ix ho
          split at ht
          · rename_i xv k i hx hix
            have h1 := hev _ _ hx
            have h2 := hev _ _ hix
            have fin : ∀ (len : Nat), (chain i (fun j => (match indexR P t xv (.c (.i true k (Int.ofNat j))) with | some r => needsT r.nd (K r.v s) | none => .fail)) len 0).OK post → o.wp P a w Kp Q := by
              intro len ht
              obtain ⟨j, hj, hij, this⟩ := chain_OK ht
              split at this
              · rename_i r hr
                have hn := needsT_OK this
                have hp := indexR_sound (ρ := ρ) hr hn.1 h1.2
                have hi' : (Int.ofNat j) = i := hij.symm
                unfold Oper.wp
                have hx : (execOp a.eval o).run P w = .ok (.value (r.v.den ρ)) w := by
                  obtain ⟨dst, op, type, pos, after, guard⟩ := o
                  simp only at ho
                  subst ho
                  simp only [execOp, h1.1, h2.1, Sem.run_bind]
                  have := hp.1 w
                  rw [hi'] at this
                  simp only [SV.den, C.den] at this ⊢
                  rw [this]; rfl
                rw [hx]
                exact hK _ _ _ _ hn.2 (Agree.refl _ _) (Nat.le_refl _) hp.2 hI
              · exact this.elim
            split at ht
            · exact fin _ ht
            · exact ht.elim
          · exact ht.elim
        · exact ht.elim

theorem same_slot {n : Nat} {ρ : Nat → Nat} {fr : Fr} {a : Act} (hf : FrRel n ρ fr a) {d : Nat} {lit v b : Bool} (hv : fr.get d = some (.c (.b lit v))) {K' : Fr → Tree β} (hb : v = b)
    (h : (fr.putK (some d) (.c (.b true b)) .fail K').OK post) : ∃ fr', FrRel n ρ fr' a ∧ (K' fr').OK post := by
  have h1 := hf.get hv
  obtain ⟨f', hf', hk⟩ := putK_sound hf (dst := some d) (v := .c (.b true b)) rfl h
  refine ⟨f', ?_, hk⟩
  have : a.put (some d) ((SV.c (.b true b)).den ρ) = a := by
    simp only [Act.put]
    have h2 : a.tmps[d]? = some ((SV.c (.b true b)).den ρ) := by rw [h1.2.2, hb]; rfl
    obtain ⟨hlt, he⟩ := Array.getElem?_eq_some_iff.1 h2
    have hset : a.tmps.setIfInBounds d ((SV.c (.b true b)).den ρ) = a.tmps := by
      apply Array.ext_getElem?
      intro j
      by_cases hj : d = j
      · subst hj
        rw [Array.getElem?_setIfInBounds_self, h2]
        simp [hlt]
      · rw [Array.getElem?_setIfInBounds_ne hj]
    rw [hset]
  rw [this] at hf'
  exact hf'

theorem forkK_sound {n : Nat} {ρ : Nat → Nat} {fr : Fr} {a : Act} (hf : FrRel n ρ fr a) {c : Operand} {lit v : Bool} (hv : fr.ev c = some (.c (.b lit v))) {Kt Kf : Fr → Tree β}
    (h : (forkK fr c v Kt Kf).OK post) : ∃ fr', FrRel n ρ fr' a ∧ (v = true → (Kt fr').OK post) ∧ (v = false → (Kf fr').OK post) := by
  unfold forkK at h
  split at h
  · rename_i d
    cases v
    · obtain ⟨f', h1, h2⟩ := same_slot hf hv rfl (h.2 rfl)
      exact ⟨f', h1, (fun e => nomatch e), fun _ => h2⟩
    · obtain ⟨f', h1, h2⟩ := same_slot hf hv rfl (h.1 rfl)
      exact ⟨f', h1, fun _ => h2, (fun e => nomatch e)⟩
  · exact ⟨fr, hf, h.1, h.2⟩

theorem guardK_sound {ops : Array Oper} {o : Oper} {fr : Fr} {K : Bool → Fr → Tree β} {n : Nat} {ρ : Nat → Nat} {a : Act} (ht : (guardK ops o fr K).OK post) (hf : FrRel n ρ fr a) :
    ∃ wanted fr', Region.wanted o (yielded ops a.tmps) = wanted ∧ FrRel n ρ fr' a ∧ (K wanted fr').OK post := by
  unfold guardK at ht
  split at ht
  · rename_i hg
    exact ⟨true, fr, by simp [Region.wanted, hg], hf, ht⟩
  · rename_i j want hg
    split at ht
    · exact ht.elim
    · rename_i d hd
      split at ht
      · rename_i lit v hv
        have h1 := hf.get hv
        have hy : yielded ops a.tmps j = some v := by
          unfold yielded
          rw [hd]
          simp only [Option.bind_some, h1.2.2]
          rfl
        have hw : Region.wanted o (yielded ops a.tmps) = (v == want) := by
          simp only [Region.wanted, hg, hy]
          cases v <;> cases want <;> rfl
        have same : ∀ (b : Bool) (K' : Fr → Tree β), v = b → (fr.putK (some d) (.c (.b true b)) .fail K').OK post → ∃ fr', FrRel n ρ fr' a ∧ (K' fr').OK post :=
          fun b K' hb h => same_slot hf hv hb h
        cases lit <;> simp only [cond_true, cond_false] at ht
        · cases v
          · obtain ⟨f', hf', hk⟩ := same false _ rfl (ht.2 rfl)
            exact ⟨!want, f', by rw [hw]; cases want <;> rfl, hf', hk⟩
          · obtain ⟨f', hf', hk⟩ := same true _ rfl (ht.1 rfl)
            exact ⟨want, f', by rw [hw]; cases want <;> rfl, hf', hk⟩
        · exact ⟨_, fr, hw, hf, ht⟩
      · rename_i hv
        have h1 := hf.get hv
        have hy : yielded ops a.tmps j = none := by
          unfold yielded
          rw [hd]
          simp only [Option.bind_some, h1.2.2]
          rfl
        have hw : Region.wanted o (yielded ops a.tmps) = false := by
          simp only [Region.wanted, hg, hy]
          cases want <;> rfl
        exact ⟨_, fr, hw, hf, ht⟩
      · exact ht.elim

theorem opsK_sound {call : CallK β} (hcall : CallOK P W L call) {ops : Array Oper} : ∀ (l : List (Nat × Fl)) {fr : Fr} {s : SW} {K : Fr → SW → Tree β} {ρ : Nat → Nat} {a : Act} {w : World},
    (opsK P call ops l fr s K).OK post → FrRel s.length ρ fr a → Inv W L ρ s w → ∀ {Kp : Act → World → Prop},
    (∀ fr' s' ρ' a' w', (K fr' s').OK post → Agree s.length ρ ρ' → s.length ≤ s'.length → FrRel s'.length ρ' fr' a' → Inv W L ρ' s' w' → Kp a' w') →
    SeqWp P ops (Only Kp) l a w
  | [], fr, s, K, ρ, a, w, ht, hf, hI, Kp, hK => hK _ _ _ _ _ ht (Agree.refl _ _) (Nat.le_refl _) hf hI
  | (i, p) :: r, fr, s, K, ρ, a, w, ht, hf, hI, Kp, hK => by
    simp only [opsK] at ht
    split at ht
    · exact ht.elim
    rename_i o ho
    obtain ⟨wanted, fr1, hw, hf1, ht⟩ := guardK_sound ht hf
    cases wanted <;> simp only [cond_true, cond_false] at ht
    · obtain ⟨fr2, hf2, ht⟩ := putK_sound hf1 (undefS_ok _) ht
      have ih := opsK_sound hcall r ht hf2 hI hK
      rw [undefS_den] at ih
      cases p
      · exact wpOp_skip ho hw ih
      · exact ⟨o, undef, ho, .inr ⟨hw, rfl⟩, ih⟩
      · exact ⟨o, undef, ho, .inr ⟨hw, rfl⟩, ih⟩
    · cases p
      · refine wpOp_run ho hw (operK_sound hcall ht hf1 hI ?_)
        intro v s' ρ' w' hk hag hle hok hI'
        obtain ⟨fr2, hf2, hk⟩ := putK_sound (hf1.agree hag hle) hok hk
        exact opsK_sound hcall r hk hf2 hI' fun fr'' s'' ρ'' a'' w'' hk hag' hle' hf'' hI'' =>
          hK _ _ _ _ _ hk (hag.trans hag' hle) (Nat.le_trans hle hle') hf'' hI''
      · unfold operK at ht
        split at ht
        · rename_i rr hr
          have hn := needsT_OK ht
          have hp := pureOp_sound (fun x y h => FrRel.ev hf1 x y h) hr hn.1
          obtain ⟨fr2, hf2, hk⟩ := putK_sound hf1 hp.2 hn.2
          exact ⟨o, rr.v.den ρ, ho, .inl ⟨hw, hp.1⟩, opsK_sound hcall r hk hf2 hI hK⟩
        · exact ht.elim
      · unfold operK at ht
        split at ht
        · rename_i rr hr
          have hn := needsT_OK ht
          have hp := pureOp_sound (fun x y h => FrRel.ev hf1 x y h) hr hn.1
          obtain ⟨fr2, hf2, hk⟩ := putK_sound hf1 hp.2 hn.2
          exact ⟨o, rr.v.den ρ, ho, .inl ⟨hw, fun w' _ => hp.1 w'⟩, opsK_sound hcall r hk hf2 hI hK⟩
        · simp only at ht
          split at ht
          · rename_i t x hop
            split at ht
            · rename_i v hx
              split at ht
              · rename_i u s' hl
                have h1 := FrRel.ev hf1 _ _ hx
                obtain ⟨_, hok, hrun⟩ := loadS_sound (P := P) hI hl h1.2
                obtain ⟨fr2, hf2, hk⟩ := putK_sound hf1 hok ht
                refine ⟨o, u.den ρ, ho, .inl ⟨hw, fun w' hw' => ?_⟩, opsK_sound hcall r hk hf2 hI hK⟩
                subst hw'
                obtain ⟨dst, op, type, pos, after, guard⟩ := o
                simp only at hop
                subst hop
                simp only [execOp, Sem.run_bind, h1.1, hrun, Result.andThen_ok, Sem.run_pure]
              · exact ht.elim
            · exact ht.elim
          · exact ht.elim

/-- What a call that keeps the state must be good for. -/
def CallCOK (P : Program) {β : Type} (call : CallC β) : Prop :=
  ∀ (g : FuncId) (vs : List SV) (K : SV → Tree β) (post : β → Prop), (call g vs K).OK post → (∀ v ∈ vs, v.ok 0 = true) →
    ∃ v : SV, v.ok 0 = true ∧ (K v).OK post ∧
    (∀ (args : Array Value) w, (callFunc g args).run P w = .ok (.enter g args) w) ∧
    ∀ (W : World) (L : Nat) (ρ : Nat → Nat) (s : SW) (w : World), Inv W L ρ s w →
      Calls P g (vs.map (SV.den ρ)).toArray w fun e w' => e = .returned (v.den ρ) ∧ Inv W L ρ s w'

/-- A part of a memory. -/
theorem Inv.part {ρ ρ' : Nat → Nat} {s : SW} {e : SW} {w : World} (h : Inv W L ρ' (s ++ e) w) (hok : ∀ (i : Nat) (b : Bl), s[i]? = some b → okL s.length b.cs = true) (hL : L ≤ s.length) (hag : Agree s.length ρ ρ') :
    Inv W L ρ s w := by
  have hlt : ∀ {i : Nat} {b : Bl}, s[i]? = some b → i < s.length := fun hb => (List.getElem?_eq_some_iff.1 hb).1
  refine ⟨fun i b hb => ?_, hok, fun i j hi hj hij => ?_, h.grow, fun b hb hn => ?_, fun i h1 h2 => ?_, h.frz, h.os, h.out, h.tape, hL⟩
  · have := h.blk i b (by rw [List.getElem?_append_left (hlt hb)]; exact hb)
    rw [hag i (hlt hb), denL_agree hag (hok i b hb)] at this
    exact this
  · exact h.inj i j (by simp; omega) (by simp; omega) (by rw [hag i hi, hag j hj]; exact hij)
  · exact h.old b hb fun i hi => by rw [hag i (Nat.lt_of_lt_of_le hi hL)]; exact hn i hi
  · rw [← hag i h2]; exact h.fresh i h1 (by simp; omega)

/-- The worlds in which a memory is there. -/
def Kinds (W : World) (L : Nat) (ρ : Nat → Nat) (s : SW) (S : World → Prop) : Prop :=
  ∃ ρ' s', S = Inv W L ρ' s' ∧ ∀ w, S w → Inv W L ρ s w
theorem Kinds.self {ρ : Nat → Nat} {s : SW} : Kinds W L ρ s (Inv W L ρ s) := ⟨ρ, s, rfl, fun _ h => h⟩

theorem newS_app {s : SW} {cs : List C} {ty : TypeId} {v : SV} {s' : SW} (h : newS s cs ty = some (v, s')) : ∃ e, s' = s ++ e := by
  unfold newS at h
  rw [forceN_eq, appLK_eq] at h
  simp at h
  exact ⟨_, h.2.symm⟩
theorem heapOp_makes {ev : Operand → Option SV} {s s' : SW} {op : Op} {v : SV} (hm : makes op = true) (h : heapOp P ev s op = some (v, s')) : ∃ e, s' = s ++ e := by
  unfold heapOp at h
  split at h
  · split at h
    · split at h
      · rw [cellsK_eq] at h; exact newS_app h
      · cases h
    · cases h
  · split at h
    · split at h
      · rename_i cs _
        cases hst : cs.all C.storable <;> simp only [hst, cond_true, cond_false] at h
        · cases h
        · exact newS_app h
      · cases h
    · cases h
  · cases hm
  · cases hm
  · split at h
    · split at h
      · rename_i len _ _ _ _ _ e _
        cases hz : (Nat.beq (len * e.size) 0 || Nat.blt (2 ^ 24) (len * e.size)) <;> simp only [hz, cond_true, cond_false] at h
        · split at h
          · rw [cellsOfK_eq] at h
            split at h
            · split at h
              · split at h
                · rename_i hn
                  simp at h; obtain ⟨rfl, rfl⟩ := h
                  exact newS_app hn
                · cases h
              · cases h
            · cases h
          · cases h
        · cases h
      · cases h
    · cases h
  · cases hm
  · cases h

theorem opsC_sound {call : CallC β} (hcall : CallCOK P call) {ops : Array Oper} : ∀ (l : List (Nat × Fl)) {fr : Fr} {s : SW} {ρ : Nat → Nat} {K : Fr → SW → Tree β} {a : Act} {w : World},
    (opsC P call ops l fr s K).OK post → FrRel s.length ρ fr a → Inv W L ρ s w → ∀ {Kp : Act → World → Prop},
    (∀ fr' s' ρ' a' w', (K fr' s').OK post → Agree s.length ρ ρ' → s.length ≤ s'.length → FrRel s'.length ρ' fr' a' → Inv W L ρ' s' w' → Kp a' w') →
    SeqX P ops (Only Kp) l (Kinds W L ρ s) a
  | [], fr, s, ρ, K, a, w, ht, hf, hI, Kp, hK => fun S hS w' hw' => by
    obtain ⟨_, _, _, h⟩ := hS
    exact hK _ _ _ _ _ ht (Agree.refl _ _) (Nat.le_refl _) hf (h w' hw')
  | (i, p) :: r, fr, s, ρ, K, a, w, ht, hf, hI, Kp, hK => by
    simp only [opsC] at ht
    split at ht
    · exact ht.elim
    rename_i o ho
    obtain ⟨wanted, fr1, hw, hf1, ht2⟩ := guardK_sound ht hf
    clear ht
    have ht := ht2
    clear ht2
    have loud : ∀ (v : SV) (ih : SeqX P ops (Only Kp) r (Kinds W L ρ s) (a.put o.dst (v.den ρ))), YieldsX P ops (Kinds W L ρ s) o (v.den ρ) a →
        SeqX P ops (Only Kp) ((i, p) :: r) (Kinds W L ρ s) a := by
      intro v ih hy
      cases p
      · exact fun S hS w' hw' => hy.wpOp ho hS hw' fun w'' hw'' => ⟨_, fun _ _ h => h, ⟨S, hS, hw''⟩, ih⟩
      · exact ⟨o, _, ho, hy, ih⟩
      · exact ⟨o, _, ho, hy, ih⟩
    cases wanted <;> simp only [cond_true, cond_false] at ht
    · obtain ⟨fr2, hf2, ht⟩ := putK_sound hf1 (undefS_ok _) ht
      exact loud undefS (opsC_sound hcall r ht hf2 hI hK) (.inr ⟨hw, rfl⟩)
    · have hev := fun x y h => FrRel.ev hf1 x y h
      cases hp : isLoud p <;> simp only [hp, cond_true, cond_false] at ht
      · unfold operC at ht
        split at ht
        · rename_i rr hr
          have hn := needsT_OK ht
          have hp := pureOp_sound hev hr hn.1
          obtain ⟨fr2, hf2, hk⟩ := putK_sound hf1 hp.2 hn.2
          exact loud _ (opsC_sound hcall r hk hf2 hI hK) (.inl ⟨hw, fun S _ w' _ => .inl (hp.1 w')⟩)
        · split at ht
          · rename_i t x hop
            split at ht
            · rename_i v hx
              split at ht
              · rename_i u s' hl
                have h1 := FrRel.ev hf1 _ _ hx
                obtain ⟨_, hok, _⟩ := loadS_sound (P := P) hI hl h1.2
                obtain ⟨fr2, hf2, hk⟩ := putK_sound hf1 hok ht
                refine loud _ (opsC_sound hcall r hk hf2 hI hK) (.inl ⟨hw, fun S hS w' hw' => .inl ?_⟩)
                obtain ⟨_, _, _, hS⟩ := hS
                obtain ⟨_, _, hrun⟩ := loadS_sound (P := P) (hS w' hw') hl h1.2
                obtain ⟨dst, op, type, pos, after, guard⟩ := o
                simp only at hop
                subst hop
                simp only [execOp, Sem.run_bind, h1.1, hrun, Result.andThen_ok, Sem.run_pure]
              · exact ht.elim
            · exact ht.elim
          · rename_i f args argTypes hop
            split at ht
            · rename_i g vs hg hvs
              cases hall : vs.all (SV.ok 0) <;> simp only [hall, cond_true, cond_false] at ht
              · exact ht.elim
              have h1 := hev _ _ hg
              have h2 := evs_sound hev _ _ hvs
              obtain ⟨v, hv, hk, hcf, hc⟩ := hcall g vs _ post ht (List.all_eq_true.1 hall)
              obtain ⟨fr2, hf2, hk⟩ := putK_sound hf1 (SV.ok_mono (Nat.zero_le _) hv) hk
              refine loud v (opsC_sound hcall r hk hf2 hI hK) (.inl ⟨hw, fun S hS w' hw' => .inr ⟨g, (vs.map (SV.den ρ)).toArray, ?_, ?_⟩⟩)
              · have hargs : args.map a.eval = (vs.map (SV.den ρ)).toArray := Array.ext' (by rw [Array.toList_map, h2.1])
                obtain ⟨dst, op, type, pos, after, guard⟩ := o
                simp only at hop
                subst hop
                have h1' : a.eval f = .func (.func g) #[] #[] := h1.1
                simp only [execOp, resolve, hargs, h1', Deferred.ofValue, Sem.run_bind, Sem.run_pure, Result.andThen_ok, invoke]
                simpa using hcf _ w'
              · obtain ⟨ρ', s', rfl, hS⟩ := hS
                have h0 : ∀ x : SV, x.ok 0 = true → x.den ρ' = x.den ρ := fun x hx => SV.den_agree (n := 0) (fun i hi => absurd hi (Nat.not_lt_zero _)) hx
                have := hc W L ρ' s' w' hw'
                rw [h0 v hv, show vs.map (SV.den ρ') = vs.map (SV.den ρ) from List.map_congr_left fun x hx => h0 x (List.all_eq_true.1 hall x hx)] at this
                exact this
            · exact ht.elim
          · exact ht.elim
      · have hpl : p = .loud := by cases p <;> simp_all [isLoud]
        clear hp
        subst hpl
        cases hch : changes o.op <;> simp only [hch, cond_true, cond_false] at ht
        · exact ht.elim
        split at ht
        · rename_i v s' hh
          intro S hS w0 hw0
          obtain ⟨_, _, _, hS⟩ := hS
          have hI0 := hS w0 hw0
          obtain ⟨ρ', w', nx, hag, hle, hok, hrun, hI', hnx⟩ := heapOp_sound hI0 hev hh
          obtain ⟨fr2, hf2, hk⟩ := putK_sound (hf1.agree hag hle) hok ht
          have ih := opsC_sound hcall r hk hf2 hI' (Kp := Kp) fun fr'' s'' ρ'' a'' w'' hk hag' hle' hf'' hI'' =>
            hK _ _ _ _ _ hk (hag.trans hag' hle) (Nat.le_trans hle hle') hf'' hI''
          have hsub : mildAt ops i = true → ∀ T, Kinds W L ρ' s' T → Kinds W L ρ s T := by
            intro hm T hT
            obtain ⟨ρ2, s2, rfl, hT⟩ := hT
            have hmk : makes o.op = true := by
              simp only [mildAt, ho, hch, Bool.not_true, Bool.false_or] at hm
              exact hm
            obtain ⟨e, rfl⟩ := heapOp_makes hmk hh
            exact ⟨ρ2, s2, rfl, fun w hw => (hT w hw).part hI0.okc hI0.len hag⟩
          refine wpOp_run ho hw ?_
          unfold Oper.wp
          rw [hrun]
          rcases hnx with rfl | ⟨rfl, rfl⟩
          · exact ⟨_, hsub, ⟨_, Kinds.self, hI'⟩, ih⟩
          · rw [undefS_den] at ih
            exact ⟨_, hsub, ⟨_, Kinds.self, hI'⟩, ih⟩
        · exact ht.elim
end
end Go.Proofs.Ytpfdemmoapjjpaa.Ev

namespace Go.Proofs.Ytpfdemmoapjjpaa.Ev
open Go
section
variable {P : Program}

/-- What a tree says of a call. -/
def CallTree (P : Program) (g : FuncId) (vs : List SV) (s : SW) (t : Tree (SV × SW)) : Prop :=
  ∀ (W : World) (L : Nat) (ρ : Nat → Nat) (w : World) (post : SV × SW → Prop), Inv W L ρ s w → (∀ v ∈ vs, v.ok s.length = true) → t.OK post →
    Calls P g (vs.map (SV.den ρ)).toArray w fun e w' => ∃ v s' ρ', e = .returned (v.den ρ') ∧ Agree s.length ρ ρ' ∧ s.length ≤ s'.length ∧ v.ok s'.length = true ∧
      Inv W L ρ' s' w' ∧ post (v, s')

def OrcOK (P : Program) (orc : Orc) : Prop := ∀ g vs s t, orc g vs s = some t → CallTree P g vs s t
def TabOK (P : Program) (tab : Tab) : Prop := ∀ g fn, tab g = some fn → P.funcs[g]? = some fn ∧ (fn.name == "runtime.NumGoroutine") = false ∧ fn.body.isSome = true

theorem mkFrK_eq {β : Type} : ∀ (vs : List SV) (t : Tr) (i : Nat) (K : Tr → β), mkFrK t i vs K = K (mkFrGo t i vs)
  | [], _, _, _ => rfl
  | v :: vs, t, i, K => by simp only [mkFrK, mkFrGo, Tr.setK_eq]; exact mkFrK_eq vs _ _ K

theorem mkFrGo_get : ∀ (vs : List SV) (t : Tr) (i : Nat), (∀ j, i ≤ j → j < i + vs.length → t.has j = true) →
    ∀ j, (mkFrGo t i vs).get j = if i ≤ j ∧ j < i + vs.length then vs.getD (j - i) undefS else t.get j
  | [], t, i, _, j => by simp [mkFrGo]; intro h1 h2; omega
  | v :: vs, t, i, hh, j => by
    simp only [mkFrGo]
    rw [mkFrGo_get vs (t.set i v) (i + 1) (fun j h1 h2 => by rw [Tr.has_set]; exact hh j (by omega) (by simp; omega)) j]
    rw [Tr.get_set _ _ _ _ (hh i (Nat.le_refl _) (by simp))]
    by_cases h1 : j = i
    · subst h1; simp; intro h2; omega
    · by_cases h2 : i ≤ j ∧ j < i + (v :: vs).length
      · simp only [List.length_cons] at h2
        have h3 : i + 1 ≤ j ∧ j < i + 1 + vs.length := by omega
        rw [if_pos h3, if_pos (by simp; omega)]
        obtain ⟨m, hm⟩ : ∃ m, j - i = m + 1 := ⟨j - i - 1, by omega⟩
        have hm' : j - (i + 1) = m := by omega
        rw [hm, hm']; rfl
      · simp only [List.length_cons] at h2
        rw [if_neg (by omega), if_neg h1, if_neg (by simp; omega)]

theorem Tr.has_mk (d : Nat) : ∀ k, k + 1 < 2 ^ d → (Tr.mk d).has k = true := by
  induction d with
  | zero => intro k h; simp at h
  | succ d ih =>
    intro k h
    simp only [Tr.mk, Tr.has]
    by_cases hk : k = 0
    · subst hk; rfl
    · have hk0 : Nat.beq k 0 = false := by cases k <;> simp_all [Nat.beq]
      have hp : 2 ^ (d + 1) = 2 * 2 ^ d := by rw [Nat.pow_succ]; omega
      by_cases h1 : k % 2 = 1
      · have hp1 : Nat.beq (k % 2) 1 = true := by rw [h1]; rfl
        simp only [hk0, hp1, cond_false, cond_true]
        exact ih _ (by omega)
      · have hp1 : Nat.beq (k % 2) 1 = false := by
          have : k % 2 = 0 := by omega
          rw [this]; rfl
        simp only [hk0, hp1, cond_false]
        exact ih _ (by omega)

theorem mkFr_rel {n : Nat} {ρ : Nat → Nat} {vs : List SV} {nt : Nat} (hle : vs.length ≤ nt) (hnt : nt < 4095) (hok : ∀ v ∈ vs, v.ok n = true) :
    FrRel n ρ ⟨nt, mkFrGo (Tr.mk 12) 0 vs⟩ { tmps := (vs.map (SV.den ρ)).toArray ++ Array.replicate (nt - (vs.map (SV.den ρ)).toArray.size) undef, defers := [] } := by
  have hget := mkFrGo_get vs (Tr.mk 12) 0 (fun j _ h2 => Tr.has_mk 12 j (by simp at h2 ⊢; omega))
  refine ⟨by simp; omega, fun t ht _ => ?_, fun t ht => ?_, rfl⟩
  · simp only
    rw [hget t]
    by_cases h : t < vs.length
    · rw [if_pos (by omega)]
      rw [Array.getElem?_append_left (by simpa using h)]
      simp [h]
    · rw [if_neg (by omega), Tr.get_mk, undefS_den]
      simp only at ht
      rw [Array.getElem?_append_right (by simpa using h)]
      simp only [List.size_toArray, List.length_map]
      rw [Array.getElem?_replicate, if_pos (by omega)]
  · simp only
    rw [hget t]
    by_cases h : t < vs.length
    · rw [if_pos (by omega)]
      simp [h]
      exact hok _ (List.getElem_mem _)
    · rw [if_neg (by omega), Tr.get_mk]; rfl

def resSem (tmps : Array Value) : ResultVar → Sem Value
  | .tmp t => pure (tmps.getD t undef)
  | .cell b t => do loadVar t (← asAddr (tmps.getD b undef))
theorem results_eq (fn : Func) (tmps : Array Value) : results fn tmps = (do
  let vs ← fn.results.mapM (resSem tmps)
  pure (if h : vs.size = 1 then vs[0] else .tuple vs)) := rfl

theorem resL_sound {W : World} {L : Nat} {ρ : Nat → Nat} {s : SW} {w : World} {fr : Fr} {a : Act} (hI : Inv W L ρ s w) (hf : FrRel s.length ρ fr a) :
    ∀ (rs : List ResultVar) (vs : List SV), resL P fr s rs = some vs →
      (rs.mapM (resSem a.tmps)).run P w = .ok (vs.map (SV.den ρ)) w ∧
      ∀ v ∈ vs, v.ok s.length = true
  | [], vs, h => by simp [resL] at h; subst h; simp
  | r :: rs, vs, h => by
    simp only [resL] at h
    split at h
    · cases h
    rename_i v hv
    split at h
    · rename_i vs' hvs
      simp at h; subst h
      obtain ⟨ih1, ih2⟩ := resL_sound hI hf rs vs' hvs
      have key : (resSem a.tmps r).run P w = .ok (v.den ρ) w ∧ v.ok s.length = true := by
        cases r with
        | tmp t =>
          simp only [resS] at hv
          exact ⟨by simp only [resSem]; rw [(hf.get hv).1]; rfl, (hf.get hv).2.1⟩
        | cell b t =>
          simp only [resS] at hv
          split at hv
          · rename_i u hu
            split at hv
            · rename_i u' s' hl
              simp at hv; subst hv
              obtain ⟨_, hok, hr⟩ := loadS_sound (P := P) hI hl (hf.get hu).2.1
              refine ⟨?_, hok⟩
              have h1 := (hf.get hu).1
              simp only [resSem, h1]
              cases u with
              | c x =>
                cases x with
                | p blk off =>
                  simp only [SV.den, C.den, asAddr, Sem.run_bind, Sem.run_pure, Result.andThen_ok]
                  simpa [Instr.loadAt, Instr.sureAddr, SV.den, C.den] using hr
                | q blk off m sz ix =>
                  simp only [SV.den, C.den, asAddr, Sem.run_bind, Sem.run_pure, Result.andThen_ok]
                  simpa [Instr.loadAt, Instr.sureAddr, SV.den, C.den] using hr
                | _ => simp [loadS] at hl
              | _ => simp [loadS] at hl
            · cases hv
          · cases hv
      refine ⟨?_, fun u hu => (List.mem_cons.1 hu).elim (fun e => e ▸ key.2) (ih2 u)⟩
      rw [List.mapM_cons]
      simp only [Sem.run_bind, key.1, Result.andThen_ok, ih1, Sem.run_pure, List.map_cons]
    · cases h

theorem s1L_sound {n : Nat} {ρ : Nat → Nat} : ∀ (vs : List SV) (xs : List S1), s1L vs = some xs → vs.map (SV.den ρ) = xs.map (S1.den ρ) ∧ ((∀ v ∈ vs, v.ok n = true) → xs.all (S1.ok n) = true) ∧ xs.length = vs.length
  | [], xs, h => by simp [s1L] at h; subst h; simp
  | v :: vs, xs, h => by
    simp only [s1L] at h
    split at h
    · cases h
    rename_i x hx
    split at h
    · rename_i xs' hxs
      simp at h; subst h
      obtain ⟨h1, h2, h3⟩ := s1L_sound (n := n) (ρ := ρ) vs xs' hxs
      have hd : v.den ρ = x.den ρ ∧ (v.ok n = true → x.ok n = true) := by
        cases v <;> simp [SV.s1] at hx <;> subst hx <;> exact ⟨rfl, id⟩
      refine ⟨by simp [hd.1, h1], fun hv => ?_, by simp [h3]⟩
      simp only [List.all_cons, Bool.and_eq_true]
      exact ⟨hd.2 (hv v List.mem_cons_self), h2 fun u hu => hv u (List.mem_cons_of_mem _ hu)⟩
    · cases h

theorem results1_sound {W : World} {L : Nat} {ρ : Nat → Nat} {s : SW} {w : World} {fr : Fr} {a : Act} {fn : Func} {v : SV} (hI : Inv W L ρ s w) (hf : FrRel s.length ρ fr a)
    (h : results1 P fn fr s = some v) : (results fn a.tmps).run P w = .ok (v.den ρ) w ∧ v.ok s.length = true := by
  unfold results1 at h
  have hmap : ∀ vs, resL P fr s fn.results.toList = some vs → (fn.results.mapM (resSem a.tmps)).run P w = .ok (vs.map (SV.den ρ)).toArray w ∧ ∀ v ∈ vs, v.ok s.length = true := by
    intro vs hvs
    obtain ⟨h1, h2⟩ := resL_sound (P := P) hI hf _ _ hvs
    refine ⟨?_, h2⟩
    have : fn.results.mapM (resSem a.tmps) = List.toArray <$> fn.results.toList.mapM (resSem a.tmps) := by
      conv => lhs; rw [← Array.toArray_toList (xs := fn.results)]
      exact List.mapM_toArray
    rw [this]
    simp only [Sem.run_map, h1, Result.andThen_ok]
  split at h
  · cases h
  · rename_i v' hv'
    simp at h; subst h
    obtain ⟨h1, h2⟩ := hmap _ hv'
    refine ⟨?_, h2 _ (by simp)⟩
    rw [results_eq]
    simp only [Sem.run_bind, h1, Result.andThen_ok]
    simp
  · rename_i vs hne hvs
    split at h
    · rename_i xs hxs
      simp at h; subst h
      obtain ⟨h1, h2⟩ := hmap _ hvs
      obtain ⟨h3, h4, h5⟩ := s1L_sound (n := s.length) (ρ := ρ) _ _ hxs
      refine ⟨?_, h4 h2⟩
      rw [results_eq]
      simp only [Sem.run_bind, h1]
      have : (vs.map (SV.den ρ)).toArray.size ≠ 1 := by
        simp only [List.size_toArray, List.length_map]
        intro e
        obtain ⟨v, rfl⟩ := List.length_eq_one_iff.1 e
        exact hne v rfl
      simp only [Result.andThen_ok]
      rw [dif_neg this, h3]
      rfl
    · cases h
end
end Go.Proofs.Ytpfdemmoapjjpaa.Ev

namespace Go.Proofs.Ytpfdemmoapjjpaa.Ev
open Go
section
variable {P : Program}

theorem callFunc_run {g : FuncId} {fn : Func} (hf : P.funcs[g]? = some fn) (hn : (fn.name == "runtime.NumGoroutine") = false) (hb : fn.body.isSome = true) (args : Array Value) (w : World) :
    (callFunc g args).run P w = .ok (.enter g args) w := by
  unfold callFunc
  have : fn.body.isNone = false := by cases h : fn.body <;> simp_all
  simp only [Sem.run_bind, run_program, Result.andThen_ok, hf, hn, this, Bool.false_eq_true, if_false, Sem.run_pure]

/-- One call of a function whose body is run. -/
theorem callTree_of_wp {g : FuncId} {fn : Func} {c : Code} (hf : P.funcs[g]? = some fn) (hb : fn.body = some c) {vs : List SV} {ρ : Nat → Nat} {w : World} {R : Ending → World → Prop}
    (h : TodoWp P [.code c] (bodyPost P fn R) { tmps := (vs.map (SV.den ρ)).toArray ++ Array.replicate (fn.ntmps - (vs.map (SV.den ρ)).toArray.size) undef, defers := [] } w) :
    Calls P g (vs.map (SV.den ρ)).toArray w R := calls_of_wp hf hb h.wp

def LfQ (P : Program) (post : Lf → Prop) (W : World) (L n : Nat) (ρ0 : Nat → Nat) (Q : Exit → Act → World → Prop) : Prop :=
  ∀ lf a' w' ρ', post lf → Agree n ρ0 ρ' → n ≤ lf.s.length → FrRel lf.s.length ρ' lf.fr a' → Inv W L ρ' lf.s w' →
    if lf.ended then Q .normal a' w' ∧ Q .ret a' w' else TodoWp P lf.todo Q a' w'

/-- What holds of a memory of its own holds beside any other. -/
theorem Inv.frame {W : World} {L : Nat} {ρ ρ' : Nat → Nat} {s s' : SW} {w w' : World} (h : Inv W L ρ s w) (h' : Inv w 0 ρ' s' w') : Inv W L ρ s w' := by
  have hold : ∀ b, b < w.heap.size → w'.heap[b]? = w.heap[b]? := fun b hb => h'.old b hb fun i hi => absurd hi (Nat.not_lt_zero _)
  refine ⟨fun i b hb => ?_, h.okc, h.inj, Nat.le_trans h.grow h'.grow, fun b hb hL => ?_, h.fresh, fun a => (h'.frz a).trans (h.frz a), h'.os.trans h.os, h'.out.trans h.out, h'.tape.trans h.tape, h.len⟩
  · rw [hold _ (h.lt (List.getElem?_eq_some_iff.1 hb).1)]; exact h.blk i b hb
  · rw [hold b (Nat.lt_of_lt_of_le hb h.grow)]; exact h.old b hb hL

/-- How a call is run. -/
def callOf (P : Program) (orc : Orc) (tab : Tab) (n : Nat) : CallK Lf := fun g vs s K => match tab g with
  | none => .fail
  | some fn => match orc g vs s with
    | some t => t.bind fun r => K r.1 r.2
    | none => match fn.body with
      | none => .fail
      | some c => cond (Nat.ble vs.length fn.ntmps) (mkFrK (Tr.mk 12) 0 vs fun t =>
          (run P orc tab n 0 [.code c] ⟨fn.ntmps, t⟩ s).bind fun lf => cond lf.ended (match results1 P fn lf.fr lf.s with | some v => K v lf.s | none => .fail) .fail) .fail

def callOfC (P : Program) (orc : Orc) (tab : Tab) (n : Nat) : CallC Lf := fun g vs K => match tab g with
  | none => .fail
  | some fn => match orc g vs [] with
    | some t => t.bind fun r => cond (r.1.ok 0) (K r.1) .fail
    | none => match fn.body with
      | none => .fail
      | some c => cond (Nat.ble vs.length fn.ntmps) (mkFrK (Tr.mk 12) 0 vs fun t =>
          (run P orc tab n 0 [.code c] ⟨fn.ntmps, t⟩ []).bind fun lf => cond lf.ended (match results1 P fn lf.fr lf.s with | some v => cond (v.ok 0) (K v) .fail | none => .fail) .fail) .fail

theorem run_sound {orc : Orc} {tab : Tab} (ho : OrcOK P orc) (ht : TabOK P tab) (hsz : ∀ g fn, tab g = some fn → fn.ntmps < 4095) (hm : P.follows .mixedOrders = true) :
    ∀ (fuel brk : Nat) (todo : List Item) (fr : Fr) (s : SW) (W : World) (L : Nat) (ρ : Nat → Nat) (a : Act) (w : World) (post : Lf → Prop) (Q : Exit → Act → World → Prop),
      (run P orc tab fuel brk todo fr s).OK post → FrRel s.length ρ fr a → Inv W L ρ s w → LfQ P post W L s.length ρ Q → TodoWp P todo Q a w := by
  intro fuel
  induction fuel with
  | zero => intro brk todo fr s W L ρ a w post Q h; exact h.elim
  | succ n ih =>
    intro brk todo fr s W L ρ a w post Q h hf hI hQ
    -- a call
    have hcall : ∀ (W : World) (L : Nat), CallOK P W L (callOf P orc tab n) := by
      intro W L g vs s K post ρ w h hI hok
      unfold callOf at h
      split at h
      · exact h.elim
      rename_i fn hfn
      obtain ⟨h1, h2, h3⟩ := ht g fn hfn
      refine ⟨fun w => callFunc_run h1 h2 h3 _ w, ?_⟩
      split at h
      · rename_i t ht'
        refine Calls.mono (ho g vs s t ht' W L ρ w _ hI hok (Tree.OK_bind t h)) ?_
        rintro e w' ⟨v, s', ρ', he, hag, hle, hv, hI', hp⟩
        exact ⟨v, s', ρ', he, hag, hle, hv, hI', hp⟩
      · split at h
        · exact h.elim
        rename_i c hc
        cases hb : Nat.ble vs.length fn.ntmps <;> simp only [hb, cond_true, cond_false] at h
        · exact h.elim
        rw [mkFrK_eq] at h
        have h := Tree.OK_bind _ h
        refine callTree_of_wp h1 hc ?_
        refine ih 0 _ _ s W L ρ _ w _ _ h (mkFr_rel (Nat.le_of_ble_eq_true hb) (hsz g fn hfn) hok) hI ?_
        intro lf a' w' ρ' hp hag hle hf' hI'
        cases he : lf.ended
        · simp only [he, cond_false] at hp
          exact hp.elim
        · simp only [he, cond_true] at hp
          simp only [if_true]
          split at hp
          · rename_i v hv
            have := results1_sound (P := P) hI' hf' hv
            exact ⟨⟨hf'.defers, _, this.1, v, lf.s, ρ', rfl, hag, hle, this.2, hI', hp⟩, ⟨hf'.defers, _, this.1, v, lf.s, ρ', rfl, hag, hle, this.2, hI', hp⟩⟩
          · exact hp.elim
    have hcallC : CallCOK P (callOfC P orc tab n) := by
      intro g vs K post h hok
      have hargs : ∀ ρ : Nat → Nat, (vs.map (SV.den ρ)) = vs.map (SV.den fun _ => 0) := fun ρ => List.map_congr_left fun x hx => SV.den_agree (fun i hi => absurd hi (Nat.not_lt_zero _)) (hok x hx)
      have fin : ∀ (W : World) (L : Nat) (ρ : Nat → Nat) (s : SW) (w : World) (v : SV) (s' : SW) (ρ' : Nat → Nat) (w' : World), Inv W L ρ s w → v.ok 0 = true → Inv w 0 ρ' s' w' → v.den ρ' = v.den ρ ∧ Inv W L ρ s w' :=
        fun W L ρ s w v s' ρ' w' hI hv hI' => ⟨(SV.den_agree (n := 0) (fun i hi => absurd hi (Nat.not_lt_zero _)) hv), hI.frame hI'⟩
      unfold callOfC at h
      split at h
      · exact h.elim
      rename_i fn hfn
      obtain ⟨h1, h2, h3⟩ := ht g fn hfn
      split at h
      · rename_i t ht'
        obtain ⟨r, hr, hone⟩ := Tree.OK_one t (Tree.OK_bind t h)
        cases hb : r.1.ok 0 <;> simp only [hb, cond_true, cond_false] at hr
        · exact hr.elim
        refine ⟨r.1, hb, hr, fun args w => callFunc_run h1 h2 h3 args w, fun W L ρ s w hI => ?_⟩
        rw [hargs ρ]
        refine Calls.mono (ho g vs [] t ht' w 0 (fun _ => 0) w _ (Inv.start w) hok hone) ?_
        rintro e w' ⟨v, s', ρ', rfl, hag, hle, hv, hI', hp⟩
        subst hp
        obtain ⟨h4, h5⟩ := fin W L ρ s w v s' ρ' w' hI hb hI'
        exact ⟨by rw [h4], h5⟩
      · split at h
        · exact h.elim
        rename_i c hc
        cases hb : Nat.ble vs.length fn.ntmps <;> simp only [hb, cond_true, cond_false] at h
        · exact h.elim
        rw [mkFrK_eq] at h
        obtain ⟨lf, hlf, hone⟩ := Tree.OK_one _ (Tree.OK_bind _ h)
        cases he : lf.ended <;> simp only [he, cond_true, cond_false] at hlf
        · exact hlf.elim
        split at hlf
        · rename_i v hv
          cases hb' : v.ok 0 <;> simp only [hb', cond_true, cond_false] at hlf
          · exact hlf.elim
          refine ⟨v, hb', hlf, fun args w => callFunc_run h1 h2 h3 args w, fun W L ρ s w hI => ?_⟩
          rw [hargs ρ]
          refine callTree_of_wp h1 hc ?_
          refine ih 0 _ _ [] w 0 (fun _ => 0) _ w _ _ hone (mkFr_rel (Nat.le_of_ble_eq_true hb) (hsz g fn hfn) hok) (Inv.start w) ?_
          intro lf' a' w' ρ' hp hag hle hf' hI'
          subst hp
          simp only [he, if_true]
          have := results1_sound (P := P) hI' hf' hv
          obtain ⟨h4, h5⟩ := fin W L ρ s w v lf'.s ρ' w' hI hb' hI'
          exact ⟨⟨hf'.defers, _, this.1, by rw [h4], h5⟩, ⟨hf'.defers, _, this.1, by rw [h4], h5⟩⟩
        · exact hlf.elim
    have again : ∀ todo', (run P orc tab n brk todo' fr s).OK post → TodoWp P todo' Q a w := fun todo' h => ih _ _ _ _ _ _ _ _ _ _ _ h hf hI hQ
    have stop : ∀ todo', post ⟨todo', false, fr, s⟩ → TodoWp P todo' Q a w := fun todo' h => by
      have := hQ _ a w ρ h (Agree.refl _ _) (Nat.le_refl _) hf hI
      simpa using this
    have done : post ⟨[], true, fr, s⟩ → Q .normal a w ∧ Q .ret a w := fun h => by
      have := hQ _ a w ρ h (Agree.refl _ _) (Nat.le_refl _) hf hI
      simpa using this
    have cont : ∀ (k : List Item) (fr' : Fr) (s' : SW) (ρ' : Nat → Nat) (a' : Act) (w' : World), (run P orc tab n brk k fr' s').OK post → Agree s.length ρ ρ' → s.length ≤ s'.length →
        FrRel s'.length ρ' fr' a' → Inv W L ρ' s' w' → TodoWp P k Q a' w' := fun k fr' s' ρ' a' w' h hag hle hf' hI' =>
      ih _ _ _ _ _ _ _ _ _ _ _ h hf' hI' fun lf a'' w'' ρ'' hp hag' hle' hf'' hI'' =>
        hQ lf a'' w'' ρ'' hp (hag.trans hag' hle) (Nat.le_trans hle hle') hf'' hI''
    simp only [run] at h
    split at h
    · exact TodoWp.nil (done h).1
    · exact TodoWp.ret (done h).2
    · exact TodoWp.skip (again _ h)
    · exact TodoWp.label (again _ h)
    · exact TodoWp.inBlock (again _ h)
    · exact TodoWp.inScope (again _ h)
    · exact TodoWp.seq (again _ h)
    · exact TodoWp.scope (again _ h)
    · exact TodoWp.block (again _ h)
    · rename_i c k
      cases hb : Nat.blt k.length brk <;> simp only [hb, cond_true, cond_false] at h
      · exact TodoWp.loop (again _ h)
      · exact TodoWp.loop (stop _ h)
    · rename_i c k
      cases hb : Nat.blt k.length brk <;> simp only [hb, cond_true, cond_false] at h
      · exact TodoWp.inLoop (again _ h)
      · exact TodoWp.inLoop (stop _ h)
    · split at h
      · rename_i k' hk; exact TodoWp.exit hk (again _ h)
      · exact h.elim
    · split at h
      · rename_i lit v hv
        have h1 : a.eval _ = .bool v := (FrRel.ev hf _ _ hv).1
        cases lit <;> simp only [cond_true, cond_false] at h
        · obtain ⟨fr', hf', h2, h3⟩ := forkK_sound hf hv h
          cases v
          · exact TodoWp.cond h1 (ih _ _ _ _ _ _ _ _ _ _ _ (h3 rfl) hf' hI hQ)
          · exact TodoWp.cond h1 (ih _ _ _ _ _ _ _ _ _ _ _ (h2 rfl) hf' hI hQ)
        · cases v <;> simp only [cond_true, cond_false] at h
          · exact TodoWp.cond h1 (again _ h)
          · exact TodoWp.cond h1 (again _ h)
      · exact h.elim
    · rename_i id ops draw k
      cases draw <;> simp only [cond_true, cond_false] at h
      · refine TodoWp.code (wp_region (SeqWp.ops _ _ _ ?_))
        exact opsK_sound (hcall W L) _ h hf hI fun fr' s' ρ' a' w' h hag hle hf' hI' => cont _ _ _ _ _ _ h hag hle hf' hI'
      · cases hs : Region.noSelect ops <;> simp only [hs, cond_true, cond_false] at h
        · exact h.elim
        split at h
        · rename_i l hl
          refine TodoWp.code (sched_wp hm hs hl ?_)
          exact opsK_sound (hcall W L) _ h hf (hI.drawn _) fun fr' s' ρ' a' w' h hag hle hf' hI' => cont _ _ _ _ _ _ h hag hle hf' hI'
        · split at h
          · rename_i l hl
            refine TodoWp.code (schedC_wp hm hs hl Kinds.self (hI.drawn _) ?_)
            exact opsC_sound hcallC _ h hf hI fun fr' s' ρ' a' w' h hag hle hf' hI' => cont _ _ _ _ _ _ h hag hle hf' hI'
          · exact h.elim
    · exact h.elim

/-- The tree of a function: its body run, its results read. -/
def fnTree (P : Program) (orc : Orc) (tab : Tab) (fuel : Nat) (fn : Func) (vs : List SV) (s : SW) : Tree (SV × SW) :=
  match fn.body with
  | none => .fail
  | some c => cond (Nat.ble vs.length fn.ntmps) (mkFrK (Tr.mk 12) 0 vs fun t =>
      (run P orc tab fuel 0 [.code c] ⟨fn.ntmps, t⟩ s).bind fun lf => cond lf.ended (match results1 P fn lf.fr lf.s with | some v => .leaf (v, lf.s) | none => .fail) .fail) .fail

theorem fnTree_sound {orc : Orc} {tab : Tab} (ho : OrcOK P orc) (ht : TabOK P tab) (hsz : ∀ g fn, tab g = some fn → fn.ntmps < 4095) (hm : P.follows .mixedOrders = true)
    (fuel : Nat) {g : FuncId} {fn : Func} (hf : P.funcs[g]? = some fn) (hnt : fn.ntmps < 4095) (vs : List SV) (s : SW) : CallTree P g vs s (fnTree P orc tab fuel fn vs s) := by
  intro W L ρ w post hI hok h
  unfold fnTree at h
  split at h
  · exact h.elim
  rename_i c hc
  cases hb : Nat.ble vs.length fn.ntmps <;> simp only [hb, cond_true, cond_false] at h
  · exact h.elim
  rw [mkFrK_eq] at h
  have h := Tree.OK_bind _ h
  refine callTree_of_wp hf hc ?_
  refine run_sound ho ht hsz hm fuel 0 _ _ s W L ρ _ w _ _ h (mkFr_rel (Nat.le_of_ble_eq_true hb) hnt hok) hI ?_
  intro lf a' w' ρ' hp hag hle hf' hI'
  cases he : lf.ended
  · simp only [he, cond_false] at hp
    exact hp.elim
  · simp only [he, cond_true] at hp
    simp only [if_true]
    split at hp
    · rename_i v hv
      have := results1_sound (P := P) hI' hf' hv
      exact ⟨⟨hf'.defers, _, this.1, v, lf.s, ρ', rfl, hag, hle, this.2, hI', hp⟩, ⟨hf'.defers, _, this.1, v, lf.s, ρ', rfl, hag, hle, this.2, hI', hp⟩⟩
    · exact hp.elim

/-- A law: called with plain values it answers true, and nothing that was there has changed. -/
theorem law_of_tree {g : FuncId} {vs : List SV} {t : Tree (SV × SW)} (hc : CallTree P g vs [] t) (hok : ∀ v ∈ vs, v.ok 0 = true) (args : Array Value)
    (hargs : (vs.map (SV.den fun _ => 0)).toArray = args) (ht : t.OK fun r => ∃ l, r.1 = .c (.b l true)) (w : World) :
    Calls P g args w fun e w' => e = .returned (.bool true) ∧ RowKit.Grown w w' := by
  subst hargs
  refine Calls.mono (hc w 0 (fun _ => 0) w _ (Inv.start w) hok ht) ?_
  rintro e w' ⟨v, s', ρ', rfl, _, _, _, hI, l, hv⟩
  simp only at hv
  subst hv
  exact ⟨rfl, hI.grown⟩

def orcNone : Orc := fun _ _ _ => none
theorem orcNone_ok : OrcOK P orcNone := fun _ _ _ _ h => nomatch h
/-- A table of functions, by a list. -/
def tabL : List (FuncId × Func) → Tab
  | [], _ => none
  | (i, f) :: r, g => cond (Nat.beq i g) (some f) (tabL r g)
def FnOK (P : Program) (p : FuncId × Func) : Prop := P.funcs[p.1]? = some p.2 ∧ (p.2.name == "runtime.NumGoroutine") = false ∧ p.2.body.isSome = true ∧ p.2.ntmps < 4095
theorem tabL_ok {l : List (FuncId × Func)} (h : ∀ p, p ∈ l → FnOK P p) : TabOK P (tabL l) := by
  intro g fn hg
  induction l with
  | nil => cases hg
  | cons p r ih =>
    obtain ⟨i, f⟩ := p
    simp only [tabL] at hg
    cases hb : Nat.beq i g <;> simp only [hb, cond_true, cond_false] at hg
    · exact ih (fun q hq => h q (List.mem_cons_of_mem _ hq)) hg
    · simp at hg; subst hg
      have := Nat.eq_of_beq_eq_true hb
      subst this
      have := h (i, f) List.mem_cons_self
      exact ⟨this.1, this.2.1, this.2.2.1⟩
theorem tabL_sz {l : List (FuncId × Func)} (h : ∀ p, p ∈ l → FnOK P p) : ∀ g fn, tabL l g = some fn → fn.ntmps < 4095 := by
  intro g fn hg
  induction l with
  | nil => cases hg
  | cons p r ih =>
    obtain ⟨i, f⟩ := p
    simp only [tabL] at hg
    cases hb : Nat.beq i g <;> simp only [hb, cond_true, cond_false] at hg
    · exact ih (fun q hq => h q (List.mem_cons_of_mem _ hq)) hg
    · simp at hg; subst hg
      exact (h (i, f) List.mem_cons_self).2.2.2
theorem fn_cons {p : FuncId × Func} {l : List (FuncId × Func)} (hp : FnOK P p) (hl : ∀ q, q ∈ l → FnOK P q) : ∀ q, q ∈ p :: l → FnOK P q :=
  fun q hq => (List.mem_cons.1 hq).elim (fun e => e ▸ hp) (hl q)
theorem fn_nil : ∀ q, q ∈ ([] : List (FuncId × Func)) → FnOK P q := fun _ h => nomatch h
end
end Go.Proofs.Ytpfdemmoapjjpaa.Ev

namespace Go.Proofs.Ytpfdemmoapjjpaa.Ev
open Go

/-! ### 10. Laws and contracts -/

def isF : Tree (SV × SW) → Bool
  | .leaf (.c (.b true v), _) => !v
  | _ => false
/-- What is to be shown of a law. -/
def lawP : Tree (SV × SW) → Prop
  | .leaf (.c (.b _ v), _) => v = true
  | .leaf _ => False
  | .node b t f => cond (isF f) (b = true ∧ lawP t) (cond (isF t) (b = false ∧ lawP f) ((b = true → lawP t) ∧ (b = false → lawP f)))
  | .need b t => b = true ∧ lawP t
  | .fail => False

theorem lawP_OK : ∀ (t : Tree (SV × SW)), lawP t → t.OK fun r => ∃ l, r.1 = .c (.b l true) := by
  intro t
  induction t with
  | leaf x =>
    intro h
    obtain ⟨v, s⟩ := x
    cases v with
    | c x =>
      cases x with
      | b l v => simp only [lawP] at h; subst h; exact ⟨l, rfl⟩
      | _ => exact h.elim
    | _ => exact h.elim
  | node b t f iht ihf =>
    intro h
    simp only [lawP] at h
    cases h1 : isF f <;> simp only [h1, cond_true, cond_false] at h
    · cases h2 : isF t <;> simp only [h2, cond_true, cond_false] at h
      · exact ⟨fun hb => iht (h.1 hb), fun hb => ihf (h.2 hb)⟩
      · exact ⟨fun hb => absurd (h.1.symm.trans hb) (by decide), fun _ => ihf h.2⟩
    · exact ⟨fun _ => iht h.2, fun hb => absurd (h.1.symm.trans hb) (by decide)⟩
  | need b t ih => exact fun h => ⟨h.1, ih h.2⟩
  | fail => exact id

def C.sim : C → C → Prop
  | .b _ u, .b _ v => u = v
  | .i _ k u, .i _ k' v => k = k' ∧ u = v
  | u, v => u = v
def simL {α : Type} (r : α → α → Prop) : List α → List α → Prop
  | [], [] => True
  | [x], [y] => r x y
  | x :: xs, y :: ys => r x y ∧ simL r xs ys
  | _, _ => False
def S1.sim : S1 → S1 → Prop
  | .c u, .c v => C.sim u v
  | .a u, .a v => simL C.sim u v
  | _, _ => False
def SV.sim : SV → SV → Prop
  | .c u, .c v => C.sim u v
  | .a u, .a v => simL C.sim u v
  | .t u, .t v => simL S1.sim u v
  | _, _ => False

theorem C.sim_den {ρ : Nat → Nat} {x y : C} (h : x.sim y) : x.den ρ = y.den ρ := by
  cases x <;> cases y <;> simp only [C.sim, C.den] at h ⊢ <;> first | (cases h; done) | (cases h; rfl) | (obtain ⟨rfl, rfl⟩ := h; rfl)
theorem simL_map {α : Type} {r : α → α → Prop} {f : α → Value} (hr : ∀ x y, r x y → f x = f y) : ∀ (l l' : List α), simL r l l' → l.map f = l'.map f
  | [], [], _ => rfl
  | [x], [y], h => by simp only [List.map_cons, List.map_nil]; rw [hr _ _ h]
  | x :: x' :: xs, y :: ys, h => by
    have h : r x y ∧ simL r (x' :: xs) ys := by cases ys <;> exact h
    simp only [List.map_cons]; rw [hr _ _ h.1]
    have := simL_map hr (x' :: xs) ys h.2
    simp only [List.map_cons] at this
    rw [← this]
  | [x], y :: y' :: ys, h => by
    have h : r x y ∧ simL r [] (y' :: ys) := h
    exact h.2.elim
  | [], _ :: _, h => by cases h
  | _ :: _, [], h => by cases ‹List α› <;> cases h
theorem S1.sim_den {ρ : Nat → Nat} {x y : S1} (h : x.sim y) : x.den ρ = y.den ρ := by
  cases x <;> cases y <;> simp only [S1.sim, S1.den] at h ⊢
  · exact C.sim_den h
  · unfold denL; rw [simL_map (fun _ _ h => C.sim_den h) _ _ h]
theorem SV.sim_den {ρ : Nat → Nat} {x y : SV} (h : x.sim y) : x.den ρ = y.den ρ := by
  cases x <;> cases y <;> simp only [SV.sim, SV.den] at h ⊢
  · exact C.sim_den h
  · unfold denL; rw [simL_map (fun _ _ h => C.sim_den h) _ _ h]
  · rw [simL_map (fun _ _ h => S1.sim_den h) _ _ h]

section
variable {P : Program}

/-- A contract of a function of plain values. -/
theorem pure_contract {g : FuncId} {vs : List SV} {t : Tree (SV × SW)} (h : CallTree P g vs [] t) (hvs : ∀ v ∈ vs, v.ok 0 = true) {v : SV} (hv : v.ok 0 = true)
    (ht : t.OK fun r => r.1.sim v) (s : SW) : CallTree P g vs s (.leaf (v, s)) := by
  intro W L ρ w post hI _ hp
  have hag : Agree 0 (fun _ => 0) ρ := fun i hi => absurd hi (Nat.not_lt_zero _)
  have hargs : (vs.map (SV.den ρ)) = vs.map (SV.den fun _ => 0) := List.map_congr_left fun x hx => SV.den_agree hag (hvs x hx)
  rw [hargs]
  refine Calls.mono (h w 0 (fun _ => 0) w _ (Inv.start w) hvs ht) ?_
  rintro e w' ⟨v', s', ρ', rfl, _, _, _, hI', hs⟩
  refine ⟨v, s, ρ, ?_, Agree.refl _ _, Nat.le_refl _, SV.ok_mono (Nat.zero_le _) hv, hI.frame hI', hp⟩
  have h1 : v'.den ρ' = v.den ρ' := SV.sim_den hs
  have h2 : v.den ρ' = v.den ρ := SV.den_agree (n := 0) (fun i hi => absurd hi (Nat.not_lt_zero _)) hv
  rw [h1, h2]

/-- What is to be shown of a contract. -/
def conP (v : SV) : Tree (SV × SW) → Prop
  | .leaf (u, _) => SV.sim u v
  | .node b t f => (b = true → conP v t) ∧ (b = false → conP v f)
  | .need b t => b = true ∧ conP v t
  | .fail => False
theorem conP_OK {v : SV} : ∀ (t : Tree (SV × SW)), conP v t → t.OK fun r => r.1.sim v := by
  intro t
  induction t with
  | leaf x => exact id
  | node b t f iht ihf => exact fun h => ⟨fun hb => iht (h.1 hb), fun hb => ihf (h.2 hb)⟩
  | need b t ih => exact fun h => ⟨h.1, ih h.2⟩
  | fail => exact id

theorem CallTree.need {g : FuncId} {vs : List SV} {s : SW} {t : Tree (SV × SW)} {b : Bool} (h : b = true → CallTree P g vs s t) : CallTree P g vs s (.need b t) :=
  fun W L ρ w post hI hok ht => h ht.1 W L ρ w post hI hok ht.2

/-- Two contracts in one. -/
def orcOr (a b : Orc) : Orc := fun g vs s => match a g vs s with | some t => some t | none => b g vs s
theorem orcOr_ok {a b : Orc} (ha : OrcOK P a) (hb : OrcOK P b) : OrcOK P (orcOr a b) := by
  intro g vs s t h
  unfold orcOr at h
  split at h
  · rename_i t' ht; simp at h; subst h; exact ha _ _ _ _ ht
  · exact hb _ _ _ _ h
end

/-! ### 11. Arithmetic -/
theorem wu8 (x : Int) : IntKind.u8.wrap x = x % 256 := by simp [IntKind.wrap, IntKind.bits, IntKind.signed]
theorem wu16 (x : Int) : IntKind.u16.wrap x = x % 65536 := by simp [IntKind.wrap, IntKind.bits, IntKind.signed]
theorem wu32 (x : Int) : IntKind.u32.wrap x = x % 4294967296 := by simp [IntKind.wrap, IntKind.bits, IntKind.signed]
theorem wu64 (x : Int) : IntKind.u64.wrap x = x % 18446744073709551616 := by simp [IntKind.wrap, IntKind.bits, IntKind.signed]
theorem wi8 (x : Int) : IntKind.i8.wrap x = (x + 128) % 256 - 128 := by
  simp [IntKind.wrap, IntKind.bits, IntKind.signed]; split <;> omega
theorem wi16 (x : Int) : IntKind.i16.wrap x = (x + 32768) % 65536 - 32768 := by
  simp [IntKind.wrap, IntKind.bits, IntKind.signed]; split <;> omega
theorem wi32 (x : Int) : IntKind.i32.wrap x = (x + 2147483648) % 4294967296 - 2147483648 := by
  simp [IntKind.wrap, IntKind.bits, IntKind.signed]; split <;> omega
theorem wi64 (x : Int) : IntKind.i64.wrap x = (x + 9223372036854775808) % 18446744073709551616 - 9223372036854775808 := by
  simp [IntKind.wrap, IntKind.bits, IntKind.signed]; split <;> omega
theorem fdiv_pow (x : Int) (n : Nat) : x.fdiv (2 ^ n) = x / 2 ^ n := by
  rw [Int.fdiv_eq_ediv_of_nonneg]; exact Int.le_of_lt (Int.pow_pos (by decide))
theorem fdiv_lit (x k : Int) (hk : 0 ≤ k) : x.fdiv k = x / k := Int.fdiv_eq_ediv_of_nonneg _ hk
theorem tmod_n (x k : Int) (hx : 0 ≤ x) : x.tmod k = x % k := Int.tmod_eq_emod_of_nonneg hx
theorem tdiv_n (x k : Int) (hx : 0 ≤ x) : x.tdiv k = x / k := Int.tdiv_eq_ediv_of_nonneg hx

/-- To mask off the lower m bits. -/
theorem and_mask (k : IntKind) (x : Int) (m : Nat) (hm : m < k.bits ∨ (k.signed = false ∧ m = k.bits)) : bits .and k x (2 ^ m - 1) = x % 2 ^ m := by
  have hmle : m ≤ k.bits := by rcases hm with h | h <;> omega
  have hp : (0 : Int) < 2 ^ m := Int.pow_pos (by decide)
  have h1 : ((BitVec.ofInt k.bits x &&& BitVec.ofInt k.bits (2 ^ m - 1)).toNat : Int) = x % 2 ^ m := by
    rw [BitVec.toNat_and, BitVec.toNat_ofInt, BitVec.toNat_ofInt]
    have e1 : ((2 ^ m - 1 : Int) % ((2 ^ k.bits : Nat) : Int)).toNat = 2 ^ m - 1 := by
      have : (2 : Int) ^ m ≤ 2 ^ k.bits := by exact_mod_cast Nat.pow_le_pow_right (by decide) hmle
      rw [Int.emod_eq_of_lt (by omega) (by push_cast; omega)]
      have : ((2 ^ m : Nat) : Int) = 2 ^ m := by push_cast; rfl
      omega
    rw [e1, Nat.and_two_pow_sub_one_eq_mod]
    have e2 : 0 ≤ x % ((2 ^ k.bits : Nat) : Int) := Int.emod_nonneg _ (by have := Nat.two_pow_pos k.bits; omega)
    rw [Int.natCast_emod, Int.toNat_of_nonneg e2]
    push_cast
    rw [Int.emod_emod_of_dvd]
    exact ⟨2 ^ (k.bits - m), by rw [← Int.pow_add, Nat.add_sub_cancel' hmle]⟩
  have hlt : x % 2 ^ m < 2 ^ m := Int.emod_lt_of_pos _ hp
  have hnn : 0 ≤ x % 2 ^ m := Int.emod_nonneg _ (by omega)
  unfold bits
  simp only [h1]
  have hb : ((2 : Int) ^ m) ≤ 2 ^ k.bits := by exact_mod_cast Nat.pow_le_pow_right (by decide) hmle
  unfold IntKind.wrap
  simp only []
  rw [Int.emod_eq_of_lt hnn (by omega)]
  rcases hm with h | h
  · have h2 : ((2 : Int) ^ m) ≤ 2 ^ (k.bits - 1) := by exact_mod_cast Nat.pow_le_pow_right (by decide) (by omega)
    rw [if_neg]
    simp only [Bool.and_eq_true, decide_eq_true_eq, not_and]
    intro _
    omega
  · rw [if_neg]
    simp [h.1]
end Go.Proofs.Ytpfdemmoapjjpaa.Ev

namespace Go.Proofs.Ytpfdemmoapjjpaa.Ev
open Go Go.ChangeShapes Go.WideShapes Go.ChangeAt Go.RowKit
section
variable {H : Type} {enc : TypeId × Value → H} {P : Program}

theorem grown_block {W W' : World} (h : RowKit.Grown W W') {i : Nat} (hi : i < W.heap.size) : W'.heap[i]? = W.heap[i]? :=
  World.keptBut.block h.1 hi fun _ f => f.elim

theorem grown_sameAt {W W' : World} (h : RowKit.Grown W W') {q : MemPlace} (hq : q.block < W.heap.size) : W.sameAt W' q := by
  cases q with
  | cell b off =>
    have := grown_block h (i := b) hq
    simp only [World.sameAt, World.cell?, this]
  | map b => exact grown_block h (i := b) hq

theorem trodAll_carry {W W' : World} {base : Nat} {sp : Nat → Bool} {held : Bool} : ∀ {ts : List TypeId} {vs : List Value} {ds : List (DataW H)} {ps : List MemPlace},
    DataW.TrodAll enc P W base sp held ts vs ds ps → (∀ q ∈ ps, W.sameAt W' q) → DataW.TrodAll enc P W' base sp held ts vs ds ps
  | [], [], [], _, h, _ => h
  | _ :: _, _ :: _, _ :: _, _, ⟨p, q, ⟨n, hn⟩, h2, e⟩, hs =>
    ⟨p, q, ⟨n, DataW.trod_carry n _ _ _ hn fun x hx => hs x (by rw [e]; exact List.mem_append_left _ hx)⟩, trodAll_carry h2 (fun x hx => hs x (by rw [e]; exact List.mem_append_right _ hx)), e⟩

/-- What is asked of a program's types: looked at once. -/
structure TypesOK (P : Program) : Prop where
  laid : laidOutB P = true
  maps : mapsRowed P = true
  full : ∀ t e, t < P.types.size → P.underlying t = some (.slice e) → 0 < P.cellsOf e

/-- Arguments read behind a law as they read before. -/
theorem args_again {W W' : World} {ts : List TypeId} {vs : List Value} {ds : List (DataW H)} {ps : List MemPlace} (hz : TypesOK P) (hts : ∀ t ∈ ts, t < P.types.size)
    (hA : DataW.TrodAll enc P W 0 (fun _ => true) true ts vs ds ps) (hg : RowKit.Grown W W') (hlt : ∀ q ∈ ps, q.block < W.heap.size) (sp : Nat → Bool) (hs : ∀ q ∈ ps, sp q.block = true) :
    DataW.TrodAll enc P W' 0 sp true ts vs ds ps :=
  trodAll_carry (hA.respare (kids_rows hz.laid hz.maps) (fun t e h1 h2 => hz.full t e h1 h2) hts hs) fun q hq => grown_sameAt hg (hlt q hq)

/-- What a law leaves, whatever its arguments are. -/
theorem law_post {f : Func} {s : ChangeSpec} {W W' : World} {args : Array Value} {ds gs : List (DataW H)} {before : List MemPlace} {bt : TypeId}
    (hW : DataW.Whole enc P f.params.toList s.vars false W args.toList ds gs before) (hv : s.vars = []) (hz : TypesOK P) (hts : ∀ t ∈ f.params.toList, t < P.types.size)
    (hres : f.resultTypes = #[bt]) (hbt : P.underlying bt = some .bool) (hfn : (s.fn H (ds ++ gs)).results = [.lit (.bool true)]) (hfa : (s.fn H (ds ++ gs)).args = ds) (hfv : (s.fn H (ds ++ gs)).vars = [])
    (hg : RowKit.Grown W W') : s.post enc P f false true false false W args (.bool true) W' := by
  have hW' := hW
  obtain ⟨p, q, hA, hV, rfl, hfz, hnd⟩ := hW
  rw [hv] at hV
  obtain ⟨rfl, rfl⟩ := trodVars_none hV
  refine post_of_same (pa := p) (pv := []) hW' (fun _ _ _ => ?_) (fun sp hs => ?_) (fun sp _ => ?_) rfl (hg.frame _) hg.2.1 ?_
  · rw [hres, hfn]
    exact trodAll_cons_mk (shut_bool hbt _) trodAll_mk0
  · rw [hfa]
    exact args_again hz hts hA hg (fun q hq => hW'.lt q (List.mem_append_left _ hq)) sp fun q hq => hs q (List.mem_append_left _ hq)
  · rw [hfv, hv]; rfl
  · exact ok_one hres rfl (okWide_bool_mk hbt _)

/-! A struct of numbers, bools and texts, opened. -/
inductive FK where
  | i (k : IntKind)
  | b
  | s
def flatB (P : Program) : List Field → List FK → Nat → Bool
  | [], [], _ => true
  | f :: fs, k :: ks, j => Nat.beq f.offset j && Nat.beq (P.cellsOf f.type) 1 && (match P.underlying f.type, k with
      | some (.int k'), .i k => k' == k
      | some .bool, .b => true
      | some .string, .s => true
      | _, _ => false) && flatB P fs ks (j + 1)
  | _, _, _ => false
def FlatV : List FK → List Value → Prop
  | [], [] => True
  | .i k :: ks, v :: vs => (∃ n, v = .int k n ∧ (Lit.int k n).wf = true) ∧ FlatV ks vs
  | .b :: ks, v :: vs => (∃ n, v = .bool n) ∧ FlatV ks vs
  | .s :: ks, v :: vs => (∃ n, v = .string n) ∧ FlatV ks vs
  | _, _ => False

theorem flat_go {w : World} {base : Nat} {sp : Nat → Bool} {held : Bool} {n : Nat} {cs : List Value} : ∀ (fs : List Field) (ks : List FK) (j : Nat), flatB P fs ks j = true →
    (∀ f ∈ fs, ∃ y, DataW.trod enc P w base sp held n f.type ((cs.drop f.offset).take (P.cellsOf f.type)) = some y) → cs.length = j + ks.length → FlatV ks (cs.drop j)
  | [], [], j, _, _, hl => by
    rw [List.drop_of_length_le (by simp at hl; omega)]; trivial
  | f :: fs, k :: ks, j, hb, hf, hl => by
    simp only [flatB, Bool.and_eq_true] at hb
    obtain ⟨⟨⟨h1, h2⟩, h3⟩, h4⟩ := hb
    have h1 := Nat.eq_of_beq_eq_true h1
    have h2 := Nat.eq_of_beq_eq_true h2
    have hj : j < cs.length := by simp at hl; omega
    have ih := flat_go fs ks (j + 1) h4 (fun f hf' => hf f (List.mem_cons_of_mem _ hf')) (by simp at hl; omega)
    obtain ⟨y, hy⟩ := hf f List.mem_cons_self
    rw [h1, h2, List.drop_eq_getElem_cons hj] at hy
    rw [List.drop_eq_getElem_cons hj]
    have hy : DataW.trod enc P w base sp held n f.type [cs[j]] = some y := hy
    split at h3
    · rename_i k' k hu
      have hk : k' = k := by simpa using h3
      subst hk
      obtain ⟨m, hm, _, hw⟩ := DataW.trod_int hu hy
      exact ⟨⟨m, by simpa using hm, hw⟩, ih⟩
    · rename_i hu
      obtain ⟨m, hm, _⟩ := DataW.trod_bool hu hy
      exact ⟨⟨m, by simpa using hm⟩, ih⟩
    · rename_i hu
      obtain ⟨m, hm, _⟩ := DataW.trod_string hu hy
      exact ⟨⟨m, by simpa using hm⟩, ih⟩
    · cases h3
  | [], _ :: _, _, hb, _, _ => by simp [flatB] at hb
  | _ :: _, [], _, hb, _, _ => by simp [flatB] at hb

theorem flat_open {w : World} {base : Nat} {sp : Nat → Bool} {held : Bool} {r : Reach} {b0 : Nat} {t : TypeId} {fs : Array Field} {v : Value} {d : DataW H} {p : List MemPlace} {ks : List FK}
    (hu : P.underlying t = some (.struct fs)) (hb : flatB P fs.toList ks 0 = true) (hc : P.cellsOf t = ks.length) (hv : Value.okWide P w r b0 t v)
    (h : DataW.Trod enc P w base sp held t v d p) : ∃ cs : List Value, v = .agg cs.toArray ∧ FlatV ks cs := by
  obtain ⟨cs, rfl, hsz⟩ := okWide_struct hu hv
  obtain ⟨n, hn⟩ := h
  obtain ⟨xs, m, rfl, _, hl, hxl, hf⟩ := DataW.trod_struct hu hn
  refine ⟨cs.toList, by simp, ?_⟩
  have := flat_go (enc := enc) (w := w) (base := base) (sp := sp) (held := held) (n := m) (cs := cs.toList) fs.toList ks 0 hb (fun f hf' => by
    obtain ⟨i, hi, he⟩ := List.getElem_of_mem hf'
    have h1 := hf i f (by rw [← he]; simp)
    have hi' : i < xs.length := by simpa [hxl] using hi
    exact ⟨xs[i], h1.trans (List.getElem?_eq_getElem hi')⟩) (by simpa [hc] using hsz)
  simpa using this
end
end Go.Proofs.Ytpfdemmoapjjpaa.Ev

namespace Go.Proofs.Ytpfdemmoapjjpaa.Ev
open Go

/-! ### 12. Loops -/

def Tr.mkA : Nat → Tr
  | 0 => .e
  | d + 1 => .n (Tr.mkA d) .any (Tr.mkA d)
theorem Tr.get_mkA (d : Nat) (hd : d ≠ 0) : ∀ k, k + 1 < 2 ^ d → (Tr.mkA d).get k = .any := by
  induction d with
  | zero => exact absurd rfl hd
  | succ d ih =>
    intro k hk
    simp only [Tr.mkA, Tr.get]
    by_cases h0 : k = 0
    · subst h0; rfl
    · have hk0 : Nat.beq k 0 = false := by cases k <;> simp_all [Nat.beq]
      have hp : 2 ^ (d + 1) = 2 * 2 ^ d := by rw [Nat.pow_succ]; omega
      have hd' : d ≠ 0 := by intro e; subst e; simp at hk; omega
      by_cases h1 : k % 2 = 1
      · have hp1 : Nat.beq (k % 2) 1 = true := by rw [h1]; rfl
        simp only [hk0, hp1, cond_false, cond_true]
        exact ih hd' _ (by omega)
      · have hp1 : Nat.beq (k % 2) 1 = false := by
          have : k % 2 = 0 := by omega
          rw [this]; rfl
        simp only [hk0, hp1, cond_false]
        exact ih hd' _ (by omega)
theorem Tr.has_mkA (d : Nat) : ∀ k, k + 1 < 2 ^ d → (Tr.mkA d).has k = true := by
  induction d with
  | zero => intro k h; simp at h
  | succ d ih =>
    intro k h
    simp only [Tr.mkA, Tr.has]
    by_cases hk : k = 0
    · subst hk; rfl
    · have hk0 : Nat.beq k 0 = false := by cases k <;> simp_all [Nat.beq]
      have hp : 2 ^ (d + 1) = 2 * 2 ^ d := by rw [Nat.pow_succ]; omega
      by_cases h1 : k % 2 = 1
      · have hp1 : Nat.beq (k % 2) 1 = true := by rw [h1]; rfl
        simp only [hk0, hp1, cond_false, cond_true]
        exact ih _ (by omega)
      · have hp1 : Nat.beq (k % 2) 1 = false := by
          have : k % 2 = 0 := by omega
          rw [this]; rfl
        simp only [hk0, hp1, cond_false]
        exact ih _ (by omega)

def setAll : Tr → List (Nat × SV) → Tr
  | t, [] => t
  | t, (k, v) :: r => setAll (t.set k v) r
def setAllK {β : Type} : Tr → List (Nat × SV) → (Tr → β) → β
  | t, [], K => K t
  | t, (k, v) :: r, K => t.setK k v fun t' => setAllK t' r K
theorem setAllK_eq {β : Type} : ∀ (l : List (Nat × SV)) (t : Tr) (K : Tr → β), setAllK t l K = K (setAll t l)
  | [], _, _ => rfl
  | (k, v) :: r, t, K => by simp only [setAllK, setAll, Tr.setK_eq]; exact setAllK_eq r _ K

/-- A frame of which only these slots are known. -/
def mkL (nt : Nat) (l : List (Nat × SV)) : Fr := setAllK (Tr.mkA 12) l fun t => ⟨nt, t⟩

theorem setAll_get : ∀ (l : List (Nat × SV)) (t : Tr) (k : Nat), (∀ p ∈ l, t.has p.1 = true) → (setAll t l).get k = t.get k ∨ ∃ v, (k, v) ∈ l ∧ (setAll t l).get k = v
  | [], _, _, _ => .inl rfl
  | (j, v) :: r, t, k, h => by
    have hr := setAll_get r (t.set j v) k (fun p hp => by rw [Tr.has_set]; exact h p (List.mem_cons_of_mem _ hp))
    simp only [setAll]
    rcases hr with hr | ⟨u, hu, he⟩
    · rw [hr, Tr.get_set _ _ _ _ (h (j, v) List.mem_cons_self)]
      by_cases e : k = j
      · subst e; exact .inr ⟨v, List.mem_cons_self, by simp⟩
      · exact .inl (by simp [e])
    · exact .inr ⟨u, List.mem_cons_of_mem _ hu, he⟩

def refP (f : Fr) : List (Nat × SV) → Prop
  | [] => True
  | [(t, v)] => (f.tr.get t).sim v
  | (t, v) :: r => (f.tr.get t).sim v ∧ refP f r
theorem refP_mem {f : Fr} : ∀ {l : List (Nat × SV)}, refP f l → ∀ p ∈ l, (f.tr.get p.1).sim p.2
  | [(t, v)], h, p, hp => by simp at hp; subst hp; exact h
  | (t, v) :: q :: r, h, p, hp => by
    have h : (f.tr.get t).sim v ∧ refP f (q :: r) := h
    rcases List.mem_cons.1 hp with rfl | hp
    · exact h.1
    · exact refP_mem h.2 p hp

theorem C.sim_ok {n : Nat} {x y : C} (h : x.sim y) (hx : x.ok n = true) : y.ok n = true := by
  cases x <;> cases y <;> simp only [C.sim] at h <;> first | (cases h; done) | rfl | (cases h; exact hx)
theorem simL_ok {α : Type} {r : α → α → Prop} {f : α → Bool} (hr : ∀ x y, r x y → f x = true → f y = true) : ∀ (l l' : List α), simL r l l' → l.all f = true → l'.all f = true
  | [], [], _, _ => rfl
  | [x], [y], h, hx => by simp only [List.all_cons, List.all_nil, Bool.and_true] at hx ⊢; exact hr _ _ h hx
  | x :: x' :: xs, y :: ys, h, hx => by
    have h : r x y ∧ simL r (x' :: xs) ys := by cases ys <;> exact h
    simp only [List.all_cons, Bool.and_eq_true] at hx ⊢
    exact ⟨hr _ _ h.1 hx.1, simL_ok hr (x' :: xs) ys h.2 (by simp only [List.all_cons, Bool.and_eq_true]; exact hx.2)⟩
  | [x], y :: y' :: ys, h, _ => by
    have h : r x y ∧ simL r [] (y' :: ys) := h
    exact h.2.elim
  | [], _ :: _, h, _ => by cases h
  | _ :: _, [], h, _ => by cases ‹List α› <;> cases h
theorem S1.sim_ok {n : Nat} {x y : S1} (h : x.sim y) (hx : x.ok n = true) : y.ok n = true := by
  cases x <;> cases y <;> simp only [S1.sim, S1.ok] at h hx ⊢
  · exact C.sim_ok h hx
  · exact simL_ok (fun _ _ h => C.sim_ok h) _ _ h hx
theorem SV.sim_ok {n : Nat} {x y : SV} (h : x.sim y) (hx : x.ok n = true) : y.ok n = true := by
  cases x <;> cases y <;> simp only [SV.sim, SV.ok] at h hx ⊢
  · exact C.sim_ok h hx
  · exact simL_ok (fun _ _ h => C.sim_ok h) _ _ h hx
  · exact simL_ok (fun _ _ h => S1.sim_ok h) _ _ h hx

theorem FrRel.ref {n : Nat} {ρ : Nat → Nat} {f : Fr} {a : Act} {l : List (Nat × SV)} (h : FrRel n ρ f a) (hr : refP f l) (hb : l.all (fun p => Nat.blt p.1 f.nt) = true) (hnt : f.nt < 4095) :
    FrRel n ρ (mkL f.nt l) a := by
  have hlt : ∀ p ∈ l, p.1 < f.nt := fun p hp => Nat.le_of_ble_eq_true (List.all_eq_true.1 hb p hp)
  have hget : ∀ t, t < f.nt → (setAll (Tr.mkA 12) l).get t = .any ∨ ∃ v, (t, v) ∈ l ∧ (setAll (Tr.mkA 12) l).get t = v := fun t ht => by
    rcases setAll_get l (Tr.mkA 12) t (fun p hp => Tr.has_mkA 12 _ (by have := hlt p hp; simp; omega)) with h1 | h1
    · exact .inl (h1.trans (Tr.get_mkA 12 (by decide) t (by simp; omega)))
    · exact .inr h1
  unfold mkL
  rw [setAllK_eq]
  refine ⟨h.size, fun t ht hna => ?_, fun t ht => ?_, h.defers⟩
  · simp only [] at ht hna ⊢
    rcases hget t ht with h1 | ⟨v, hv, h1⟩
    · rw [h1] at hna; cases hna
    · rw [h1]
      have hs := refP_mem hr _ hv
      have hna' : (f.tr.get t).isAny = false := by
        cases hc : f.tr.get t <;> first | rfl | (simp only [hc] at hs; cases hs)
      rw [h.val t ht hna', SV.sim_den hs]
  · simp only [] at ht ⊢
    rcases hget t ht with h1 | ⟨v, hv, h1⟩
    · rw [h1]; rfl
    · rw [h1]; exact SV.sim_ok (refP_mem hr _ hv) (h.ok t ht)

/-- Two memories alike. -/
def refS : SW → SW → Prop
  | [], [] => True
  | b :: s, b' :: s' => (b.ty = b'.ty ∧ simL C.sim b.cs b'.cs) ∧ refS s s'
  | _, _ => False
theorem refS_len : ∀ {s s' : SW}, refS s s' → s.length = s'.length
  | [], [], _ => rfl
  | _ :: s, _ :: s', h => by simp [refS_len h.2]
theorem refS_get : ∀ {s s' : SW}, refS s s' → ∀ (i : Nat) (b' : Bl), s'[i]? = some b' → ∃ b, s[i]? = some b ∧ b.ty = b'.ty ∧ simL C.sim b.cs b'.cs
  | [], [], _, i, b', h => by simp at h
  | b :: s, c :: s', h, i, b', hb => by
    cases i with
    | zero => simp at hb; subst hb; exact ⟨b, rfl, h.1⟩
    | succ i => simp at hb ⊢; exact refS_get h.2 i b' hb
theorem Inv.ref {W : World} {L : Nat} {ρ : Nat → Nat} {s s' : SW} {w : World} (h : Inv W L ρ s w) (hr : refS s s') : Inv W L ρ s' w := by
  have hl := refS_len hr
  refine ⟨fun i b' hb => ?_, fun i b' hb => ?_, fun i j hi hj => h.inj i j (hl ▸ hi) (hl ▸ hj), h.grow, h.old, fun i h1 h2 => h.fresh i h1 (hl ▸ h2), h.frz, h.os, h.out, h.tape, hl ▸ h.len⟩
  · obtain ⟨b, h1, h2, h3⟩ := refS_get hr i b' hb
    rw [h.blk i b h1, h2]
    unfold denL
    rw [simL_map (fun _ _ h => C.sim_den h) _ _ h3]
  · obtain ⟨b, h1, h2, h3⟩ := refS_get hr i b' hb
    rw [← hl]
    exact simL_ok (fun _ _ h => C.sim_ok h) _ _ h3 (h.okc i b h1)

/-- What is to be shown of a way through a function with loops: at its end the results, at a loop's head that the state is one that is spoken of. -/
def loopP (P : Program) (fn : Func) (post : SV → SW → Prop) (I : List Item → Fr → SW → Prop) : Tree Lf → Prop
  | .leaf lf => cond lf.ended (match results1 P fn lf.fr lf.s with | some v => post v lf.s | none => False) (I lf.todo lf.fr lf.s)
  | .node b t f => (b = true → loopP P fn post I t) ∧ (b = false → loopP P fn post I f)
  | .need b t => b = true ∧ loopP P fn post I t
  | .fail => False
theorem loopP_OK {P : Program} {fn : Func} {post : SV → SW → Prop} {I : List Item → Fr → SW → Prop} : ∀ (t : Tree Lf), loopP P fn post I t →
    t.OK fun lf => cond lf.ended (match results1 P fn lf.fr lf.s with | some v => post v lf.s | none => False) (I lf.todo lf.fr lf.s) := by
  intro t
  induction t with
  | leaf x => exact id
  | node b t f iht ihf => exact fun h => ⟨fun hb => iht (h.1 hb), fun hb => ihf (h.2 hb)⟩
  | need b t ih => exact fun h => ⟨h.1, ih h.2⟩
  | fail => exact id

theorem run_nt {P : Program} : True := trivial

section
variable {P : Program}

/-- A function with loops: G tells the states at the loops' heads. -/
theorem calls_loop {orc : Orc} {tab : Tab} (ho : OrcOK P orc) (ht : TabOK P tab) (hsz : ∀ g fn, tab g = some fn → fn.ntmps < 4095) (hm : P.follows .mixedOrders = true)
    {g : FuncId} {fn : Func} {c : Code} (hf : P.funcs[g]? = some fn) (hc : fn.body = some c) (hnt : fn.ntmps < 4095) {vs : List SV} {s : SW} (hvs : vs.length ≤ fn.ntmps)
    (fuel brk : Nat) {G : Type} (H : G → Prop) (μ : G → Nat) (hd : G → List Item) (Lv : G → List (Nat × SV)) (Sv : G → SW) (hb : ∀ x, (Lv x).all (fun p => Nat.blt p.1 fn.ntmps) = true)
    (post : SV → SW → Prop)
    (pro : loopP P fn post (fun todo fr s' => ∃ x, H x ∧ todo = hd x ∧ fr.nt = fn.ntmps ∧ refP fr (Lv x) ∧ refS s' (Sv x)) (run P orc tab fuel brk [.code c] ⟨fn.ntmps, mkFrGo (Tr.mk 12) 0 vs⟩ s))
    (round : ∀ x, H x → loopP P fn post (fun todo fr s' => ∃ y, H y ∧ μ y < μ x ∧ todo = hd y ∧ fr.nt = fn.ntmps ∧ refP fr (Lv y) ∧ refS s' (Sv y)) (run P orc tab fuel brk (hd x) (mkL fn.ntmps (Lv x)) (Sv x)))
    (W : World) (L : Nat) (ρ : Nat → Nat) (w : World) (hI : Inv W L ρ s w) (hok : ∀ v ∈ vs, v.ok s.length = true) :
    Calls P g (vs.map (SV.den ρ)).toArray w fun e w' => ∃ v s' ρ', e = .returned (v.den ρ') ∧ Agree s.length ρ ρ' ∧ s.length ≤ s'.length ∧ v.ok s'.length = true ∧ Inv W L ρ' s' w' ∧ post v s' := by
  have fin : ∀ (n : Nat) (lf : Lf) (a' : Act) (w' : World) (ρ' : Nat → Nat), s.length ≤ n → Agree s.length ρ ρ' → n ≤ lf.s.length → FrRel lf.s.length ρ' lf.fr a' → Inv W L ρ' lf.s w' →
      (match results1 P fn lf.fr lf.s with | some v => post v lf.s | none => False) →
      bodyPost P fn (fun e w' => ∃ v s' ρ', e = .returned (v.den ρ') ∧ Agree s.length ρ ρ' ∧ s.length ≤ s'.length ∧ v.ok s'.length = true ∧ Inv W L ρ' s' w' ∧ post v s') .normal a' w' := by
    intro n lf a' w' ρ' hn hag hle hf' hI' hp
    split at hp
    · rename_i v hv
      have := results1_sound (P := P) hI' hf' hv
      exact ⟨hf'.defers, _, this.1, v, lf.s, ρ', rfl, hag, Nat.le_trans hn hle, this.2, hI', hp⟩
    · exact hp.elim
  have key : ∀ (m : Nat) (x : G), μ x = m → H x → ∀ (a : Act) (w : World) (ρ1 : Nat → Nat), s.length ≤ (Sv x).length → Agree s.length ρ ρ1 → FrRel (Sv x).length ρ1 (mkL fn.ntmps (Lv x)) a → Inv W L ρ1 (Sv x) w →
      TodoWp P (hd x) (bodyPost P fn fun e w' => ∃ v s' ρ', e = .returned (v.den ρ') ∧ Agree s.length ρ ρ' ∧ s.length ≤ s'.length ∧ v.ok s'.length = true ∧ Inv W L ρ' s' w' ∧ post v s') a w := by
    intro m
    induction m using Nat.strongRecOn with
    | _ m ih =>
      intro x hx hH a w ρ1 hlen hag1 hfr hI1
      refine run_sound ho ht hsz hm fuel brk _ _ _ W L ρ1 a w _ _ (loopP_OK _ (round x hH)) hfr hI1 ?_
      intro lf a' w' ρ' hp hag hle hf' hI'
      have hag' : Agree s.length ρ ρ' := hag1.trans hag hlen
      cases he : lf.ended
      · simp only [he, cond_false] at hp
        obtain ⟨y, hy, hmu, htodo, hnt', hr, hs⟩ := hp
        simp only [Bool.false_eq_true, if_false]
        rw [htodo]
        have hsl := refS_len hs
        have hfr' := FrRel.ref hf' hr (by rw [hnt']; exact hb y) (by rw [hnt']; exact hnt)
        rw [hnt', hsl] at hfr'
        exact ih (μ y) (hx ▸ hmu) y rfl hy a' w' ρ' (by omega) hag' hfr' (hI'.ref hs)
      · simp only [he, cond_true] at hp
        simp only [if_true]
        have := fin (Sv x).length lf a' w' ρ' hlen hag' hle hf' hI' hp
        exact ⟨this, this⟩
  refine callTree_of_wp hf hc ?_
  refine run_sound ho ht hsz hm fuel brk _ _ _ W L ρ _ w _ _ (loopP_OK _ pro) (mkFr_rel hvs hnt hok) hI ?_
  intro lf a' w' ρ' hp hag hle hf' hI'
  cases he : lf.ended
  · simp only [he, cond_false] at hp
    obtain ⟨y, hy, htodo, hnt', hr, hs⟩ := hp
    simp only [Bool.false_eq_true, if_false]
    rw [htodo]
    have hsl := refS_len hs
    have hfr' := FrRel.ref hf' hr (by rw [hnt']; exact hb y) (by rw [hnt']; exact hnt)
    rw [hnt', hsl] at hfr'
    exact key (μ y) y rfl hy a' w' ρ' (by omega) hag hfr' (hI'.ref hs)
  · simp only [he, cond_true] at hp
    simp only [if_true]
    have := fin s.length lf a' w' ρ' (Nat.le_refl _) hag hle hf' hI' hp
    exact ⟨this, this⟩

/-- The first head at which a run stops. -/
def stopAt : Tree Lf → List Item
  | .leaf lf => lf.todo
  | .node _ t _ => stopAt t
  | .need _ t => stopAt t
  | .fail => []

/-- A contract of a function of plain values with loops. -/
theorem pure_contract_loop {g : FuncId} {vs : List SV} (hvs : ∀ v ∈ vs, v.ok 0 = true) {v : SV} (hv : v.ok 0 = true)
    (h : ∀ (W : World), Calls P g (vs.map (SV.den fun _ => 0)).toArray W fun e w' => ∃ (u : SV) (s' : SW) (ρ' : Nat → Nat), e = .returned (u.den ρ') ∧ Agree 0 (fun _ => 0) ρ' ∧ 0 ≤ s'.length ∧ u.ok s'.length = true ∧
      Inv W 0 ρ' s' w' ∧ u.sim v) (s : SW) : CallTree P g vs s (.leaf (v, s)) := by
  intro W L ρ w post hI _ hp
  have hag : Agree 0 (fun _ => 0) ρ := fun i hi => absurd hi (Nat.not_lt_zero _)
  have hargs : (vs.map (SV.den ρ)) = vs.map (SV.den fun _ => 0) := List.map_congr_left fun x hx => SV.den_agree hag (hvs x hx)
  rw [hargs]
  refine Calls.mono (h w) ?_
  rintro e w' ⟨v', s', ρ', rfl, _, _, _, hI', hs⟩
  refine ⟨v, s, ρ, ?_, Agree.refl _ _, Nat.le_refl _, SV.ok_mono (Nat.zero_le _) hv, hI.frame hI', hp⟩
  have h1 : v'.den ρ' = v.den ρ' := SV.sim_den hs
  have h2 : v.den ρ' = v.den ρ := SV.den_agree (n := 0) (fun i hi => absurd hi (Nat.not_lt_zero _)) hv
  rw [h1, h2]

theorem CallTree.args {g : FuncId} {vs vs' : List SV} {s : SW} {t : Tree (SV × SW)} (hs : simL SV.sim vs vs') (h : CallTree P g vs' s t) : CallTree P g vs s t := by
  intro W L ρ w post hI hok ht
  have e : vs.map (SV.den ρ) = vs'.map (SV.den ρ) := simL_map (fun _ _ h => SV.sim_den h) _ _ hs
  have hok' : ∀ v ∈ vs', v.ok s.length = true := List.all_eq_true.1 (simL_ok (fun _ _ h => SV.sim_ok h) _ _ hs (List.all_eq_true.2 hok))
  rw [e]
  exact h W L ρ w post hI hok' ht
end

theorem FlatV.cons_i {k : IntKind} {ks : List FK} {cs : List Value} (h : FlatV (.i k :: ks) cs) : ∃ n r, cs = .int k n :: r ∧ (Lit.int k n).wf = true ∧ FlatV ks r := by
  cases cs with
  | nil => exact h.elim
  | cons v vs => obtain ⟨⟨n, rfl, hw⟩, hr⟩ := h; exact ⟨n, vs, rfl, hw, hr⟩
theorem FlatV.cons_b {ks : List FK} {cs : List Value} (h : FlatV (.b :: ks) cs) : ∃ n r, cs = .bool n :: r ∧ FlatV ks r := by
  cases cs with
  | nil => exact h.elim
  | cons v vs => obtain ⟨⟨n, rfl⟩, hr⟩ := h; exact ⟨n, vs, rfl, hr⟩
theorem FlatV.cons_s {ks : List FK} {cs : List Value} (h : FlatV (.s :: ks) cs) : ∃ n r, cs = .string n :: r ∧ FlatV ks r := by
  cases cs with
  | nil => exact h.elim
  | cons v vs => obtain ⟨⟨n, rfl⟩, hr⟩ := h; exact ⟨n, vs, rfl, hr⟩
theorem FlatV.nil {cs : List Value} (h : FlatV [] cs) : cs = [] := by
  cases cs with
  | nil => rfl
  | cons v vs => exact h.elim
end Go.Proofs.Ytpfdemmoapjjpaa.Ev

namespace Go.Proofs.Ytpfdemmoapjjpaa.Ev
open Go Go.Proofs
/-! ### 15. Bits of unsigned numbers -/
theorem wrap_nat_u (k : IntKind) (hs : k.signed = false) (x : Nat) (hx : x < 2 ^ k.bits) : k.wrap (x : Int) = x := by
  unfold IntKind.wrap
  have : ((x : Int) % (2 : Int) ^ k.bits) = x := Int.emod_eq_of_lt (by omega) (by exact_mod_cast hx)
  simp [hs, this]
theorem ofInt_nat (w x : Nat) (hx : x < 2 ^ w) : (BitVec.ofInt w (x : Int)).toNat = x := by
  rw [BitVec.toNat_ofInt]
  have : ((x : Int) % ((2 ^ w : Nat) : Int)) = x := Int.emod_eq_of_lt (by omega) (by exact_mod_cast hx)
  rw [this]; simp
theorem bits_and_n (k : IntKind) (hs : k.signed = false) (x y : Nat) (hx : x < 2 ^ k.bits) (hy : y < 2 ^ k.bits) : bits .and k x y = ((x &&& y : Nat) : Int) := by
  unfold bits
  simp only []
  rw [BitVec.toNat_and, ofInt_nat _ _ hx, ofInt_nat _ _ hy, wrap_nat_u k hs _ (Nat.lt_of_le_of_lt Nat.and_le_left hx)]
theorem bits_or_n (k : IntKind) (hs : k.signed = false) (x y : Nat) (hx : x < 2 ^ k.bits) (hy : y < 2 ^ k.bits) : bits .or k x y = ((x ||| y : Nat) : Int) := by
  unfold bits
  simp only []
  rw [BitVec.toNat_or, ofInt_nat _ _ hx, ofInt_nat _ _ hy, wrap_nat_u k hs _ (Nat.or_lt_two_pow hx hy)]
theorem bits_xor_n (k : IntKind) (hs : k.signed = false) (x y : Nat) (hx : x < 2 ^ k.bits) (hy : y < 2 ^ k.bits) : bits .xor k x y = ((x ^^^ y : Nat) : Int) := by
  unfold bits
  simp only []
  rw [BitVec.toNat_xor, ofInt_nat _ _ hx, ofInt_nat _ _ hy, wrap_nat_u k hs _ (Nat.xor_lt_two_pow hx hy)]
theorem not_xor (w x : Nat) (hx : x < 2 ^ w) : (2 ^ w - 1) ^^^ x = 2 ^ w - 1 - x := by
  apply Nat.eq_of_testBit_eq
  intro i
  rw [Nat.testBit_xor, Nat.testBit_two_pow_sub_one]
  have h2 : 2 ^ w - 1 - x = 2 ^ w - (x + 1) := by omega
  rw [h2, Nat.testBit_two_pow_sub_succ hx]
  by_cases h : i < w
  · simp [h]
  · simp [h]
    exact Nat.testBit_lt_two_pow (Nat.lt_of_lt_of_le hx (Nat.pow_le_pow_right (by decide) (by omega)))
theorem bits_not_n (k : IntKind) (hs : k.signed = false) (x : Nat) (hx : x < 2 ^ k.bits) : bits .xor k ((2 ^ k.bits - 1 : Nat) : Int) x = ((2 ^ k.bits - 1 - x : Nat) : Int) := by
  rw [bits_xor_n k hs _ _ (by have := Nat.two_pow_pos k.bits; omega) hx, not_xor _ _ hx]
theorem not_u32 (x : Int) (h0 : 0 ≤ x) (h1 : x < 4294967296) : bits .xor .u32 4294967295 x = 4294967295 - x := by
  obtain ⟨n, rfl⟩ := Int.eq_ofNat_of_zero_le h0
  have := bits_not_n .u32 rfl n (by simp [IntKind.bits]; omega)
  simp [IntKind.bits] at this
  rw [this]; omega
/-- The top bit. -/
theorem top_bit (w x : Nat) (hx : x < 2 ^ (w + 1)) : x.testBit w = decide (2 ^ w ≤ x) := by
  rw [Nat.testBit_eq_decide_div_mod_eq]
  rw [Nat.pow_succ] at hx
  have h2 := Nat.two_pow_pos w
  by_cases h : 2 ^ w ≤ x
  · have : x / 2 ^ w = 1 := by
      apply Nat.div_eq_of_lt_le <;> omega
    simp [this, h]
  · have : x / 2 ^ w = 0 := Nat.div_eq_of_lt (by omega)
    simp [this, h]
theorem not_nat (w y : Nat) (hy : y < 2 ^ w) : ~~~(BitVec.ofInt w (y : Int)) = BitVec.ofInt w ((2 ^ w - 1 - y : Nat) : Int) := by
  apply BitVec.eq_of_toNat_eq
  rw [BitVec.toNat_not, ofInt_nat _ _ hy, ofInt_nat _ _ (by have := Nat.two_pow_pos w; omega)]
theorem bits_andNot_n (k : IntKind) (x : Int) (y : Nat) (hy : y < 2 ^ k.bits) : bits .andNot k x y = bits .and k x ((2 ^ k.bits - 1 - y : Nat) : Int) := by
  unfold bits
  simp only []
  rw [not_nat _ _ hy]
theorem andNot_u32 (a x : Int) (h0 : 0 ≤ x) (h1 : x < 4294967296) : bits .andNot .u32 a x = bits .and .u32 a (4294967295 - x) := by
  obtain ⟨n, rfl⟩ := Int.eq_ofNat_of_zero_le h0
  have := bits_andNot_n .u32 a n (by simp [IntKind.bits]; omega)
  simp [IntKind.bits] at this
  rw [this]; congr 1; omega
/-- What the bits' operations yield keeps to the kind. -/
theorem bits_bd (op : BinOp) (k : IntKind) (hs : k.signed = false) (x y : Int) : 0 ≤ bits op k x y ∧ bits op k x y < 2 ^ k.bits := by
  unfold bits
  unfold IntKind.wrap
  have hp : (0 : Int) < 2 ^ k.bits := Int.pow_pos (by decide)
  simp only [hs, Bool.false_and, Bool.false_eq_true, if_false]
  exact ⟨Int.emod_nonneg _ (by omega), Int.emod_lt_of_pos _ hp⟩
end Go.Proofs.Ytpfdemmoapjjpaa.Ev

namespace Go.Proofs.Ytpfdemmoapjjpaa.Ev
open Go Go.ChangeShapes Go.WideShapes Go.ChangeAt Go.RowKit
section
variable {H : Type} {enc : TypeId × Value → H} {P : Program}

/-! Structs and arrays of plain cells, however deep, opened. -/
def flatF (P : Program) (r : TypeId → Option (List FK)) : List Field → Nat → Option (List FK)
  | [], _ => some []
  | f :: fs, j => match r f.type with
    | none => none
    | some ks => cond (Nat.beq f.offset j && Nat.beq (P.cellsOf f.type) ks.length) (match flatF P r fs (j + ks.length) with | some l => some (ks ++ l) | none => none) none
def repL {α : Type} (l : List α) : Nat → List α
  | 0 => []
  | n + 1 => l ++ repL l n
def flatC (P : Program) : Nat → TypeId → Option (List FK)
  | 0, _ => none
  | d + 1, t => match P.underlying t with
    | some (.int k) => some [.i k]
    | some .bool => some [.b]
    | some .string => some [.s]
    | some (.struct fs) => (match flatF P (flatC P d) fs.toList 0 with | some ks => cond (Nat.beq (P.cellsOf t) ks.length) (some ks) none | none => none)
    | some (.array n e) => (match flatC P d e with | some ks => cond (Nat.beq (P.cellsOf t) (n * ks.length) && Nat.beq (P.cellsOf e) ks.length) (some (repL ks n)) none | none => none)
    | _ => none

theorem FlatV.length : ∀ {ks : List FK} {cs : List Value}, FlatV ks cs → cs.length = ks.length
  | [], [], _ => rfl
  | .i k :: ks, v :: vs, h => by simp [FlatV.length h.2]
  | .b :: ks, v :: vs, h => by simp [FlatV.length h.2]
  | .s :: ks, v :: vs, h => by simp [FlatV.length h.2]
  | [], _ :: _, h => h.elim
  | .i _ :: _, [], h => h.elim
  | .b :: _, [], h => h.elim
  | .s :: _, [], h => h.elim
theorem FlatV.append : ∀ {ks ks' : List FK} {cs cs' : List Value}, FlatV ks cs → FlatV ks' cs' → FlatV (ks ++ ks') (cs ++ cs')
  | [], _, [], _, _, h' => h'
  | .i k :: ks, _, v :: vs, _, h, h' => ⟨h.1, FlatV.append h.2 h'⟩
  | .b :: ks, _, v :: vs, _, h, h' => ⟨h.1, FlatV.append h.2 h'⟩
  | .s :: ks, _, v :: vs, _, h, h' => ⟨h.1, FlatV.append h.2 h'⟩
  | [], _, _ :: _, _, h, _ => h.elim
  | .i _ :: _, _, [], _, h, _ => h.elim
  | .b :: _, _, [], _, h, _ => h.elim
  | .s :: _, _, [], _, h, _ => h.elim

theorem flatF_sound {r : TypeId → Option (List FK)} {q : TypeId → List Value → Prop} (hr : ∀ t ks cs, r t = some ks → q t cs → FlatV ks cs) {cs : List Value} : ∀ (fs : List Field) (j : Nat) (ks : List FK),
    flatF P r fs j = some ks → (∀ f ∈ fs, q f.type ((cs.drop f.offset).take (P.cellsOf f.type))) → cs.length = j + ks.length → FlatV ks (cs.drop j)
  | [], j, ks, h, _, hl => by
    simp [flatF] at h; subst h
    rw [List.drop_of_length_le (by simp at hl; omega)]; trivial
  | f :: fs, j, ks, h, hf, hl => by
    simp only [flatF] at h
    split at h
    · cases h
    rename_i kf hk
    cases hc : (Nat.beq f.offset j && Nat.beq (P.cellsOf f.type) kf.length) <;> simp only [hc, cond_true, cond_false] at h
    · cases h
    simp only [Bool.and_eq_true] at hc
    have h1 := Nat.eq_of_beq_eq_true hc.1
    have h2 := Nat.eq_of_beq_eq_true hc.2
    split at h
    · rename_i l hl'
      simp at h; subst h
      have h3 := hr _ _ _ hk (hf f List.mem_cons_self)
      have h4 := flatF_sound hr fs (j + kf.length) l hl' (fun f hf' => hf f (List.mem_cons_of_mem _ hf')) (by simp at hl; omega)
      rw [h1, h2] at h3
      have := FlatV.append h3 h4
      rwa [← List.drop_drop, List.take_append_drop] at this
    · cases h

theorem repL_sound {ks : List FK} {m : Nat} {cs : List Value} (hm : m = ks.length) : ∀ (n j : Nat), cs.length = j * m + n * m → (∀ i, i < n → FlatV ks ((cs.drop ((j + i) * m)).take m)) → FlatV (repL ks n) (cs.drop (j * m))
  | 0, j, hl, _ => by
    rw [List.drop_of_length_le (by omega)]; trivial
  | n + 1, j, hl, h => by
    have h3 := h 0 (by omega)
    have hl' : cs.length = (j + 1) * m + n * m := by
      simp only [Nat.add_mul, Nat.one_mul] at hl ⊢; omega
    have h4 : FlatV (repL ks n) (cs.drop ((j + 1) * m)) := repL_sound hm n (j + 1) hl' (fun i hi => by
      have := h (i + 1) (by omega)
      rwa [show j + (i + 1) = j + 1 + i by omega] at this)
    simp only [Nat.add_zero] at h3
    have := FlatV.append h3 h4
    rw [Nat.add_mul, Nat.one_mul, ← List.drop_drop, List.take_append_drop] at this
    exact this

theorem flatC_sound {w : World} {base : Nat} {sp : Nat → Bool} {held : Bool} : ∀ (d : Nat) (t : TypeId) (ks : List FK) (n : Nat) (cs : List Value), flatC P d t = some ks →
    (∃ y, DataW.trod enc P w base sp held n t cs = some y) → FlatV ks cs := by
  intro d
  induction d with
  | zero => intro t ks n cs h; simp [flatC] at h
  | succ d ih =>
    intro t ks n cs h ⟨y, hy⟩
    simp only [flatC] at h
    split at h
    · rename_i k hu
      simp at h; subst h
      obtain ⟨m, rfl, _, hw⟩ := DataW.trod_int hu hy
      exact ⟨⟨m, rfl, hw⟩, trivial⟩
    · rename_i hu
      simp at h; subst h
      obtain ⟨m, rfl, _⟩ := DataW.trod_bool hu hy
      exact ⟨⟨m, rfl⟩, trivial⟩
    · rename_i hu
      simp at h; subst h
      obtain ⟨m, rfl, _⟩ := DataW.trod_string hu hy
      exact ⟨⟨m, rfl⟩, trivial⟩
    · rename_i fs hu
      split at h
      · rename_i ks' hk
        cases hc : Nat.beq (P.cellsOf t) ks'.length <;> simp only [hc, cond_true, cond_false] at h
        · cases h
        simp at h; subst h
        obtain ⟨xs, m, rfl, _, hl, hxl, hf⟩ := DataW.trod_struct hu hy
        have := flatF_sound (P := P) (q := fun t cs => ∃ y, DataW.trod enc P w base sp held m t cs = some y) (fun t ks cs h1 h2 => ih t ks m cs h1 h2) (cs := cs) fs.toList 0 ks' hk (fun f hf' => by
          obtain ⟨i, hi, he⟩ := List.getElem_of_mem hf'
          have h1 := hf i f (by rw [← he]; simp)
          have hi' : i < xs.length := by simpa [hxl] using hi
          exact ⟨xs[i], h1.trans (List.getElem?_eq_getElem hi')⟩) (by rw [hl, Nat.eq_of_beq_eq_true hc]; omega)
        simpa using this
      · cases h
    · rename_i len e hu
      split at h
      · rename_i ks' hk
        cases hc : (Nat.beq (P.cellsOf t) (len * ks'.length) && Nat.beq (P.cellsOf e) ks'.length) <;> simp only [hc, cond_true, cond_false] at h
        · cases h
        simp at h; subst h
        simp only [Bool.and_eq_true] at hc
        obtain ⟨xs, m, rfl, _, hl, hxl, hf⟩ := DataW.trod_array hu hy
        have h1 := Nat.eq_of_beq_eq_true hc.1
        have h2 := Nat.eq_of_beq_eq_true hc.2
        have := repL_sound (ks := ks') (cs := cs) h2 len 0 (by rw [hl, h1, h2]; omega) (fun i hi => by
          have h3 := hf i hi
          rw [Nat.zero_add]
          exact ih e ks' m _ hk ⟨xs[i]'(by omega), h3.trans (List.getElem?_eq_getElem (by omega))⟩)
        simpa using this
      · cases h
    · cases h

theorem deep_open {w : World} {base : Nat} {sp : Nat → Bool} {held : Bool} {r : Reach} {b0 : Nat} {t : TypeId} {fs : Array Field} {v : Value} {d : DataW H} {p : List MemPlace} {ks : List FK}
    (hu : P.underlying t = some (.struct fs)) (hb : flatC P 9 t = some ks) (hv : Value.okWide P w r b0 t v)
    (h : DataW.Trod enc P w base sp held t v d p) : ∃ cs : List Value, v = .agg cs.toArray ∧ FlatV ks cs := by
  obtain ⟨cs, rfl, hsz⟩ := okWide_struct hu hv
  obtain ⟨n, hn⟩ := h
  exact ⟨cs.toList, by simp, flatC_sound 9 t ks n _ hb ⟨_, hn⟩⟩
end
end Go.Proofs.Ytpfdemmoapjjpaa.Ev

namespace Go.Proofs.Ytpfdemmoapjjpaa.Ev
open Go Go.Proofs
/-! ### 17. Numbers within their kinds, and masks -/
theorem wu8_in (x : Int) (h0 : 0 ≤ x) (h1 : x < 256) : IntKind.u8.wrap x = x := by rw [wu8]; omega
theorem wi8_in (x : Int) (h0 : -128 ≤ x) (h1 : x < 128) : IntKind.i8.wrap x = x := by rw [wi8]; omega
theorem wu16_in (x : Int) (h0 : 0 ≤ x) (h1 : x < 65536) : IntKind.u16.wrap x = x := by rw [wu16]; omega
theorem wi16_in (x : Int) (h0 : -32768 ≤ x) (h1 : x < 32768) : IntKind.i16.wrap x = x := by rw [wi16]; omega
theorem wu32_in (x : Int) (h0 : 0 ≤ x) (h1 : x < 4294967296) : IntKind.u32.wrap x = x := by rw [wu32]; omega
theorem wi32_in (x : Int) (h0 : -2147483648 ≤ x) (h1 : x < 2147483648) : IntKind.i32.wrap x = x := by rw [wi32]; omega
theorem wu64_in (x : Int) (h0 : 0 ≤ x) (h1 : x < 18446744073709551616) : IntKind.u64.wrap x = x := by rw [wu64]; omega
theorem wi64_in (x : Int) (h0 : -9223372036854775808 ≤ x) (h1 : x < 9223372036854775808) : IntKind.i64.wrap x = x := by rw [wi64]; omega
theorem and_m1 (k : IntKind) (x : Int) (h : 1 < k.bits ∨ (k.signed = false ∧ 1 = k.bits)) : bits .and k x 1 = x % 2 := and_mask k x 1 h
theorem and_m2 (k : IntKind) (x : Int) (h : 2 < k.bits ∨ (k.signed = false ∧ 2 = k.bits)) : bits .and k x 3 = x % 4 := and_mask k x 2 h
theorem and_m3 (k : IntKind) (x : Int) (h : 3 < k.bits ∨ (k.signed = false ∧ 3 = k.bits)) : bits .and k x 7 = x % 8 := and_mask k x 3 h
theorem and_m4 (k : IntKind) (x : Int) (h : 4 < k.bits ∨ (k.signed = false ∧ 4 = k.bits)) : bits .and k x 15 = x % 16 := and_mask k x 4 h
theorem and_m5 (k : IntKind) (x : Int) (h : 5 < k.bits ∨ (k.signed = false ∧ 5 = k.bits)) : bits .and k x 31 = x % 32 := and_mask k x 5 h
theorem and_m6 (k : IntKind) (x : Int) (h : 6 < k.bits ∨ (k.signed = false ∧ 6 = k.bits)) : bits .and k x 63 = x % 64 := and_mask k x 6 h
theorem and_m7 (k : IntKind) (x : Int) (h : 7 < k.bits ∨ (k.signed = false ∧ 7 = k.bits)) : bits .and k x 127 = x % 128 := and_mask k x 7 h
theorem and_m8 (k : IntKind) (x : Int) (h : 8 < k.bits ∨ (k.signed = false ∧ 8 = k.bits)) : bits .and k x 255 = x % 256 := and_mask k x 8 h
theorem and_m9 (k : IntKind) (x : Int) (h : 9 < k.bits ∨ (k.signed = false ∧ 9 = k.bits)) : bits .and k x 511 = x % 512 := and_mask k x 9 h
theorem and_m10 (k : IntKind) (x : Int) (h : 10 < k.bits ∨ (k.signed = false ∧ 10 = k.bits)) : bits .and k x 1023 = x % 1024 := and_mask k x 10 h
theorem and_m11 (k : IntKind) (x : Int) (h : 11 < k.bits ∨ (k.signed = false ∧ 11 = k.bits)) : bits .and k x 2047 = x % 2048 := and_mask k x 11 h
theorem and_m12 (k : IntKind) (x : Int) (h : 12 < k.bits ∨ (k.signed = false ∧ 12 = k.bits)) : bits .and k x 4095 = x % 4096 := and_mask k x 12 h
theorem and_m13 (k : IntKind) (x : Int) (h : 13 < k.bits ∨ (k.signed = false ∧ 13 = k.bits)) : bits .and k x 8191 = x % 8192 := and_mask k x 13 h
theorem and_m14 (k : IntKind) (x : Int) (h : 14 < k.bits ∨ (k.signed = false ∧ 14 = k.bits)) : bits .and k x 16383 = x % 16384 := and_mask k x 14 h
theorem and_m15 (k : IntKind) (x : Int) (h : 15 < k.bits ∨ (k.signed = false ∧ 15 = k.bits)) : bits .and k x 32767 = x % 32768 := and_mask k x 15 h
theorem and_m16 (k : IntKind) (x : Int) (h : 16 < k.bits ∨ (k.signed = false ∧ 16 = k.bits)) : bits .and k x 65535 = x % 65536 := and_mask k x 16 h
theorem and_m17 (k : IntKind) (x : Int) (h : 17 < k.bits ∨ (k.signed = false ∧ 17 = k.bits)) : bits .and k x 131071 = x % 131072 := and_mask k x 17 h
theorem and_m18 (k : IntKind) (x : Int) (h : 18 < k.bits ∨ (k.signed = false ∧ 18 = k.bits)) : bits .and k x 262143 = x % 262144 := and_mask k x 18 h
theorem and_m19 (k : IntKind) (x : Int) (h : 19 < k.bits ∨ (k.signed = false ∧ 19 = k.bits)) : bits .and k x 524287 = x % 524288 := and_mask k x 19 h
theorem and_m20 (k : IntKind) (x : Int) (h : 20 < k.bits ∨ (k.signed = false ∧ 20 = k.bits)) : bits .and k x 1048575 = x % 1048576 := and_mask k x 20 h
theorem and_m21 (k : IntKind) (x : Int) (h : 21 < k.bits ∨ (k.signed = false ∧ 21 = k.bits)) : bits .and k x 2097151 = x % 2097152 := and_mask k x 21 h
theorem and_m22 (k : IntKind) (x : Int) (h : 22 < k.bits ∨ (k.signed = false ∧ 22 = k.bits)) : bits .and k x 4194303 = x % 4194304 := and_mask k x 22 h
theorem and_m23 (k : IntKind) (x : Int) (h : 23 < k.bits ∨ (k.signed = false ∧ 23 = k.bits)) : bits .and k x 8388607 = x % 8388608 := and_mask k x 23 h
theorem and_m24 (k : IntKind) (x : Int) (h : 24 < k.bits ∨ (k.signed = false ∧ 24 = k.bits)) : bits .and k x 16777215 = x % 16777216 := and_mask k x 24 h
theorem and_m25 (k : IntKind) (x : Int) (h : 25 < k.bits ∨ (k.signed = false ∧ 25 = k.bits)) : bits .and k x 33554431 = x % 33554432 := and_mask k x 25 h
theorem and_m26 (k : IntKind) (x : Int) (h : 26 < k.bits ∨ (k.signed = false ∧ 26 = k.bits)) : bits .and k x 67108863 = x % 67108864 := and_mask k x 26 h
theorem and_m27 (k : IntKind) (x : Int) (h : 27 < k.bits ∨ (k.signed = false ∧ 27 = k.bits)) : bits .and k x 134217727 = x % 134217728 := and_mask k x 27 h
theorem and_m28 (k : IntKind) (x : Int) (h : 28 < k.bits ∨ (k.signed = false ∧ 28 = k.bits)) : bits .and k x 268435455 = x % 268435456 := and_mask k x 28 h
theorem and_m29 (k : IntKind) (x : Int) (h : 29 < k.bits ∨ (k.signed = false ∧ 29 = k.bits)) : bits .and k x 536870911 = x % 536870912 := and_mask k x 29 h
theorem and_m30 (k : IntKind) (x : Int) (h : 30 < k.bits ∨ (k.signed = false ∧ 30 = k.bits)) : bits .and k x 1073741823 = x % 1073741824 := and_mask k x 30 h
theorem and_m31 (k : IntKind) (x : Int) (h : 31 < k.bits ∨ (k.signed = false ∧ 31 = k.bits)) : bits .and k x 2147483647 = x % 2147483648 := and_mask k x 31 h
theorem and_m32 (k : IntKind) (x : Int) (h : 32 < k.bits ∨ (k.signed = false ∧ 32 = k.bits)) : bits .and k x 4294967295 = x % 4294967296 := and_mask k x 32 h
theorem and_sh (k : IntKind) (hs : k.signed = false) (x : Int) (h0 : 0 ≤ x) (h1 : x < 2 ^ k.bits) (s m : Nat) (hm : s + m ≤ k.bits) : bits .and k x ((2 ^ m - 1) * 2 ^ s) = x / 2 ^ s % 2 ^ m * 2 ^ s := by
  obtain ⟨n, rfl⟩ := Int.eq_ofNat_of_zero_le h0
  have hn : n < 2 ^ k.bits := by exact_mod_cast h1
  have hp : 2 ^ m * 2 ^ s ≤ 2 ^ k.bits := by rw [← Nat.pow_add]; exact Nat.pow_le_pow_right (by decide) (by omega)
  have hm1 := Nat.two_pow_pos m
  have hs1 := Nat.two_pow_pos s
  have hc : ((2 : Int) ^ m - 1) * 2 ^ s = (((2 ^ m - 1) * 2 ^ s : Nat) : Int) := by
    rw [Int.natCast_mul, Int.natCast_sub hm1]; simp
  have hlt : (2 ^ m - 1) * 2 ^ s < 2 ^ k.bits := by
    have : (2 ^ m - 1) * 2 ^ s < 2 ^ m * 2 ^ s := Nat.mul_lt_mul_of_pos_right (by omega) hs1
    omega
  rw [hc, bits_and_n k hs n _ hn hlt]
  have h2 : n &&& ((2 ^ m - 1) * 2 ^ s) = n / 2 ^ s % 2 ^ m * 2 ^ s := by
    apply Nat.eq_of_testBit_eq
    intro i
    rw [Nat.testBit_and, Nat.testBit_mul_two_pow, Nat.testBit_mul_two_pow, Nat.testBit_two_pow_sub_one, Nat.testBit_mod_two_pow, Nat.testBit_div_two_pow]
    by_cases hi : s ≤ i
    · simp only [hi, decide_true, Bool.true_and]
      rw [Nat.sub_add_cancel hi, Bool.and_comm]
    · simp [hi]
  rw [h2]; simp
theorem bne0 (x y : Int) : (x != y) = decide (x ≠ y) := by by_cases h : x = y <;> simp [h]
theorem beqd (x y : Int) : (x == y) = decide (x = y) := by by_cases h : x = y <;> simp [h]
end Go.Proofs.Ytpfdemmoapjjpaa.Ev

namespace Go.Proofs.Ytpfdemmoapjjpaa.Ev
open Go Go.Proofs
/-! ### 18. Laws with loops -/
theorem law_of_calls {P : Program} {g : FuncId} {args : Array Value} {W : World} {ρ : Nat → Nat}
    (h : Calls P g args W fun e w' => ∃ (v : SV) (s' : SW) (ρ' : Nat → Nat), e = .returned (v.den ρ') ∧ Agree 0 ρ ρ' ∧ 0 ≤ s'.length ∧ v.ok s'.length = true ∧ Inv W 0 ρ' s' w' ∧ SV.sim v (.c (.b false true))) :
    Calls P g args W fun e w' => e = .returned (.bool true) ∧ RowKit.Grown W w' := by
  refine Calls.mono h ?_
  rintro e w' ⟨v, s', ρ', rfl, _, _, _, hI, hs⟩
  refine ⟨?_, hI.grown⟩
  rw [SV.sim_den hs]; rfl
/-- Another tree that is no weaker. -/
theorem CallTree.imp {P : Program} {g : FuncId} {vs : List SV} {s : SW} {t t' : Tree (SV × SW)} (h : CallTree P g vs s t) (hi : ∀ post, t'.OK post → t.OK post) : CallTree P g vs s t' :=
  fun W L ρ w post hI hok ht => h W L ρ w post hI hok (hi post ht)
theorem CallTree.ref {P : Program} {g : FuncId} {vs : List SV} {s s' : SW} {t : Tree (SV × SW)} (hr : refS s s') (h : CallTree P g vs s' t) : CallTree P g vs s t := by
  intro W L ρ w post hI hok ht
  have hl := refS_len hr
  have := h W L ρ w post (hI.ref hr) (by rw [← hl]; exact hok) ht
  rw [← hl] at this
  exact this
/-- What is to be shown of a contract with a memory. -/
def conH (v : SV) (s' : SW) : Tree (SV × SW) → Prop
  | .leaf (u, s) => SV.sim u v ∧ refS s s'
  | .node b t f => (b = true → conH v s' t) ∧ (b = false → conH v s' f)
  | .need b t => b = true ∧ conH v s' t
  | .fail => False
theorem conH_OK {v : SV} {s' : SW} : ∀ (t : Tree (SV × SW)), conH v s' t → t.OK fun r => SV.sim r.1 v ∧ refS r.2 s' := by
  intro t
  induction t with
  | leaf x => exact id
  | node b t f iht ihf => exact fun h => ⟨fun hb => iht (h.1 hb), fun hb => ihf (h.2 hb)⟩
  | need b t ih => exact fun h => ⟨h.1, ih h.2⟩
  | fail => exact id
theorem heap_contract {P : Program} {g : FuncId} {vs : List SV} {s s' : SW} {t : Tree (SV × SW)} {v : SV} (h : CallTree P g vs s t) (ht : conH v s' t) : CallTree P g vs s (.leaf (v, s')) := by
  intro W L ρ w post hI hok hp
  refine Calls.mono (h W L ρ w _ hI hok (conH_OK t ht)) ?_
  rintro e w' ⟨u, s1, ρ', rfl, hag, hle, hv, hI', hs, hr⟩
  have hl := refS_len hr
  exact ⟨v, s', ρ', by rw [SV.sim_den hs], hag, by rw [← hl]; exact hle, by rw [← hl]; exact SV.sim_ok hs hv, hI'.ref hr, hp⟩
theorem CallTree.ref2 {P : Program} {g : FuncId} {vs : List SV} {s s' s'' : SW} {v : SV} (hr : refS s' s'') (h : CallTree P g vs s (.leaf (v, s'))) : CallTree P g vs s (.leaf (v, s'')) := by
  intro W L ρ w post hI hok ht
  have hl := refS_len hr
  refine Calls.mono (h W L ρ w (fun r => r = (v, s')) hI hok rfl) ?_
  rintro e w' ⟨u, s1, ρ', rfl, hag, hle, hv, hI', hs⟩
  cases hs
  exact ⟨_, s'', ρ', rfl, hag, by rw [← hl]; exact hle, by rw [← hl]; exact hv, hI'.ref hr, ht⟩
/-- The first head of a loop at which a run stops. -/
def headOf : Tree Lf → List Item
  | .leaf lf => cond lf.ended [] lf.todo
  | .node _ t f => (match headOf t with | [] => headOf f | l => l)
  | .need _ t => headOf t
  | .fail => []
end Go.Proofs.Ytpfdemmoapjjpaa.Ev
