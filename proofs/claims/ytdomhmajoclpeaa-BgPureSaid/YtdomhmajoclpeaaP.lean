import Derived.Test.YtdomhmajoclpeaaC
set_option linter.unusedVariables false
set_option linter.unusedSimpArgs false
namespace Go.Proofs.Ytdomhmajoclpeaa
open Go Go.Proofs Go.Proofs.Ytdomhmajoclpeaa.Ev Go.Proofs.Ytdomhmajoclpeaa.Ev.Ho Go.IntKind
set_option maxRecDepth 100000
/-- What is left to do at the head of a loop, by the number of its block. -/
def tdL (id : Nat) : Code → List Item → Option (List Item)
  | .seq a b, k => (match tdL id a (.code b :: k) with | some t => some t | none => tdL id b k)
  | .block j a, k => (match a with
    | .loop c => cond (Nat.beq j id) (some (.code c :: .inLoop c :: .inBlock j :: k)) (tdL id c (.inLoop c :: .inBlock j :: k))
    | a => tdL id a (.inBlock j :: k))
  | .loop c, k => tdL id c (.inLoop c :: k)
  | .cond _ a b, k => (match tdL id a k with | some t => some t | none => tdL id b k)
  | .scope a, k => tdL id a (.inScope a :: k)
  | _, _ => none
def tdF (f : Func) (id : Nat) : List Item := (tdL id (f.body.getD .skip) []).getD []
noncomputable def mW (k : Nat) : MB := .o [.r .u16 0 65535, .r .u16 0 65535, .r .u16 0 65535, .r .u16 0 65535, .r .u16 0 65535, .r .u16 0 65535, .r .u16 0 65535, .r .u16 0 65535, .r .u16 0 65535, .r .u16 0 65535, .r .u16 0 65535, .r .u16 0 65535, .r .u16 0 65535, .r .i16 (-32768) 32767, .r .i16 (-32768) 32767, .r .i16 (-32768) 32767, .r .i16 (-32768) 32767, .r .i16 (-32768) 32767, .r .i16 (-32768) 32767, .r .i16 (-32768) 32767, .r .i16 (-32768) 32767, .r .i32 (-2147483648) 2147483647, .r .i32 (-2147483648) 2147483647, .r .i32 (-2147483648) 2147483647, .r .i32 (-2147483648) 2147483647, .r .u16 0 65535, .w k 1, .w (k + 1) 1, .w (k + 2) 1] 31
noncomputable def bxK (a1 a2 a3 a4 : Option Addr) (n1 m1 n2 m2 n3 m3 n4 m4 : Nat) (x0 x1 x2 x3 x4 x5 x6 x7 x8 x9 x10 x11 x12 x13 x14 x15 x16 x17 x18 x19 x20 x21 x22 x23 x24 x25 x26 : Int) : Bl := ⟨[C.i false .u16 x0, C.i false .u16 x1, C.i false .u16 x2, C.i false .u16 x3, C.i false .u16 x4, C.i false .u16 x5, C.i false .u16 x6, C.i false .u16 x7, C.i false .u16 x8, C.i false .u16 x9, C.i false .u16 x10, C.i false .u16 x11, C.i false .u16 x12, C.i false .i16 x13, C.i false .i16 x14, C.i false .i16 x15, C.i false .i16 x16, C.i false .i16 x17, C.i false .i16 x18, C.i false .i16 x19, C.i false .i16 x20, C.i false .i32 x21, C.i false .i32 x22, C.i false .i32 x23, C.i false .i32 x24, C.i false .u16 x25, C.es a1 n1 m1, C.es a2 n2 m2, C.es a3 n3 m3, C.i false .u32 x26, C.es a4 n4 m4], 35⟩
noncomputable def scK (x0 x1 x2 x3 x4 x5 x6 x7 x8 x9 x10 x11 x12 x13 x14 x15 x16 x17 x18 x19 x20 x21 x22 x23 x24 x25 : Int) : Bl := ⟨[C.i false .u16 x0, C.i false .u16 x1, C.i false .u16 x2, C.i false .u16 x3, C.i false .u16 x4, C.i false .u16 x5, C.i false .u16 x6, C.i false .u16 x7, C.i false .u16 x8, C.i false .u16 x9, C.i false .u16 x10, C.i false .u16 x11, C.i false .u16 x12, C.i false .i16 x13, C.i false .i16 x14, C.i false .i16 x15, C.i false .i16 x16, C.i false .i16 x17, C.i false .i16 x18, C.i false .i16 x19, C.i false .i16 x20, C.i false .i32 x21, C.i false .i32 x22, C.i false .i32 x23, C.i false .i32 x24, C.i false .u16 x25, C.rs 2 1 98304, C.rs 3 1 1024, C.rs 4 1 1024], 31⟩
noncomputable def kpX (x0 x1 x2 x3 x4 x5 x6 x7 x8 x9 x10 x11 x12 x13 x14 x15 x16 x17 x18 x19 x20 x21 x22 x23 x24 x25 : Int) (R : Prop) : Prop := decide (x0 = x0) = true ∧ decide (x1 = x1) = true ∧ decide (x2 = x2) = true ∧ decide (x3 = x3) = true ∧ decide (x4 = x4) = true ∧ decide (x5 = x5) = true ∧ decide (x6 = x6) = true ∧ decide (x7 = x7) = true ∧ decide (x8 = x8) = true ∧ decide (x9 = x9) = true ∧ decide (x10 = x10) = true ∧ decide (x11 = x11) = true ∧ decide (x12 = x12) = true ∧ decide (x13 = x13) = true ∧ decide (x14 = x14) = true ∧ decide (x15 = x15) = true ∧ decide (x16 = x16) = true ∧ decide (x17 = x17) = true ∧ decide (x18 = x18) = true ∧ decide (x19 = x19) = true ∧ decide (x20 = x20) = true ∧ decide (x21 = x21) = true ∧ decide (x22 = x22) = true ∧ decide (x23 = x23) = true ∧ decide (x24 = x24) = true ∧ decide (x25 = x25) = true ∧ R
structure Len3 (a b c : List C) : Prop where
  h1 : a.length = 98304
  h2 : b.length = 1024
  h3 : c.length = 1024
structure PK (E : World) (a : Option Addr) (n : Nat) : Prop where
  r : eRows E a n 3 [.i .i64, .i .i64, .l] = true
  z : a = none → n = 0
  b : n ≤ maxLen
  d : ∀ j, j < n → eRows E (eA E a (j * 3 + 2)) (eN E a (j * 3 + 2)) 1 [.i .u8] = true ∧ (eA E a (j * 3 + 2) = none → eN E a (j * 3 + 2) = 0) ∧ eN E a (j * 3 + 2) ≤ maxLen
structure PB (E : World) (a : Option Addr) (n : Nat) : Prop where
  r : eRows E a n 1 [.i .u8] = true
  z : a = none → n = 0
  b : n ≤ maxLen
noncomputable def setK (t : Nat) : Tr → SW → Bool := fun tr _ => match tr.get t with | .c _ => true | _ => false
noncomputable def rowK (b : Nat) : Tr → SW → Bool := fun tr _ => match tr.get 10 with | .c (.rs b' _ _) => Nat.beq b' b | _ => false
theorem setU8 {l : List C} {n : Nat} {v : Int} {b : Bool} (h : Row [.r .u8 0 255] l) (hp : n < l.length) (hv : 0 ≤ v ∧ v ≤ 255) : Row [.r .u8 0 255] (rSet l n [C.i b .u8 v]) := h.set1 hp (q := .r .u8 0 255) (by simp [Nat.mod_one]) ⟨hv, trivial⟩
theorem repU8 (n : Nat) : Row [.r .u8 0 255] (rRep [C.i true .u8 0] n) := by
  refine ⟨by simp [Nat.mod_one], fun p c h => ⟨.r .u8 0 255, by simp [Nat.mod_one], ?_⟩⟩
  unfold rRep at h
  rw [List.getElem?_map] at h
  cases hq : (List.range (n * [C.i true IntKind.u8 0].length))[p]? with
  | none => rw [hq] at h; cases h
  | some q =>
    rw [hq] at h
    simp only [Option.map_some, Option.some.injEq] at h
    subst h
    rw [show rAt [C.i true IntKind.u8 0] (q % [C.i true IntKind.u8 0].length) = C.i true .u8 0 by simp [Nat.mod_one, rAt]]
    exact ⟨by decide, trivial⟩
theorem repLen (n : Nat) : (rRep [C.i true .u8 0] n).length = n := by rw [len_rep]; simp
theorem sameR_rep (n ty : Nat) : sameR (Bl.mk (rRep [C.i true .u8 0] n) ty) (Bl.mk (rRep [C.i true .u8 0] n) ty) = true := by
  unfold sameR
  rw [Bool.and_eq_true]
  exact ⟨@decide_eq_true _ (Classical.propDecidable _) rfl, (repU8 n).ok rfl 0⟩
theorem rnEs (f : Nat → Nat) (a : Option Addr) (n m : Nat) : renC f (C.es a n m) = C.es a n m := rfl
theorem rnIi (f : Nat → Nat) (l : Bool) (k : IntKind) (v : Int) : renC f (C.i l k v) = C.i l k v := rfl
theorem rn5 (n : Nat) : renC (posN [0, 1, 2, 3, 4]) (C.rs 2 1 n) = C.rs 2 1 n ∧ renC (posN [0, 1, 2, 3, 4]) (C.rs 3 1 n) = C.rs 3 1 n ∧ renC (posN [0, 1, 2, 3, 4]) (C.rs 4 1 n) = C.rs 4 1 n := ⟨rfl, rfl, rfl⟩
theorem rn6 (n : Nat) : renC (posN [0, 1, 2, 3, 4, 5]) (C.rs 2 1 n) = C.rs 2 1 n ∧ renC (posN [0, 1, 2, 3, 4, 5]) (C.rs 3 1 n) = C.rs 3 1 n ∧ renC (posN [0, 1, 2, 3, 4, 5]) (C.rs 4 1 n) = C.rs 4 1 n := ⟨rfl, rfl, rfl⟩
theorem len3_1 {a b c v : List C} {p : Nat} (h : Len3 a b c) : Len3 (rSet a p v) b c := ⟨by rw [len_set]; exact h.h1, h.h2, h.h3⟩
theorem len3_2 {a b c v : List C} {p : Nat} (h : Len3 a b c) : Len3 a (rSet b p v) c := ⟨h.h1, by rw [len_set]; exact h.h2, h.h3⟩
theorem len3_3 {a b c v : List C} {p : Nat} (h : Len3 a b c) : Len3 a b (rSet c p v) := ⟨h.h1, h.h2, by rw [len_set]; exact h.h3⟩
theorem len3_0 : Len3 (rRep [C.i true .u8 0] 98304) (rRep [C.i true .u8 0] 1024) (rRep [C.i true .u8 0] 1024) := ⟨repLen _, repLen _, repLen _⟩
theorem wu8b (v : Int) : 0 ≤ IntKind.u8.wrap v ∧ IntKind.u8.wrap v ≤ 255 := by rw [wu8]; omega
theorem tm3 (t : Int) : -2 ≤ t.tmod 3 ∧ t.tmod 3 ≤ 2 := by
  have a := Int.lt_tmod_of_pos t (show (0 : Int) < 3 by decide)
  have b := Int.tmod_lt_of_pos t (show (0 : Int) < 3 by decide)
  omega
theorem tm3' (t : Int) : 0 ≤ (IntKind.i64.wrap (t.tmod 3 + 3)).tmod 3 ∧ (IntKind.i64.wrap (t.tmod 3 + 3)).tmod 3 ≤ 2 := by
  have a := tm3 t
  rw [wi64_in _ (by omega) (by omega), Int.tmod_eq_emod_of_nonneg (by omega)]
  omega
theorem pbE {E : World} {a : Option Addr} {n : Nat} {x : Int} (h : PB E a n) (h0 : 0 ≤ x) (h1 : x < n) : eRow E a (x.toNat * 1 + 0) [EK.i .u8] = true ∧ inB x n = true ∧ a.isSome = true ∧ 0 ≤ eI E a (x.toNat * 1 + 0) ∧ eI E a (x.toNat * 1 + 0) ≤ 255 := by
  have k2 : eRow E a (x.toNat * 1 + 0) [EK.i .u8] = true := List.all_eq_true.1 h.r x.toNat (List.mem_range.2 (by omega))
  have k := bounds_u8 (eOk_int (eRow_get _ _ 0 _ k2 rfl))
  exact ⟨k2, inB_of h0 h1, some_of_lt h.z (j := x.toNat) (by omega), k.1, k.2⟩
theorem setE {E : World} {a : Option Addr} {o : Nat} {l : List C} {n : Nat} (h : Row [.r .u8 0 255] l) (hp : n < l.length) (hv : 0 ≤ eI E a o ∧ eI E a o ≤ 255) : Row [.r .u8 0 255] (rSet l n [eC E a o (EK.i .u8)]) := setU8 (b := false) h hp hv
theorem mxL : maxLen = 9223372036854775807 := rfl
theorem cand_t' {p q : Prop} [Decidable p] [Decidable q] : (bif decide p then decide q else false) = true ↔ p ∧ q := by
  by_cases p <;> simp_all
noncomputable def preK (E : World) (a4 : Option Addr) (n4 : Nat) (x0 x1 x2 x3 x4 x5 x6 x7 x8 x9 x10 x11 x12 x13 x14 x15 x16 x17 x18 x19 x20 x21 x22 x23 x24 x25 : Int) : PX → Prop := fun _ => ((0 ≤ x0 ∧ x0 ≤ 65535) ∧ (0 ≤ x1 ∧ x1 ≤ 65535) ∧ (0 ≤ x2 ∧ x2 ≤ 65535) ∧ (0 ≤ x3 ∧ x3 ≤ 65535) ∧ (0 ≤ x4 ∧ x4 ≤ 65535) ∧ (0 ≤ x5 ∧ x5 ≤ 65535) ∧ (0 ≤ x6 ∧ x6 ≤ 65535) ∧ (0 ≤ x7 ∧ x7 ≤ 65535) ∧ (0 ≤ x8 ∧ x8 ≤ 65535) ∧ (0 ≤ x9 ∧ x9 ≤ 65535) ∧ (0 ≤ x10 ∧ x10 ≤ 65535) ∧ (0 ≤ x11 ∧ x11 ≤ 65535) ∧ (0 ≤ x12 ∧ x12 ≤ 65535) ∧ (-32768 ≤ x13 ∧ x13 ≤ 32767) ∧ (-32768 ≤ x14 ∧ x14 ≤ 32767) ∧ (-32768 ≤ x15 ∧ x15 ≤ 32767) ∧ (-32768 ≤ x16 ∧ x16 ≤ 32767) ∧ (-32768 ≤ x17 ∧ x17 ≤ 32767) ∧ (-32768 ≤ x18 ∧ x18 ≤ 32767) ∧ (-32768 ≤ x19 ∧ x19 ≤ 32767) ∧ (-32768 ≤ x20 ∧ x20 ≤ 32767) ∧ (-2147483648 ≤ x21 ∧ x21 ≤ 2147483647) ∧ (-2147483648 ≤ x22 ∧ x22 ≤ 2147483647) ∧ (-2147483648 ≤ x23 ∧ x23 ≤ 2147483647) ∧ (-2147483648 ≤ x24 ∧ x24 ≤ 2147483647) ∧ (0 ≤ x25 ∧ x25 ≤ 65535)) ∧ PK E a4 n4
noncomputable def QF (x0 x1 x2 x3 x4 x5 x6 x7 x8 x9 x10 x11 x12 x13 x14 x15 x16 x17 x18 x19 x20 x21 x22 x23 x24 x25 : Int) : PX → PX → Prop := fun z y => y.n 0 = x0 ∧ y.n 1 = x1 ∧ y.n 2 = x2 ∧ y.n 3 = x3 ∧ y.n 4 = x4 ∧ y.n 5 = x5 ∧ y.n 6 = x6 ∧ y.n 7 = x7 ∧ y.n 8 = x8 ∧ y.n 9 = x9 ∧ y.n 10 = x10 ∧ y.n 11 = x11 ∧ y.n 12 = x12 ∧ y.n 13 = x13 ∧ y.n 14 = x14 ∧ y.n 15 = x15 ∧ y.n 16 = x16 ∧ y.n 17 = x17 ∧ y.n 18 = x18 ∧ y.n 19 = x19 ∧ y.n 20 = x20 ∧ y.n 21 = x21 ∧ y.n 22 = x22 ∧ y.n 23 = x23 ∧ y.n 24 = x24 ∧ y.n 25 = x25 ∧ y.n 26 = 98304 ∧ y.n 27 = 1024 ∧ y.n 28 = 1024 ∧ Len3 (y.l 1) (y.l 2) (y.l 3)
noncomputable def fsK0 (a4 : Option Addr) (n4 m4 : Nat) : List (Nat × Sp) := [(1, .c (.p 0 0)), (3, .c (.p 1 0)), (15, .q (.rs 2 1 98304)), (16, .q (.rs 3 1 1024)), (17, .q (.rs 4 1 1024)), (74, .q (.es a4 n4 m4)), (75, .q (.i false .i64 (n4 : Int))), (76, .i .i64)]
noncomputable def fsK1 (a4 : Option Addr) (n4 m4 : Nat) : List (Nat × Sp) := [(1, .c (.p 0 0)), (3, .c (.p 1 0)), (15, .q (.rs 2 1 98304)), (16, .q (.rs 3 1 1024)), (17, .q (.rs 4 1 1024)), (7, .r .i64 (0) (1024))]
noncomputable def fsK2 (a4 : Option Addr) (n4 m4 : Nat) : List (Nat × Sp) := [(1, .c (.p 0 0)), (3, .c (.p 1 0)), (15, .q (.rs 2 1 98304)), (16, .q (.rs 3 1 1024)), (17, .q (.rs 4 1 1024)), (4, .i .u32), (42, .q (.i false .i64 98304)), (43, .r .i64 (0) (98304))]
noncomputable def fsK3 (a4 : Option Addr) (n4 m4 : Nat) : List (Nat × Sp) := [(1, .c (.p 0 0)), (3, .c (.p 1 0)), (15, .q (.rs 2 1 98304)), (16, .q (.rs 3 1 1024)), (17, .q (.rs 4 1 1024)), (4, .i .u32), (25, .q (.i false .i64 1024)), (26, .r .i64 (0) (1024))]
noncomputable def fsK4 (a4 : Option Addr) (n4 m4 : Nat) : List (Nat × Sp) := [(1, .c (.p 0 0)), (3, .c (.p 1 0)), (15, .q (.rs 2 1 98304)), (16, .q (.rs 3 1 1024)), (17, .q (.rs 4 1 1024)), (9, .c (.p 5 0)), (10, .q (.rs 2 1 98304)), (74, .q (.es a4 n4 m4)), (75, .q (.i false .i64 (n4 : Int))), (76, .i .i64), (94, .e), (95, .i .i64), (96, .i .i64)]
noncomputable def fsK5 (a4 : Option Addr) (n4 m4 : Nat) : List (Nat × Sp) := [(1, .c (.p 0 0)), (3, .c (.p 1 0)), (15, .q (.rs 2 1 98304)), (16, .q (.rs 3 1 1024)), (17, .q (.rs 4 1 1024)), (9, .c (.p 5 0)), (10, .q (.rs 3 1 1024)), (74, .q (.es a4 n4 m4)), (75, .q (.i false .i64 (n4 : Int))), (76, .i .i64), (94, .e), (95, .i .i64), (96, .i .i64)]
noncomputable def fsK6 (a4 : Option Addr) (n4 m4 : Nat) : List (Nat × Sp) := [(1, .c (.p 0 0)), (3, .c (.p 1 0)), (15, .q (.rs 2 1 98304)), (16, .q (.rs 3 1 1024)), (17, .q (.rs 4 1 1024)), (9, .c (.p 5 0)), (10, .q (.rs 4 1 1024)), (74, .q (.es a4 n4 m4)), (75, .q (.i false .i64 (n4 : Int))), (76, .i .i64), (94, .e), (95, .i .i64), (96, .i .i64)]
noncomputable def ms0 (a1 a2 a3 a4 : Option Addr) (n1 m1 n2 m2 n3 m3 n4 m4 : Nat) (x0 x1 x2 x3 x4 x5 x6 x7 x8 x9 x10 x11 x12 x13 x14 x15 x16 x17 x18 x19 x20 x21 x22 x23 x24 x25 x26 : Int) : List MB := [.f (bxK a1 a2 a3 a4 n1 m1 n2 m2 n3 m3 n4 m4 x0 x1 x2 x3 x4 x5 x6 x7 x8 x9 x10 x11 x12 x13 x14 x15 x16 x17 x18 x19 x20 x21 x22 x23 x24 x25 x26), .f (scK x0 x1 x2 x3 x4 x5 x6 x7 x8 x9 x10 x11 x12 x13 x14 x15 x16 x17 x18 x19 x20 x21 x22 x23 x24 x25), rowB, rowB, rowB]
noncomputable def ms1 (a1 a2 a3 a4 : Option Addr) (n1 m1 n2 m2 n3 m3 n4 m4 : Nat) (x0 x1 x2 x3 x4 x5 x6 x7 x8 x9 x10 x11 x12 x13 x14 x15 x16 x17 x18 x19 x20 x21 x22 x23 x24 x25 x26 : Int) : List MB := [.f (bxK a1 a2 a3 a4 n1 m1 n2 m2 n3 m3 n4 m4 x0 x1 x2 x3 x4 x5 x6 x7 x8 x9 x10 x11 x12 x13 x14 x15 x16 x17 x18 x19 x20 x21 x22 x23 x24 x25 x26), .f (scK x0 x1 x2 x3 x4 x5 x6 x7 x8 x9 x10 x11 x12 x13 x14 x15 x16 x17 x18 x19 x20 x21 x22 x23 x24 x25), rowB, rowB, rowB, .o [.i .i64, .i .i64, .e] 52]
noncomputable def mkN (n : Int) (k : Nat) (R : Prop) : Prop := decide (n = n) = true ∧ decide (0 ≤ n) = true ∧ decide (n ≤ 1073741824) = true ∧ decide (k ≤ 1099511627776) = true ∧ R
noncomputable def d3K (R : Prop) : Prop := decide ((98304 : Int) = 98304) = true ∧ decide ((1024 : Int) = 1024) = true ∧ decide ((1024 : Int) = 1024) = true ∧ R
noncomputable def d3N (R : Prop) : Prop := decide ((98304 : Nat) = 98304) = true ∧ decide ((1024 : Nat) = 1024) = true ∧ decide ((1024 : Nat) = 1024) = true ∧ R
noncomputable def s3K (R : Prop) : Prop := sameR (Bl.mk (rRep [C.i true .u8 0] 98304) 5) (Bl.mk (rRep [C.i true .u8 0] 98304) 5) = true ∧ sameR (Bl.mk (rRep [C.i true .u8 0] 1024) 5) (Bl.mk (rRep [C.i true .u8 0] 1024) 5) = true ∧ sameR (Bl.mk (rRep [C.i true .u8 0] 1024) 5) (Bl.mk (rRep [C.i true .u8 0] 1024) 5) = true ∧ R
noncomputable def fil_h0 (E : World) (a1 a2 a3 a4 : Option Addr) (n1 m1 n2 m2 n3 m3 n4 m4 : Nat) (x0 x1 x2 x3 x4 x5 x6 x7 x8 x9 x10 x11 x12 x13 x14 x15 x16 x17 x18 x19 x20 x21 x22 x23 x24 x25 x26 : Int) (z : PX) : Hd := ⟨4, (setK 76), (tdF Try.f9 6), (fsK0 a4 n4 m4), (ms0 a1 a2 a3 a4 n1 m1 n2 m2 n3 m3 n4 m4 x0 x1 x2 x3 x4 x5 x6 x7 x8 x9 x10 x11 x12 x13 x14 x15 x16 x17 x18 x19 x20 x21 x22 x23 x24 x25 x26), fun y => Len3 (y.l 2) (y.l 3) (y.l 4) ∧ 0 ≤ y.n 91076 ∧ y.n 91076 ≤ (n4 : Int), fun y => ((n4 : Int) - y.n 91076).toNat * 9223372036854775820⟩
noncomputable def fil_h1 (E : World) (a1 a2 a3 a4 : Option Addr) (n1 m1 n2 m2 n3 m3 n4 m4 : Nat) (x0 x1 x2 x3 x4 x5 x6 x7 x8 x9 x10 x11 x12 x13 x14 x15 x16 x17 x18 x19 x20 x21 x22 x23 x24 x25 x26 : Int) (z : PX) : Hd := ⟨4, (setK 7), (tdF Try.f9 4), (fsK1 a4 n4 m4), (ms0 a1 a2 a3 a4 n1 m1 n2 m2 n3 m3 n4 m4 x0 x1 x2 x3 x4 x5 x6 x7 x8 x9 x10 x11 x12 x13 x14 x15 x16 x17 x18 x19 x20 x21 x22 x23 x24 x25 x26), fun y => Len3 (y.l 2) (y.l 3) (y.l 4) ∧ y.n 91007 % 8 = 0, fun y => n4 * 9223372036854775820 + 1 + (1024 - y.n 91007).toNat⟩
noncomputable def fil_h2 (E : World) (a1 a2 a3 a4 : Option Addr) (n1 m1 n2 m2 n3 m3 n4 m4 : Nat) (x0 x1 x2 x3 x4 x5 x6 x7 x8 x9 x10 x11 x12 x13 x14 x15 x16 x17 x18 x19 x20 x21 x22 x23 x24 x25 x26 : Int) (z : PX) : Hd := ⟨4, (setK 43), (tdF Try.f9 2), (fsK2 a4 n4 m4), (ms0 a1 a2 a3 a4 n1 m1 n2 m2 n3 m3 n4 m4 x0 x1 x2 x3 x4 x5 x6 x7 x8 x9 x10 x11 x12 x13 x14 x15 x16 x17 x18 x19 x20 x21 x22 x23 x24 x25 x26), fun y => Len3 (y.l 2) (y.l 3) (y.l 4), fun y => n4 * 9223372036854775820 + 2000 + (98304 - y.n 91043).toNat⟩
noncomputable def fil_h3 (E : World) (a1 a2 a3 a4 : Option Addr) (n1 m1 n2 m2 n3 m3 n4 m4 : Nat) (x0 x1 x2 x3 x4 x5 x6 x7 x8 x9 x10 x11 x12 x13 x14 x15 x16 x17 x18 x19 x20 x21 x22 x23 x24 x25 x26 : Int) (z : PX) : Hd := ⟨4, anyH, (tdF Try.f9 0), (fsK3 a4 n4 m4), (ms0 a1 a2 a3 a4 n1 m1 n2 m2 n3 m3 n4 m4 x0 x1 x2 x3 x4 x5 x6 x7 x8 x9 x10 x11 x12 x13 x14 x15 x16 x17 x18 x19 x20 x21 x22 x23 x24 x25 x26), fun y => Len3 (y.l 2) (y.l 3) (y.l 4), fun y => n4 * 9223372036854775820 + 200000 + (1024 - y.n 91026).toNat⟩
noncomputable def fil_h4 (E : World) (a1 a2 a3 a4 : Option Addr) (n1 m1 n2 m2 n3 m3 n4 m4 : Nat) (x0 x1 x2 x3 x4 x5 x6 x7 x8 x9 x10 x11 x12 x13 x14 x15 x16 x17 x18 x19 x20 x21 x22 x23 x24 x25 x26 : Int) (z : PX) : Hd := ⟨8, (rowK 2), (tdF Try.f9 8), (fsK4 a4 n4 m4), (ms1 a1 a2 a3 a4 n1 m1 n2 m2 n3 m3 n4 m4 x0 x1 x2 x3 x4 x5 x6 x7 x8 x9 x10 x11 x12 x13 x14 x15 x16 x17 x18 x19 x20 x21 x22 x23 x24 x25 x26), fun y => Len3 (y.l 2) (y.l 3) (y.l 4) ∧ (0 ≤ y.n 91076 ∧ y.n 91076 < (n4 : Int)) ∧ PB E (y.a 91094) (y.n 91094).toNat ∧ y.n 91095 = y.n 91094 ∧ 0 ≤ y.n 91096 ∧ y.n 91096 ≤ y.n 91094, fun y => ((n4 : Int) - y.n 91076 - 1).toNat * 9223372036854775820 + 1 + (y.n 91094 - y.n 91096).toNat⟩
noncomputable def fil_h5 (E : World) (a1 a2 a3 a4 : Option Addr) (n1 m1 n2 m2 n3 m3 n4 m4 : Nat) (x0 x1 x2 x3 x4 x5 x6 x7 x8 x9 x10 x11 x12 x13 x14 x15 x16 x17 x18 x19 x20 x21 x22 x23 x24 x25 x26 : Int) (z : PX) : Hd := ⟨8, (rowK 3), (tdF Try.f9 8), (fsK5 a4 n4 m4), (ms1 a1 a2 a3 a4 n1 m1 n2 m2 n3 m3 n4 m4 x0 x1 x2 x3 x4 x5 x6 x7 x8 x9 x10 x11 x12 x13 x14 x15 x16 x17 x18 x19 x20 x21 x22 x23 x24 x25 x26), fun y => Len3 (y.l 2) (y.l 3) (y.l 4) ∧ (0 ≤ y.n 91076 ∧ y.n 91076 < (n4 : Int)) ∧ PB E (y.a 91094) (y.n 91094).toNat ∧ y.n 91095 = y.n 91094 ∧ 0 ≤ y.n 91096 ∧ y.n 91096 ≤ y.n 91094, fun y => ((n4 : Int) - y.n 91076 - 1).toNat * 9223372036854775820 + 1 + (y.n 91094 - y.n 91096).toNat⟩
noncomputable def fil_h6 (E : World) (a1 a2 a3 a4 : Option Addr) (n1 m1 n2 m2 n3 m3 n4 m4 : Nat) (x0 x1 x2 x3 x4 x5 x6 x7 x8 x9 x10 x11 x12 x13 x14 x15 x16 x17 x18 x19 x20 x21 x22 x23 x24 x25 x26 : Int) (z : PX) : Hd := ⟨8, (rowK 4), (tdF Try.f9 8), (fsK6 a4 n4 m4), (ms1 a1 a2 a3 a4 n1 m1 n2 m2 n3 m3 n4 m4 x0 x1 x2 x3 x4 x5 x6 x7 x8 x9 x10 x11 x12 x13 x14 x15 x16 x17 x18 x19 x20 x21 x22 x23 x24 x25 x26), fun y => Len3 (y.l 2) (y.l 3) (y.l 4) ∧ (0 ≤ y.n 91076 ∧ y.n 91076 < (n4 : Int)) ∧ PB E (y.a 91094) (y.n 91094).toNat ∧ y.n 91095 = y.n 91094 ∧ 0 ≤ y.n 91096 ∧ y.n 91096 ≤ y.n 91094, fun y => ((n4 : Int) - y.n 91076 - 1).toNat * 9223372036854775820 + 1 + (y.n 91094 - y.n 91096).toNat⟩
noncomputable def fil_hs (E : World) (a1 a2 a3 a4 : Option Addr) (n1 m1 n2 m2 n3 m3 n4 m4 : Nat) (x0 x1 x2 x3 x4 x5 x6 x7 x8 x9 x10 x11 x12 x13 x14 x15 x16 x17 x18 x19 x20 x21 x22 x23 x24 x25 x26 : Int) (z : PX) : List Hd := [fil_h0 E a1 a2 a3 a4 n1 m1 n2 m2 n3 m3 n4 m4 x0 x1 x2 x3 x4 x5 x6 x7 x8 x9 x10 x11 x12 x13 x14 x15 x16 x17 x18 x19 x20 x21 x22 x23 x24 x25 x26 z, fil_h1 E a1 a2 a3 a4 n1 m1 n2 m2 n3 m3 n4 m4 x0 x1 x2 x3 x4 x5 x6 x7 x8 x9 x10 x11 x12 x13 x14 x15 x16 x17 x18 x19 x20 x21 x22 x23 x24 x25 x26 z, fil_h2 E a1 a2 a3 a4 n1 m1 n2 m2 n3 m3 n4 m4 x0 x1 x2 x3 x4 x5 x6 x7 x8 x9 x10 x11 x12 x13 x14 x15 x16 x17 x18 x19 x20 x21 x22 x23 x24 x25 x26 z, fil_h3 E a1 a2 a3 a4 n1 m1 n2 m2 n3 m3 n4 m4 x0 x1 x2 x3 x4 x5 x6 x7 x8 x9 x10 x11 x12 x13 x14 x15 x16 x17 x18 x19 x20 x21 x22 x23 x24 x25 x26 z, fil_h4 E a1 a2 a3 a4 n1 m1 n2 m2 n3 m3 n4 m4 x0 x1 x2 x3 x4 x5 x6 x7 x8 x9 x10 x11 x12 x13 x14 x15 x16 x17 x18 x19 x20 x21 x22 x23 x24 x25 x26 z, fil_h5 E a1 a2 a3 a4 n1 m1 n2 m2 n3 m3 n4 m4 x0 x1 x2 x3 x4 x5 x6 x7 x8 x9 x10 x11 x12 x13 x14 x15 x16 x17 x18 x19 x20 x21 x22 x23 x24 x25 x26 z, fil_h6 E a1 a2 a3 a4 n1 m1 n2 m2 n3 m3 n4 m4 x0 x1 x2 x3 x4 x5 x6 x7 x8 x9 x10 x11 x12 x13 x14 x15 x16 x17 x18 x19 x20 x21 x22 x23 x24 x25 x26 z]
end Go.Proofs.Ytdomhmajoclpeaa

