import Derived.Test.YtdomhmajoclpeaaB
set_option linter.unusedVariables false
set_option linter.unusedSimpArgs false
namespace Go.Proofs.Ytdomhmajoclpeaa
open Go Go.Proofs Go.Proofs.Ytdomhmajoclpeaa.Ev Go.Proofs.Ytdomhmajoclpeaa.Ev.Ho Go.IntKind
set_option maxRecDepth 100000
structure Sc where
  ctl : Int
  bg : List Int
  xs : List Int
  ys : List Int
  pa : List Int
  rf : List Int
  mo : Int
  v : Int → Int
  vn : Nat
  p : Int → Int
  pn : Nat
noncomputable abbrev scM (y : PX) (b : Nat) (v : Int → Int) (vn : Nat) (p : Int → Int) (pn : Nat) : Sc := Sc.mk (y.n b) [y.n (b + 1), y.n (b + 2), y.n (b + 3), y.n (b + 4)] [y.n (b + 5), y.n (b + 6), y.n (b + 7), y.n (b + 8)] [y.n (b + 9), y.n (b + 10), y.n (b + 11), y.n (b + 12)] [y.n (b + 13), y.n (b + 14), y.n (b + 15), y.n (b + 16), y.n (b + 17), y.n (b + 18), y.n (b + 19), y.n (b + 20)] [y.n (b + 21), y.n (b + 22), y.n (b + 23), y.n (b + 24)] (y.n (b + 25)) v vn p pn
noncomputable def colF (p : Int → Int) (pn : Nat) (n : Int) : Int := if 0 ≤ n ∧ n < (pn : Int) then halfF p pn (2 * n) % 32768 else 0
noncomputable def visF (s : Sc) (n : Int) : Int := if n = 0 then 32768 else colF s.p s.pn n
noncomputable def tileF (s : Sc) (a : Int) : Int := if a < 65536 then s.v a else 0
noncomputable def tdotF (s : Sc) (ctl entry x y : Int) : Int :=
  let X := if entry / 1024 % 2 = 1 then 7 - x else x
  let Y := if entry / 2048 % 2 = 1 then 7 - y else y
  if ctl / 128 % 2 = 1 then visF s (tileF s (16384 * (ctl / 4 % 4) + 64 * (entry % 1024) + 8 * Y + X))
  else
    let b := tileF s (16384 * (ctl / 4 % 4) + 32 * (entry % 1024) + 4 * Y + X / 2)
    let n := if X % 2 = 1 then b / 16 else b % 16
    if n = 0 then 32768 else colF s.p s.pn (n + 16 * (entry / 4096))
noncomputable def textF (s : Sc) (i ctl x line : Int) : Int :=
  let X := x + selI s.xs i % 512
  let Y := line + selI s.ys i % 512
  let across := if ctl / 16384 % 2 = 1 then 2 else 1
  let block := X / 256 % across + (if ctl / 32768 % 2 = 1 then Y / 256 % 2 * across else 0)
  tdotF s ctl (halfF s.v s.vn (2048 * (ctl / 256 % 32) + 2048 * block + 2 * (Y % 256 / 8 * 32 + X % 256 / 8))) (X % 8) (Y % 8)
noncomputable def turnF (s : Sc) (ctl px py : Int) : Int :=
  let size := if ctl / 16384 = 0 then 128 else if ctl / 16384 = 1 then 256 else if ctl / 16384 = 2 then 512 else 1024
  let X := if ctl / 8192 % 2 = 1 then px % size else px
  let Y := if ctl / 8192 % 2 = 1 then py % size else py
  if 0 ≤ X ∧ X < size ∧ 0 ≤ Y ∧ Y < size then visF s (tileF s (16384 * (ctl / 4 % 4) + 64 * s.v (2048 * (ctl / 256 % 32) + Y / 8 * (size / 8) + X / 8) + Y % 8 * 8 + X % 8)) else 32768
noncomputable def dirF (s : Sc) (px py : Int) : Int := if 0 ≤ px ∧ px < 240 ∧ 0 ≤ py ∧ py < 160 then halfF s.v s.vn (2 * (py * 240 + px)) % 32768 else 32768
noncomputable def othF (ctl : Int) : Int := if ctl / 16 % 2 = 1 then 40960 else 0
noncomputable def idxF (s : Sc) (px py : Int) : Int := if 0 ≤ px ∧ px < 240 ∧ 0 ≤ py ∧ py < 160 then visF s (s.v (othF s.ctl + py * 240 + px)) else 32768
noncomputable def smlF (s : Sc) (px py : Int) : Int := if 0 ≤ px ∧ px < 160 ∧ 0 ≤ py ∧ py < 128 then halfF s.v s.vn (othF s.ctl + 2 * (py * 160 + px)) % 32768 else 32768
noncomputable def mS (k : Nat) : MB := .o [.r .u16 0 65535, .r .u16 0 65535, .r .u16 0 65535, .r .u16 0 65535, .r .u16 0 65535, .r .u16 0 65535, .r .u16 0 65535, .r .u16 0 65535, .r .u16 0 65535, .r .u16 0 65535, .r .u16 0 65535, .r .u16 0 65535, .r .u16 0 65535, .r .i16 (-32768) 32767, .r .i16 (-32768) 32767, .r .i16 (-32768) 32767, .r .i16 (-32768) 32767, .r .i16 (-32768) 32767, .r .i16 (-32768) 32767, .r .i16 (-32768) 32767, .r .i16 (-32768) 32767, .r .i32 (-2147483648) 2147483647, .r .i32 (-2147483648) 2147483647, .r .i32 (-2147483648) 2147483647, .r .i32 (-2147483648) 2147483647, .r .u16 0 65535, .v k 1, .v (k + 1) 1, .v (k + 2) 1] 31
noncomputable def mE (a1 : Option Addr) (n1 m1 : Nat) (a2 : Option Addr) (n2 m2 : Nat) (a3 : Option Addr) (n3 m3 : Nat) : MB := .o [.r .u16 0 65535, .r .u16 0 65535, .r .u16 0 65535, .r .u16 0 65535, .r .u16 0 65535, .r .u16 0 65535, .r .u16 0 65535, .r .u16 0 65535, .r .u16 0 65535, .r .u16 0 65535, .r .u16 0 65535, .r .u16 0 65535, .r .u16 0 65535, .r .i16 (-32768) 32767, .r .i16 (-32768) 32767, .r .i16 (-32768) 32767, .r .i16 (-32768) 32767, .r .i16 (-32768) 32767, .r .i16 (-32768) 32767, .r .i16 (-32768) 32767, .r .i16 (-32768) 32767, .r .i32 (-2147483648) 2147483647, .r .i32 (-2147483648) 2147483647, .r .i32 (-2147483648) 2147483647, .r .i32 (-2147483648) 2147483647, .r .u16 0 65535, .q (.es a1 n1 m1), .q (.es a2 n2 m2), .q (.es a3 n3 m3)] 31
noncomputable def mL : MB := .o [.c (.p 1 0), .r .i64 0 3, .r .u16 0 65535, .r .i64 0 159, .r .i64 0 15] 59
theorem an15 (x : Int) (h0 : 0 ≤ x) (h1 : x ≤ 65535) : bits .andNot .u16 x 32768 = x % 32768 := by
  obtain ⟨m, rfl⟩ : ∃ m : Nat, x = m := ⟨x.toNat, by omega⟩
  have e := bits_andNot_n .u16 (m : Int) 32768 (by decide)
  rw [show ((32768 : Nat) : Int) = 32768 from rfl] at e
  rw [e]
  exact and_mask .u16 _ 15 (.inl (by decide))
theorem colF_in {p : Int → Int} {pn : Nat} {n : Int} (h : 0 ≤ n ∧ n < (pn : Int)) : colF p pn n = halfF p pn (2 * n) % 32768 := if_pos h
theorem colF_out {p : Int → Int} {pn : Nat} {n : Int} (h : ¬(0 ≤ n ∧ n < (pn : Int))) : colF p pn n = 0 := if_neg h
theorem fd (x k : Int) (h : 0 ≤ k) : x.fdiv k = x / k := Int.fdiv_eq_ediv_of_nonneg x h
theorem a31 (x : Int) : bits .and .u16 x 31 = x % 32 := and_mask .u16 x 5 (.inl (by decide))
theorem a3 (x : Int) : bits .and .u16 x 3 = x % 4 := and_mask .u16 x 2 (.inl (by decide))
theorem am1 (x : Int) : bits .and .u16 x 1 = x % 2 := and_mask .u16 x 1 (.inl (by decide))
theorem a15u (x : Int) : bits .and .u16 x 15 = x % 16 := and_mask .u16 x 4 (.inl (by decide))
theorem a15 (x : Int) : bits .and .u8 x 15 = x % 16 := and_mask .u8 x 4 (.inl (by decide))
theorem a511 (x : Int) : bits .and .u16 x 511 = x % 512 := and_mask .u16 x 9 (.inl (by decide))
theorem a1023 (x : Int) : bits .and .u16 x 1023 = x % 1024 := and_mask .u16 x 10 (.inl (by decide))
theorem a7 (x : Int) : bits .and .u16 x 7 = x % 8 := and_mask .u16 x 3 (.inl (by decide))
theorem abit (x : Int) (k : Nat) (hk : k < 16) (h0 : 0 ≤ x) (h1 : x ≤ 65535) : (bits .and .u16 x (2 ^ k) != 0) = decide (x / 2 ^ k % 2 = 1) := by
  have e := and_sh .u16 rfl x h0 (by show x < 2 ^ 16; omega) k 1 (by show k + 1 ≤ 16; omega)
  rw [show ((2 : Int) ^ 1 - 1) * 2 ^ k = 2 ^ k by omega] at e
  rw [e, show ((2 : Int) ^ 1) = 2 by rfl]
  have hp : (0 : Int) < 2 ^ k := Int.pow_pos (by decide)
  have := Int.emod_nonneg (x / 2 ^ k) (show (2 : Int) ≠ 0 by decide)
  have := Int.emod_lt_of_pos (x / 2 ^ k) (show (0 : Int) < 2 by decide)
  by_cases hb : x / 2 ^ k % 2 = 1
  · rw [hb]; simp; omega
  · have : x / 2 ^ k % 2 = 0 := by omega
    rw [this]; simp
theorem ab16 (x : Int) (h : 0 ≤ x ∧ x ≤ 65535) : (bits .and .u16 x 16 != 0) = decide (x / 16 % 2 = 1) := abit x 4 (by decide) h.1 h.2
theorem ab128 (x : Int) (h : 0 ≤ x ∧ x ≤ 65535) : (bits .and .u16 x 128 != 0) = decide (x / 128 % 2 = 1) := abit x 7 (by decide) h.1 h.2
theorem ab8192 (x : Int) (h : 0 ≤ x ∧ x ≤ 65535) : (bits .and .u16 x 8192 != 0) = decide (x / 8192 % 2 = 1) := abit x 13 (by decide) h.1 h.2
theorem ab16384 (x : Int) (h : 0 ≤ x ∧ x ≤ 65535) : (bits .and .u16 x 16384 != 0) = decide (x / 16384 % 2 = 1) := abit x 14 (by decide) h.1 h.2
theorem ab32768 (x : Int) (h : 0 ≤ x ∧ x ≤ 65535) : (bits .and .u16 x 32768 != 0) = decide (x / 32768 % 2 = 1) := abit x 15 (by decide) h.1 h.2
theorem tbE (x : Int) (h : 0 ≤ x ∧ x ≤ 65535) : IntKind.i64.wrap (2048 * IntKind.i64.wrap (bits .and .u16 (x.fdiv 256) 31)) = 2048 * (x / 256 % 32) := by
  rw [fd _ _ (by decide), a31, wi64_in (x / 256 % 32) (by omega) (by omega), wi64_in _ (by omega) (by omega)]
theorem tlE (x : Int) (h : 0 ≤ x ∧ x ≤ 65535) : IntKind.i64.wrap (16384 * IntKind.i64.wrap (bits .and .u16 (x.fdiv 4) 3)) = 16384 * (x / 4 % 4) := by
  rw [fd _ _ (by decide), a3, wi64_in (x / 4 % 4) (by omega) (by omega), wi64_in _ (by omega) (by omega)]
theorem flipK (e x k : Int) (hk : 0 ≤ k) (h : 0 ≤ x ∧ x ≤ 7) : (bif bits .and .u16 (e.fdiv k) 1 != 0 then IntKind.i64.wrap (7 - x) else x) = (if e / k % 2 = 1 then 7 - x else x) := by
  rw [fd _ _ hk, am1, wi64_in (7 - x) (by omega) (by omega)]
  by_cases hb : e / k % 2 = 1
  · rw [hb, if_pos rfl]; rfl
  · have : e / k % 2 = 0 := by omega
    rw [this, if_neg (by decide)]; rfl
theorem nib (y X : Int) (hy : 0 ≤ y ∧ y ≤ 255) (hX : 0 ≤ X ∧ X ≤ 7) : IntKind.i64.wrap (bits .and .u8 (y.fdiv (2 ^ min (IntKind.i64.wrap (4 * X.tmod 2)).toNat 8)) 15) = (if X % 2 = 1 then y / 16 else y % 16) := by
  rw [Int.tmod_eq_emod_of_nonneg hX.1]
  by_cases hb : X % 2 = 1
  · rw [hb, if_pos rfl, show (IntKind.i64.wrap (4 * 1)).toNat = 4 by decide, show ((2 : Int) ^ min 4 8) = 16 by decide, fd _ _ (by decide), a15, wi64_in _ (by omega) (by omega)]; omega
  · rw [if_neg hb, show X % 2 = 0 by omega, show (IntKind.i64.wrap (4 * 0)).toNat = 0 by decide, show ((2 : Int) ^ min 0 8) = 1 by decide, fd _ _ (by decide), a15, wi64_in _ (by omega) (by omega)]; omega
theorem selI_rg {lo hi : Int} : ∀ (l : List Int) (i : Int), 0 ≤ i → i < l.length → (∀ x ∈ l, lo ≤ x ∧ x ≤ hi) → lo ≤ selI l i ∧ selI l i ≤ hi := by
  intro l i h0 h1 h
  exact h _ (List.mem_of_getElem? (selI_spec l i h0 h1))
theorem colR_p (E : World) (z : PX) (n : Int) :
    (hoPr true [mS 1, rowB, rowB, rowB] [] (.c (.r .u16 0 32767)) (fun z y => y.n 90000 = colF (bR (z.l 2) (z.n 27).toNat) (z.n 27).toNat n) z (fnTree (pe E) (orcL E) (tabL fns) 20000 Try.f45 [.c (.p 0 0), .c (.i false .i64 n)] (mkM z [] [mS 1, rowB, rowB, rowB] 0))) =
    (((bif decide (n < 0) then true else decide (n ≥ (↑(z.n 27).toNat : Int))) = true → (((0 : Int) ≤ (0 : Int) ∧ (0 : Int) ≤ 32767) ∧ True) ∧ mkM z [] [mS (1 : Nat), rowB, rowB, rowB] (0 : Nat) = mkM z [] [mS (1 : Nat), rowB, rowB, rowB] (0 : Nat) ∧ 0 = colF (bR (z.l 2) (z.n 27).toNat) (z.n 27).toNat n) ∧ ((bif decide (n < 0) then true else decide (n ≥ (↑(z.n 27).toNat : Int))) = false → ((5 = 5 ∧ (flat [Sp.r u8 0 255] = true ∧ Row [Sp.r u8 0 255] (z.l 2)) ∧ ([] : SW) = []) ∧ ROk (z.l 2) (z.n 27).toNat ∧ (-1000000000) ≤ i64.wrap (2 * n) ∧ i64.wrap (2 * n) ≤ 1000000000) ∧ ∀ (y : PX), ((0 ≤ y.n 90000 ∧ y.n 90000 ≤ 65535) ∧ True) ∧ y.n 90000 = halfF (bR (z.l 2) (z.n 27).toNat) (z.n 27).toNat (i64.wrap (2 * n)) → ((0 ≤ bits BinOp.andNot u16 (y.n 90000) 32768 ∧ bits BinOp.andNot u16 (y.n 90000) (32768 : Int) ≤ 32767) ∧ True) ∧ mkM z [] [mS (1 : Nat), rowB, rowB, rowB] (0 : Nat) = mkM z [] [mS (1 : Nat), rowB, rowB, rowB] (0 : Nat) ∧ bits BinOp.andNot u16 (y.n 90000) 32768 = colF (bR (z.l 2) (z.n 27).toNat) (z.n 27).toNat n)) := by kernel_rfl
theorem colR_c (E : World) (n : Int) (z : PX) (hz : rgM z [mS 1, rowB, rowB, rowB] 0) (hp : (fun z => (ROk (z.l 1) (z.n 26).toNat ∧ ROk (z.l 2) (z.n 27).toNat) ∧ 0 ≤ n ∧ n ≤ 1000000) z) : HR (pe E) 45 [.c (.p 0 0), .c (.i false .i64 n)] [mS 1, rowB, rowB, rowB] [] (.c (.r .u16 0 32767)) (fun z y => y.n 90000 = colF (bR (z.l 2) (z.n 27).toNat) (z.n 27).toNat n) z := by
  refine HR.mk true (by rfl) (by rfl) (fnTree_sound (P := pe E) orcL_ok tab_ok tab_sz mixed 20000 Try.func45 (by decide) [.c (.p 0 0), .c (.i false .i64 n)] _) ⟨?_⟩
  rw [colR_p]
  obtain ⟨⟨hK1, hK2⟩, h0, h1⟩ := hp
  have hR1 : Row [.r .u8 0 255] (z.l 1) := hz.2.1.2
  have hR2 : Row [.r .u8 0 255] (z.l 2) := hz.2.2.1.2
  have hR3 : Row [.r .u8 0 255] (z.l 3) := hz.2.2.2.1.2
  have hF : flat [Sp.r .u8 0 255] = true := rfl
  obtain ⟨r0, r1, r2, r3, r4, r5, r6, r7, r8, r9, r10, r11, r12, r13, r14, r15, r16, r17, r18, r19, r20, r21, r22, r23, r24, r25, v26, v27, v28, _⟩ := hz.1
  simp only [cor_t, cor_f]
  have w1 : IntKind.i64.wrap (2 * n) = 2 * n := wi64_in _ (by omega) (by omega)
  rw [w1]
  refine ⟨fun h => ?_, fun h => ⟨by (repeat' (first | exact trivial | rfl | with_reducible assumption | apply And.intro)) <;> (first | omega | done), ?_⟩⟩
  · rw [colF_out (by omega)]
    (repeat' (first | exact trivial | rfl | with_reducible assumption | apply And.intro)) <;> (first | omega | done)
  · rintro y ⟨⟨hy, _⟩, hq⟩
    rw [an15 _ hy.1 hy.2, hq, colF_in (by omega)]
    (repeat' (first | exact trivial | rfl | with_reducible assumption | apply And.intro)) <;> (first | omega | done)
noncomputable def orcCR (E : World) : Orc := fun g vs s => match g with
  | 45 => (match frGo [mS 1, rowB, rowB, rowB] vs s (fun vs0 π s1 s0 => match vs0 with
      | [.c (.p 0 0), .c (.i l2 .i64 n)] => some (hrG (pre := fun z => (ROk (z.l 1) (z.n 26).toNat ∧ ROk (z.l 2) (z.n 27).toNat) ∧ 0 ≤ n ∧ n ≤ 1000000) (fun z hz hp => HR.args (vs := [.c (.p 0 0), .c (.i l2 .i64 n)]) (by simp [simL, SV.sim, C.sim]) (colR_c E n z hz hp)) (by rfl) π s1 s0)
      | _ => none) with
    | some t => some t
    | none => (orcL E) g vs s)
  | g => (orcL E) g vs s
theorem orcCR_ok {E : World} : OrcOK (pe E) (orcCR E) := by
  intro g vs s t h
  unfold orcCR at h
  split at h
  · split at h
    · rename_i hfr; cases h
      obtain ⟨π, s1, hq, hK, hv, hok, hpd⟩ := frGo_spec (P := pe E) hfr
      split at hK
      · rename_i heq; cases hK
        rw [heq] at hv hok
        exact hpd _ _ (hrG_ok _ _ (by rfl) π s1 hq hv hok)
      · cases hK
    · exact orcL_ok _ _ _ _ h
  · exact orcL_ok _ _ _ _ h
end Go.Proofs.Ytdomhmajoclpeaa

