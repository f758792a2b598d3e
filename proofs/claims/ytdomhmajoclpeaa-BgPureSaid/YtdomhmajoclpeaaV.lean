import Derived.Test.YtdomhmajoclpeaaA
import Derived.Test.YtdomhmajoclpeaaM
import Derived.Test.YtdomhmajoclpeaaPf
set_option linter.unusedVariables false
set_option linter.unusedSimpArgs false
namespace Go.Proofs.Ytdomhmajoclpeaa
open Go Go.Proofs Go.Proofs.Ytdomhmajoclpeaa.Ev Go.Proofs.Ytdomhmajoclpeaa.Ev.Ho Go.IntKind
set_option maxRecDepth 100000
structure RgC (c : Nat → Int) : Prop where
  r0 : 0 ≤ c 0 ∧ c 0 ≤ 65535
  r1 : 0 ≤ c 1 ∧ c 1 ≤ 65535
  r2 : 0 ≤ c 2 ∧ c 2 ≤ 65535
  r3 : 0 ≤ c 3 ∧ c 3 ≤ 65535
  r4 : 0 ≤ c 4 ∧ c 4 ≤ 65535
  r5 : 0 ≤ c 5 ∧ c 5 ≤ 65535
  r6 : 0 ≤ c 6 ∧ c 6 ≤ 65535
  r7 : 0 ≤ c 7 ∧ c 7 ≤ 65535
  r8 : 0 ≤ c 8 ∧ c 8 ≤ 65535
  r9 : 0 ≤ c 9 ∧ c 9 ≤ 65535
  r10 : 0 ≤ c 10 ∧ c 10 ≤ 65535
  r11 : 0 ≤ c 11 ∧ c 11 ≤ 65535
  r12 : 0 ≤ c 12 ∧ c 12 ≤ 65535
  r13 : -32768 ≤ c 13 ∧ c 13 ≤ 32767
  r14 : -32768 ≤ c 14 ∧ c 14 ≤ 32767
  r15 : -32768 ≤ c 15 ∧ c 15 ≤ 32767
  r16 : -32768 ≤ c 16 ∧ c 16 ≤ 32767
  r17 : -32768 ≤ c 17 ∧ c 17 ≤ 32767
  r18 : -32768 ≤ c 18 ∧ c 18 ≤ 32767
  r19 : -32768 ≤ c 19 ∧ c 19 ≤ 32767
  r20 : -32768 ≤ c 20 ∧ c 20 ≤ 32767
  r21 : -2147483648 ≤ c 21 ∧ c 21 ≤ 2147483647
  r22 : -2147483648 ≤ c 22 ∧ c 22 ≤ 2147483647
  r23 : -2147483648 ≤ c 23 ∧ c 23 ≤ 2147483647
  r24 : -2147483648 ≤ c 24 ∧ c 24 ≤ 2147483647
  r25 : 0 ≤ c 25 ∧ c 25 ≤ 65535
noncomputable def orcG (E : World) : Orc := fun g vs s => match g with
  | 9 => (match frGo [] vs s (fun vs0 π s1 s0 => match vs0 with
      | [.a [.i l0 .u16 x0, .i l1 .u16 x1, .i l2 .u16 x2, .i l3 .u16 x3, .i l4 .u16 x4, .i l5 .u16 x5, .i l6 .u16 x6, .i l7 .u16 x7, .i l8 .u16 x8, .i l9 .u16 x9, .i l10 .u16 x10, .i l11 .u16 x11, .i l12 .u16 x12, .i l13 .i16 x13, .i l14 .i16 x14, .i l15 .i16 x15, .i l16 .i16 x16, .i l17 .i16 x17, .i l18 .i16 x18, .i l19 .i16 x19, .i l20 .i16 x20, .i l21 .i32 x21, .i l22 .i32 x22, .i l23 .i32 x23, .i l24 .i32 x24, .i l25 .u16 x25, .es a1 n1 m1, .es a2 n2 m2, .es a3 n3 m3, .i l26 .u32 x26, .es a4 n4 m4]] => some (hdG (pre := preK E a4 n4 x0 x1 x2 x3 x4 x5 x6 x7 x8 x9 x10 x11 x12 x13 x14 x15 x16 x17 x18 x19 x20 x21 x22 x23 x24 x25) (fun z hz hp => HD.args (vs := [.a [.i l0 .u16 x0, .i l1 .u16 x1, .i l2 .u16 x2, .i l3 .u16 x3, .i l4 .u16 x4, .i l5 .u16 x5, .i l6 .u16 x6, .i l7 .u16 x7, .i l8 .u16 x8, .i l9 .u16 x9, .i l10 .u16 x10, .i l11 .u16 x11, .i l12 .u16 x12, .i l13 .i16 x13, .i l14 .i16 x14, .i l15 .i16 x15, .i l16 .i16 x16, .i l17 .i16 x17, .i l18 .i16 x18, .i l19 .i16 x19, .i l20 .i16 x20, .i l21 .i32 x21, .i l22 .i32 x22, .i l23 .i32 x23, .i l24 .i32 x24, .i l25 .u16 x25, .es a1 n1 m1, .es a2 n2 m2, .es a3 n3 m3, .i l26 .u32 x26, .es a4 n4 m4]]) (by simp [simL, SV.sim, C.sim]) (fil_c E a1 a2 a3 a4 n1 m1 n2 m2 n3 m3 n4 m4 x0 x1 x2 x3 x4 x5 x6 x7 x8 x9 x10 x11 x12 x13 x14 x15 x16 x17 x18 x19 x20 x21 x22 x23 x24 x25 x26 z hz hp)) (by rfl) π s1 s0)
      | _ => none) with
    | some t => some t
    | none => (orcA E) g vs s)
  | g => (orcA E) g vs s
theorem orcG_ok {E : World} : OrcOK (pe E) (orcG E) := by
  intro g vs s t h
  unfold orcG at h
  split at h
  · split at h
    · rename_i hfr; cases h
      obtain ⟨π, s1, hq, hK, hv, hok, hpd⟩ := frGo_spec (P := pe E) hfr
      split at hK
      · rename_i heq; cases hK
        rw [heq] at hv hok
        exact hpd _ _ (hdG_ok _ _ π s1 hq hv hok)
      · cases hK
    · exact orcA_ok _ _ _ _ h
  · exact orcA_ok _ _ _ _ h
noncomputable def orcWR (E : World) : Orc := fun g vs s => match g with
  | 11 => (match frGo [mS 1, rowB, rowB, rowB] vs s (fun vs0 π s1 s0 => match vs0 with
      | [.c (.p 0 0), .c (.i l2 .i64 i), .c (.i l3 .i64 line)] => some (hrG (pre := fun z => (ROk (z.l 1) (z.n 26).toNat ∧ ROk (z.l 2) (z.n 27).toNat) ∧ True) (fun z hz hp => HR.args (vs := [.c (.p 0 0), .c (.i l2 .i64 i), .c (.i l3 .i64 line)]) (by simp [simL, SV.sim, C.sim]) (drawHR_c E i line z hz hp)) (by rfl) π s1 s0)
      | _ => none) with
    | some t => some t
    | none => (orcG E) g vs s)
  | g => (orcG E) g vs s
theorem orcWR_ok {E : World} : OrcOK (pe E) (orcWR E) := by
  intro g vs s t h
  unfold orcWR at h
  split at h
  · split at h
    · rename_i hfr; cases h
      obtain ⟨π, s1, hq, hK, hv, hok, hpd⟩ := frGo_spec (P := pe E) hfr
      split at hK
      · rename_i heq; cases hK
        rw [heq] at hv hok
        exact hpd _ _ (hrG_ok _ _ (by rfl) π s1 hq hv hok)
      · cases hK
    · exact orcG_ok _ _ _ _ h
  · exact orcG_ok _ _ _ _ h
theorem sel_AllF {F : Int → Int} {a b c d : List Int} {x : Int} (h : AllF 240 F a b c d) (ha : (a ++ (b ++ (c ++ d))).length = 240) (h0 : 0 ≤ x) (h1 : x < 240) : selI (a ++ (b ++ (c ++ d))) x = F x := by
  have e := selI_spec (a ++ (b ++ (c ++ d))) x h0 (by omega)
  have e2 := h x.toNat (by omega) (by omega)
  rw [e2] at e
  have : ((x.toNat : Nat) : Int) = x := Int.toNat_of_nonneg h0
  rw [this] at e
  exact (Option.some.inj e).symm
end Go.Proofs.Ytdomhmajoclpeaa

