import Derived.Test.YtpddbhfebhpohaaC
set_option linter.unusedVariables false
set_option linter.unusedSimpArgs false
namespace Go.Proofs.Ytpddbhfebhpohaa
open Go Go.Proofs Go.Proofs.Ytpddbhfebhpohaa.Ev Go.Proofs.Ytpddbhfebhpohaa.Ev.Ho
set_option maxRecDepth 100000
theorem wr0_p (E : World) (X : Bl) (S : SW) (z : PX) (part x : Int) :
    (hoP false (rMs X) S (.t []) (fun z y => (U4.mk (Ch.mk (y.n 100000) (y.n 100001) (y.n 100002) (y.n 100003) (y.n 100004) (y.n 100005) (y.n 100006) (y.b 100007) (y.b 100008) (y.n 100009)) (Ch.mk (y.n 100010) (y.n 100011) (y.n 100012) (y.n 100013) (y.n 100014) (y.n 100015) (y.n 100016) (y.b 100017) (y.b 100018) (y.n 100019)) (Ch.mk (y.n 100020) (y.n 100021) (y.n 100022) (y.n 100023) (y.n 100024) (y.n 100025) (y.n 100026) (y.b 100027) (y.b 100028) (y.n 100029)) (Ch.mk (y.n 100030) (y.n 100031) (y.n 100032) (y.n 100033) (y.n 100034) (y.n 100035) (y.n 100036) (y.b 100037) (y.b 100038) (y.n 100039))) = uW 0 part x (U4.mk (Ch.mk (z.n 100000) (z.n 100001) (z.n 100002) (z.n 100003) (z.n 100004) (z.n 100005) (z.n 100006) (z.b 100007) (z.b 100008) (z.n 100009)) (Ch.mk (z.n 100010) (z.n 100011) (z.n 100012) (z.n 100013) (z.n 100014) (z.n 100015) (z.n 100016) (z.b 100017) (z.b 100018) (z.n 100019)) (Ch.mk (z.n 100020) (z.n 100021) (z.n 100022) (z.n 100023) (z.n 100024) (z.n 100025) (z.n 100026) (z.b 100027) (z.b 100028) (z.n 100029)) (Ch.mk (z.n 100030) (z.n 100031) (z.n 100032) (z.n 100033) (z.n 100034) (z.n 100035) (z.n 100036) (z.b 100037) (z.b 100038) (z.n 100039)))) z (fnTree (pe E) (orcA E) (tabL fns) 20000 Try.f18 [.c (.p 1 0), .c (.i true .i64 0), .c (.i false .i64 part), .c (.i false .u16 x)] (mkM z S (rMs X) 0))) =
    (((part == (0 : Int)) = true → True ∧ (X = X ∧ (33 : Nat) = (33 : Nat) ∧ (q32 (IntKind.u32.wrap (IntKind.u32.wrap (IntKind.u32.wrap ((z.n 100000).tdiv (65536 : Int)) *
      (65536 : Int)) + IntKind.u32.wrap x)) ∧ st1 z) ∧ S = S) ∧ U4.mk (Ch.mk (IntKind.u32.wrap (IntKind.u32.wrap (IntKind.u32.wrap ((z.n 100000).tdiv (65536 : Int)) * (65536 :
      Int)) + IntKind.u32.wrap x)) (z.n 100001) (z.n 100002) (z.n 100003) (z.n 100004) (z.n 100005) (z.n 100006) (z.b 100007) (z.b 100008) (z.n 100009)) (cr1 z) (cr2 z) (cr3 z)
      = uW (0 : Int) part x (TR z)) ∧ ((part == (0 : Int)) = false → ((part == (1 : Int)) = true → True ∧ (X = X ∧ (33 : Nat) = (33 : Nat) ∧ (q32 (IntKind.u32.wrap ((z.n
      100000).tmod (65536 : Int) + IntKind.u32.wrap (((IntKind.u32.wrap x).tmod (2048 : Int)).tmod (4096 : Int) * (65536 : Int)))) ∧ st1 z) ∧ S = S) ∧ U4.mk (Ch.mk
      (IntKind.u32.wrap ((z.n 100000).tmod (65536 : Int) + IntKind.u32.wrap (((IntKind.u32.wrap x).tmod (2048 : Int)).tmod (4096 : Int) * (65536 : Int)))) (z.n 100001) (z.n
      100002) (z.n 100003) (z.n 100004) (z.n 100005) (z.n 100006) (z.b 100007) (z.b 100008) (z.n 100009)) (cr1 z) (cr2 z) (cr3 z) = uW (0 : Int) part x (TR z)) ∧ ((part == (1 :
      Int)) = false → ((part == (2 : Int)) = true → True ∧ (X = X ∧ (33 : Nat) = (33 : Nat) ∧ (q32 (z.n 100000) ∧ q32 (IntKind.u32.wrap (IntKind.u32.wrap (IntKind.u32.wrap ((z.n
      100001).tdiv (65536 : Int)) * (65536 : Int)) + IntKind.u32.wrap x)) ∧ st2 z) ∧ S = S) ∧ U4.mk (Ch.mk (z.n 100000) (IntKind.u32.wrap (IntKind.u32.wrap (IntKind.u32.wrap
      ((z.n 100001).tdiv (65536 : Int)) * (65536 : Int)) + IntKind.u32.wrap x)) (z.n 100002) (z.n 100003) (z.n 100004) (z.n 100005) (z.n 100006) (z.b 100007) (z.b 100008) (z.n
      100009)) (cr1 z) (cr2 z) (cr3 z) = uW (0 : Int) part x (TR z)) ∧ ((part == (2 : Int)) = false → ((part == (3 : Int)) = true → True ∧ (X = X ∧ (33 : Nat) = (33 : Nat) ∧
      (q32 (z.n 100000) ∧ q32 (IntKind.u32.wrap ((z.n 100001).tmod (65536 : Int) + IntKind.u32.wrap (((IntKind.u32.wrap x).tmod (2048 : Int)).tmod (4096 : Int) * (65536 :
      Int)))) ∧ st2 z) ∧ S = S) ∧ U4.mk (Ch.mk (z.n 100000) (IntKind.u32.wrap ((z.n 100001).tmod (65536 : Int) + IntKind.u32.wrap (((IntKind.u32.wrap x).tmod (2048 : Int)).tmod
      (4096 : Int) * (65536 : Int)))) (z.n 100002) (z.n 100003) (z.n 100004) (z.n 100005) (z.n 100006) (z.b 100007) (z.b 100008) (z.n 100009)) (cr1 z) (cr2 z) (cr3 z) = uW (0 :
      Int) part x (TR z)) ∧ ((part == (3 : Int)) = false → ((part == (4 : Int)) = true → True ∧ (X = X ∧ (33 : Nat) = (33 : Nat) ∧ (q32 (z.n 100000) ∧ q32 (z.n 100001) ∧ q16
      ((IntKind.i64.wrap x).tmod (16384 : Int)) ∧ st3 z) ∧ S = S) ∧ U4.mk (Ch.mk (z.n 100000) (z.n 100001) ((IntKind.i64.wrap x).tmod (16384 : Int)) (z.n 100003) (z.n 100004)
      (z.n 100005) (z.n 100006) (z.b 100007) (z.b 100008) (z.n 100009)) (cr1 z) (cr2 z) (cr3 z) = uW (0 : Int) part x (TR z)) ∧ ((part == (4 : Int)) = false → ((part == (5 :
      Int)) = true → ((!((IntKind.i64.wrap (bits BinOp.and IntKind.u16 x (63456 : Int))).fdiv (32768 : Int)).tmod (2 : Int) == (1 : Int)) = true → True ∧ (X = X ∧ (33 : Nat) =
      (33 : Nat) ∧ (sp3 z (q16 (bits BinOp.and IntKind.u16 x (63456 : Int)) ∧ st4 z)) ∧ S = S) ∧ U4.mk (Ch.mk (z.n 100000) (z.n 100001) (z.n 100002) (bits BinOp.and IntKind.u16
      x (63456 : Int)) (z.n 100004) (z.n 100005) (z.n 100006) false (z.b 100008) (z.n 100009)) (cr1 z) (cr2 z) (cr3 z) = uW (0 : Int) part x (TR z)) ∧ ((!((IntKind.i64.wrap
      (bits BinOp.and IntKind.u16 x (63456 : Int))).fdiv (32768 : Int)).tmod (2 : Int) == (1 : Int)) = false → ((!ro (z.n 100003)) = true → ((z.n 100002 == (0 : Int)) = true →
      ((((IntKind.i64.wrap (bits BinOp.and IntKind.u16 x (63456 : Int))).fdiv (32768 : Int)).tmod (2 : Int) == (1 : Int)) = true → ((((IntKind.i64.wrap (bits BinOp.and
      IntKind.u16 x (63456 : Int))).fdiv (4096 : Int)).tmod (4 : Int) == (3 : Int)) = true → True ∧ (X = X ∧ (33 : Nat) = (33 : Nat) ∧ (sp3 z (q16 (bits BinOp.and IntKind.u16 x
      (63456 : Int)) ∧ q32 (z.n 100000) ∧ q32 (z.n 100001) ∧ st6 z)) ∧ S = S) ∧ U4.mk (Ch.mk (z.n 100000) (z.n 100001) (z.n 100002) (bits BinOp.and IntKind.u16 x (63456 : Int))
      (z.n 100000) (z.n 100001) (16384 : Int) (((IntKind.i64.wrap x).fdiv (4096 : Int)).tmod (4 : Int) == (0 : Int)) true (z.n 100009)) (cr1 z) (cr2 z) (cr3 z) = uW (0 : Int)
      part x (TR z)) ∧ ((((IntKind.i64.wrap (bits BinOp.and IntKind.u16 x (63456 : Int))).fdiv (4096 : Int)).tmod (4 : Int) == (3 : Int)) = false → True ∧ (X = X ∧ (33 : Nat) =
      (33 : Nat) ∧ (sp3 z (q16 (bits BinOp.and IntKind.u16 x (63456 : Int)) ∧ q32 (z.n 100000) ∧ q32 (z.n 100001) ∧ st6 z)) ∧ S = S) ∧ U4.mk (Ch.mk (z.n 100000) (z.n 100001)
      (z.n 100002) (bits BinOp.and IntKind.u16 x (63456 : Int)) (z.n 100000) (z.n 100001) (16384 : Int) (((IntKind.i64.wrap x).fdiv (4096 : Int)).tmod (4 : Int) == (0 : Int))
      true (z.n 100009)) (cr1 z) (cr2 z) (cr3 z) = uW (0 : Int) part x (TR z))) ∧ ((((IntKind.i64.wrap (bits BinOp.and IntKind.u16 x (63456 : Int))).fdiv (32768 : Int)).tmod (2
      : Int) == (1 : Int)) = false → True ∧ (X = X ∧ (33 : Nat) = (33 : Nat) ∧ (sp3 z (q16 (bits BinOp.and IntKind.u16 x (63456 : Int)) ∧ q32 (z.n 100000) ∧ q32 (z.n 100001) ∧
      st6 z)) ∧ S = S) ∧ U4.mk (Ch.mk (z.n 100000) (z.n 100001) (z.n 100002) (bits BinOp.and IntKind.u16 x (63456 : Int)) (z.n 100000) (z.n 100001) (16384 : Int)
      (((IntKind.i64.wrap x).fdiv (4096 : Int)).tmod (4 : Int) == (0 : Int)) true (z.n 100009)) (cr1 z) (cr2 z) (cr3 z) = uW (0 : Int) part x (TR z))) ∧ ((z.n 100002 == (0 :
      Int)) = false → ((((IntKind.i64.wrap (bits BinOp.and IntKind.u16 x (63456 : Int))).fdiv (32768 : Int)).tmod (2 : Int) == (1 : Int)) = true → ((((IntKind.i64.wrap (bits
      BinOp.and IntKind.u16 x (63456 : Int))).fdiv (4096 : Int)).tmod (4 : Int) == (3 : Int)) = true → True ∧ (X = X ∧ (33 : Nat) = (33 : Nat) ∧ (sp3 z (q16 (bits BinOp.and
      IntKind.u16 x (63456 : Int)) ∧ q32 (z.n 100000) ∧ q32 (z.n 100001) ∧ st6 z)) ∧ S = S) ∧ U4.mk (Ch.mk (z.n 100000) (z.n 100001) (z.n 100002) (bits BinOp.and IntKind.u16 x
      (63456 : Int)) (z.n 100000) (z.n 100001) (z.n 100002) (((IntKind.i64.wrap x).fdiv (4096 : Int)).tmod (4 : Int) == (0 : Int)) true (z.n 100009)) (cr1 z) (cr2 z) (cr3 z) =
      uW (0 : Int) part x (TR z)) ∧ ((((IntKind.i64.wrap (bits BinOp.and IntKind.u16 x (63456 : Int))).fdiv (4096 : Int)).tmod (4 : Int) == (3 : Int)) = false → True ∧ (X = X ∧
      (33 : Nat) = (33 : Nat) ∧ (sp3 z (q16 (bits BinOp.and IntKind.u16 x (63456 : Int)) ∧ q32 (z.n 100000) ∧ q32 (z.n 100001) ∧ st6 z)) ∧ S = S) ∧ U4.mk (Ch.mk (z.n 100000)
      (z.n 100001) (z.n 100002) (bits BinOp.and IntKind.u16 x (63456 : Int)) (z.n 100000) (z.n 100001) (z.n 100002) (((IntKind.i64.wrap x).fdiv (4096 : Int)).tmod (4 : Int) ==
      (0 : Int)) true (z.n 100009)) (cr1 z) (cr2 z) (cr3 z) = uW (0 : Int) part x (TR z))) ∧ ((((IntKind.i64.wrap (bits BinOp.and IntKind.u16 x (63456 : Int))).fdiv (32768 :
      Int)).tmod (2 : Int) == (1 : Int)) = false → True ∧ (X = X ∧ (33 : Nat) = (33 : Nat) ∧ (sp3 z (q16 (bits BinOp.and IntKind.u16 x (63456 : Int)) ∧ q32 (z.n 100000) ∧ q32
      (z.n 100001) ∧ st6 z)) ∧ S = S) ∧ U4.mk (Ch.mk (z.n 100000) (z.n 100001) (z.n 100002) (bits BinOp.and IntKind.u16 x (63456 : Int)) (z.n 100000) (z.n 100001) (z.n 100002)
      (((IntKind.i64.wrap x).fdiv (4096 : Int)).tmod (4 : Int) == (0 : Int)) true (z.n 100009)) (cr1 z) (cr2 z) (cr3 z) = uW (0 : Int) part x (TR z)))) ∧ ((!ro (z.n 100003)) =
      false → True ∧ (X = X ∧ (33 : Nat) = (33 : Nat) ∧ (sp3 z (q16 (bits BinOp.and IntKind.u16 x (63456 : Int)) ∧ st4 z)) ∧ S = S) ∧ U4.mk (Ch.mk (z.n 100000) (z.n 100001) (z.n
      100002) (bits BinOp.and IntKind.u16 x (63456 : Int)) (z.n 100004) (z.n 100005) (z.n 100006) (z.b 100007) (z.b 100008) (z.n 100009)) (cr1 z) (cr2 z) (cr3 z) = uW (0 : Int)
      part x (TR z)))) ∧ ((part == (5 : Int)) = false → True ∧ (X = X ∧ (33 : Nat) = (33 : Nat) ∧ (RGr z) ∧ S = S) ∧ TR z = uW (0 : Int) part x (TR z)))))))) := by kernel_rfl
set_option maxHeartbeats 2000000 in
theorem wr0_c (E : World) (X : Bl) (S : SW) (part x : Int) (z : PX) (hz : rgM z (rMs X) 0) (hp : (fun _ => 0 ≤ x ∧ x ≤ 65535) z) : HC (pe E) 18 [.c (.p 1 0), .c (.i true .i64 0), .c (.i false .i64 part), .c (.i false .u16 x)] (rMs X) S (.t []) (fun z y => (U4.mk (Ch.mk (y.n 100000) (y.n 100001) (y.n 100002) (y.n 100003) (y.n 100004) (y.n 100005) (y.n 100006) (y.b 100007) (y.b 100008) (y.n 100009)) (Ch.mk (y.n 100010) (y.n 100011) (y.n 100012) (y.n 100013) (y.n 100014) (y.n 100015) (y.n 100016) (y.b 100017) (y.b 100018) (y.n 100019)) (Ch.mk (y.n 100020) (y.n 100021) (y.n 100022) (y.n 100023) (y.n 100024) (y.n 100025) (y.n 100026) (y.b 100027) (y.b 100028) (y.n 100029)) (Ch.mk (y.n 100030) (y.n 100031) (y.n 100032) (y.n 100033) (y.n 100034) (y.n 100035) (y.n 100036) (y.b 100037) (y.b 100038) (y.n 100039))) = uW 0 part x (U4.mk (Ch.mk (z.n 100000) (z.n 100001) (z.n 100002) (z.n 100003) (z.n 100004) (z.n 100005) (z.n 100006) (z.b 100007) (z.b 100008) (z.n 100009)) (Ch.mk (z.n 100010) (z.n 100011) (z.n 100012) (z.n 100013) (z.n 100014) (z.n 100015) (z.n 100016) (z.b 100017) (z.b 100018) (z.n 100019)) (Ch.mk (z.n 100020) (z.n 100021) (z.n 100022) (z.n 100023) (z.n 100024) (z.n 100025) (z.n 100026) (z.b 100027) (z.b 100028) (z.n 100029)) (Ch.mk (z.n 100030) (z.n 100031) (z.n 100032) (z.n 100033) (z.n 100034) (z.n 100035) (z.n 100036) (z.b 100037) (z.b 100038) (z.n 100039)))) z := by
  refine HC.mk false (by rfl) (by rfl) (by rfl) (by rfl) (fnTree_sound (P := pe E) orcA_ok tab_ok tab_sz mixed 20000 Try.func18 (by decide) [.c (.p 1 0), .c (.i true .i64 0), .c (.i false .i64 part), .c (.i false .u16 x)] _) ⟨?_⟩
  rw [wr0_p]
  obtain ⟨h100000, h100001, h100002, h100003, h100004, h100005, h100009, h100010, h100011, h100012, h100013, h100014, h100015, h100019, h100020, h100021, h100022, h100023, h100024, h100025, h100029, h100030, h100031, h100032, h100033, h100034, h100035, h100039, _⟩ := rg_r hz
  obtain ⟨p1, p2⟩ := hp
  obtain ⟨n0, n1, n2⟩ := msk x p1 p2
  have a0 := lo_r (z.n 100000) x h100000.1 h100000.2 p1 p2
  have a1 := hi_r (z.n 100000) (x % 2048) h100000.1 (by omega) (by omega)
  have a2 := lo_r (z.n 100001) x h100001.1 h100001.2 p1 p2
  have a3 := hi_r (z.n 100001) (x % 2048) h100001.1 (by omega) (by omega)
  have k0 : IntKind.u32.wrap x = x := by rw [wu32]; omega
  have k1 : (x.tmod 2048).tmod 4096 = x % 2048 := by rw [Int.tmod_eq_emod_of_nonneg p1, Int.tmod_eq_emod_of_nonneg (by omega)]; omega
  have k2 : x.tmod 4096 = x % 4096 := Int.tmod_eq_emod_of_nonneg p1
  have k3 : (IntKind.i64.wrap x).tmod 16384 = x % 16384 := by rw [show IntKind.i64.wrap x = x by rw [wi64]; omega, Int.tmod_eq_emod_of_nonneg p1]
  have k4 : IntKind.i64.wrap x = x := by rw [wi64]; omega
  have o1 := onr _ n0 n1
  have o2 := onr _ h100003.1 h100003.2
  have o3 := tmr _ n0 n1
  have o4 : ((IntKind.i64.wrap x).fdiv 4096).tmod 4 = tm (bits .and .u16 x 63456) := by rw [tmr x p1 p2]; unfold tm; exact n2.symm
  simp only [fw, lw, vsr, px, w3, wo, ro, r3, a0, o1, o2, o3, o4, k3, a2, k0, k1, k2]
  try rw [k0] at a0 a2
  simp only [a0, a1, a2, a3, k4]
  clear a0 a1 a2 a3 o1 o2 o3 o4 k3
  have g0 : 0 ≤ z.n 100000 / 65536 * 65536 + x ∧ z.n 100000 / 65536 * 65536 + x ≤ 4294967295 := by omega
  have g1 : 0 ≤ z.n 100000 % 65536 + x % 2048 * 65536 ∧ z.n 100000 % 65536 + x % 2048 * 65536 ≤ 4294967295 := by omega
  have g2 : 0 ≤ z.n 100001 / 65536 * 65536 + x ∧ z.n 100001 / 65536 * 65536 + x ≤ 4294967295 := by omega
  have g3 : 0 ≤ z.n 100001 % 65536 + x % 2048 * 65536 ∧ z.n 100001 % 65536 + x % 2048 * 65536 ≤ 4294967295 := by omega
  (repeat' (first | exact trivial | with_reducible rfl | assumption | apply And.intro | intro h)) <;> first | omega | (simp_all [uW, setC, chW, ctlC, ld, fds, TU, TR, cu0, cu1, cu2, cu3, cr0, cr1, cr2, cr3]; done)
theorem wr1_p (E : World) (X : Bl) (S : SW) (z : PX) (part x : Int) :
    (hoP false (rMs X) S (.t []) (fun z y => (U4.mk (Ch.mk (y.n 100000) (y.n 100001) (y.n 100002) (y.n 100003) (y.n 100004) (y.n 100005) (y.n 100006) (y.b 100007) (y.b 100008) (y.n 100009)) (Ch.mk (y.n 100010) (y.n 100011) (y.n 100012) (y.n 100013) (y.n 100014) (y.n 100015) (y.n 100016) (y.b 100017) (y.b 100018) (y.n 100019)) (Ch.mk (y.n 100020) (y.n 100021) (y.n 100022) (y.n 100023) (y.n 100024) (y.n 100025) (y.n 100026) (y.b 100027) (y.b 100028) (y.n 100029)) (Ch.mk (y.n 100030) (y.n 100031) (y.n 100032) (y.n 100033) (y.n 100034) (y.n 100035) (y.n 100036) (y.b 100037) (y.b 100038) (y.n 100039))) = uW 1 part x (U4.mk (Ch.mk (z.n 100000) (z.n 100001) (z.n 100002) (z.n 100003) (z.n 100004) (z.n 100005) (z.n 100006) (z.b 100007) (z.b 100008) (z.n 100009)) (Ch.mk (z.n 100010) (z.n 100011) (z.n 100012) (z.n 100013) (z.n 100014) (z.n 100015) (z.n 100016) (z.b 100017) (z.b 100018) (z.n 100019)) (Ch.mk (z.n 100020) (z.n 100021) (z.n 100022) (z.n 100023) (z.n 100024) (z.n 100025) (z.n 100026) (z.b 100027) (z.b 100028) (z.n 100029)) (Ch.mk (z.n 100030) (z.n 100031) (z.n 100032) (z.n 100033) (z.n 100034) (z.n 100035) (z.n 100036) (z.b 100037) (z.b 100038) (z.n 100039)))) z (fnTree (pe E) (orcA E) (tabL fns) 20000 Try.f18 [.c (.p 1 0), .c (.i true .i64 1), .c (.i false .i64 part), .c (.i false .u16 x)] (mkM z S (rMs X) 0))) =
    (((part == (0 : Int)) = true → True ∧ (X = X ∧ (33 : Nat) = (33 : Nat) ∧ (sp7 z (q32 (IntKind.u32.wrap (IntKind.u32.wrap (IntKind.u32.wrap ((z.n 100010).tdiv (65536 : Int))
      * (65536 : Int)) + IntKind.u32.wrap x)) ∧ st8 z)) ∧ S = S) ∧ U4.mk (cr0 z) (Ch.mk (IntKind.u32.wrap (IntKind.u32.wrap (IntKind.u32.wrap ((z.n 100010).tdiv (65536 : Int)) *
      (65536 : Int)) + IntKind.u32.wrap x)) (z.n 100011) (z.n 100012) (z.n 100013) (z.n 100014) (z.n 100015) (z.n 100016) (z.b 100017) (z.b 100018) (z.n 100019)) (cr2 z) (cr3 z)
      = uW (1 : Int) part x (TR z)) ∧ ((part == (0 : Int)) = false → ((part == (1 : Int)) = true → True ∧ (X = X ∧ (33 : Nat) = (33 : Nat) ∧ (sp7 z (q32 (IntKind.u32.wrap ((z.n
      100010).tmod (65536 : Int) + IntKind.u32.wrap ((IntKind.u32.wrap x).tmod (4096 : Int) * (65536 : Int)))) ∧ st8 z)) ∧ S = S) ∧ U4.mk (cr0 z) (Ch.mk (IntKind.u32.wrap ((z.n
      100010).tmod (65536 : Int) + IntKind.u32.wrap ((IntKind.u32.wrap x).tmod (4096 : Int) * (65536 : Int)))) (z.n 100011) (z.n 100012) (z.n 100013) (z.n 100014) (z.n 100015)
      (z.n 100016) (z.b 100017) (z.b 100018) (z.n 100019)) (cr2 z) (cr3 z) = uW (1 : Int) part x (TR z)) ∧ ((part == (1 : Int)) = false → ((part == (2 : Int)) = true → True ∧ (X
      = X ∧ (33 : Nat) = (33 : Nat) ∧ (sp8 z (q32 (IntKind.u32.wrap (IntKind.u32.wrap (IntKind.u32.wrap ((z.n 100011).tdiv (65536 : Int)) * (65536 : Int)) + IntKind.u32.wrap x))
      ∧ st9 z)) ∧ S = S) ∧ U4.mk (cr0 z) (Ch.mk (z.n 100010) (IntKind.u32.wrap (IntKind.u32.wrap (IntKind.u32.wrap ((z.n 100011).tdiv (65536 : Int)) * (65536 : Int)) +
      IntKind.u32.wrap x)) (z.n 100012) (z.n 100013) (z.n 100014) (z.n 100015) (z.n 100016) (z.b 100017) (z.b 100018) (z.n 100019)) (cr2 z) (cr3 z) = uW (1 : Int) part x (TR z))
      ∧ ((part == (2 : Int)) = false → ((part == (3 : Int)) = true → True ∧ (X = X ∧ (33 : Nat) = (33 : Nat) ∧ (sp8 z (q32 (IntKind.u32.wrap ((z.n 100011).tmod (65536 : Int) +
      IntKind.u32.wrap (((IntKind.u32.wrap x).tmod (2048 : Int)).tmod (4096 : Int) * (65536 : Int)))) ∧ st9 z)) ∧ S = S) ∧ U4.mk (cr0 z) (Ch.mk (z.n 100010) (IntKind.u32.wrap
      ((z.n 100011).tmod (65536 : Int) + IntKind.u32.wrap (((IntKind.u32.wrap x).tmod (2048 : Int)).tmod (4096 : Int) * (65536 : Int)))) (z.n 100012) (z.n 100013) (z.n 100014)
      (z.n 100015) (z.n 100016) (z.b 100017) (z.b 100018) (z.n 100019)) (cr2 z) (cr3 z) = uW (1 : Int) part x (TR z)) ∧ ((part == (3 : Int)) = false → ((part == (4 : Int)) =
      true → True ∧ (X = X ∧ (33 : Nat) = (33 : Nat) ∧ (sp9 z (q16 ((IntKind.i64.wrap x).tmod (16384 : Int)) ∧ st10 z)) ∧ S = S) ∧ U4.mk (cr0 z) (Ch.mk (z.n 100010) (z.n 100011)
      ((IntKind.i64.wrap x).tmod (16384 : Int)) (z.n 100013) (z.n 100014) (z.n 100015) (z.n 100016) (z.b 100017) (z.b 100018) (z.n 100019)) (cr2 z) (cr3 z) = uW (1 : Int) part x
      (TR z)) ∧ ((part == (4 : Int)) = false → ((part == (5 : Int)) = true → ((!((IntKind.i64.wrap (bits BinOp.and IntKind.u16 x (63456 : Int))).fdiv (32768 : Int)).tmod (2 :
      Int) == (1 : Int)) = true → True ∧ (X = X ∧ (33 : Nat) = (33 : Nat) ∧ (sp10 z (q16 (bits BinOp.and IntKind.u16 x (63456 : Int)) ∧ st11 z)) ∧ S = S) ∧ U4.mk (cr0 z) (Ch.mk
      (z.n 100010) (z.n 100011) (z.n 100012) (bits BinOp.and IntKind.u16 x (63456 : Int)) (z.n 100014) (z.n 100015) (z.n 100016) false (z.b 100018) (z.n 100019)) (cr2 z) (cr3 z)
      = uW (1 : Int) part x (TR z)) ∧ ((!((IntKind.i64.wrap (bits BinOp.and IntKind.u16 x (63456 : Int))).fdiv (32768 : Int)).tmod (2 : Int) == (1 : Int)) = false → ((!ro (z.n
      100013)) = true → ((z.n 100012 == (0 : Int)) = true → ((((IntKind.i64.wrap (bits BinOp.and IntKind.u16 x (63456 : Int))).fdiv (32768 : Int)).tmod (2 : Int) == (1 : Int)) =
      true → ((((IntKind.i64.wrap (bits BinOp.and IntKind.u16 x (63456 : Int))).fdiv (4096 : Int)).tmod (4 : Int) == (3 : Int)) = true → True ∧ (X = X ∧ (33 : Nat) = (33 : Nat)
      ∧ (sp10 z (q16 (bits BinOp.and IntKind.u16 x (63456 : Int)) ∧ q32 (z.n 100010) ∧ q32 (z.n 100011) ∧ st13 z)) ∧ S = S) ∧ U4.mk (cr0 z) (Ch.mk (z.n 100010) (z.n 100011) (z.n
      100012) (bits BinOp.and IntKind.u16 x (63456 : Int)) (z.n 100010) (z.n 100011) (4 : Int) (((IntKind.i64.wrap x).fdiv (4096 : Int)).tmod (4 : Int) == (0 : Int)) true (z.n
      100019)) (cr2 z) (cr3 z) = uW (1 : Int) part x (TR z)) ∧ ((((IntKind.i64.wrap (bits BinOp.and IntKind.u16 x (63456 : Int))).fdiv (4096 : Int)).tmod (4 : Int) == (3 : Int))
      = false → True ∧ (X = X ∧ (33 : Nat) = (33 : Nat) ∧ (sp10 z (q16 (bits BinOp.and IntKind.u16 x (63456 : Int)) ∧ q32 (z.n 100010) ∧ q32 (z.n 100011) ∧ st13 z)) ∧ S = S) ∧
      U4.mk (cr0 z) (Ch.mk (z.n 100010) (z.n 100011) (z.n 100012) (bits BinOp.and IntKind.u16 x (63456 : Int)) (z.n 100010) (z.n 100011) (16384 : Int) (((IntKind.i64.wrap
      x).fdiv (4096 : Int)).tmod (4 : Int) == (0 : Int)) true (z.n 100019)) (cr2 z) (cr3 z) = uW (1 : Int) part x (TR z))) ∧ ((((IntKind.i64.wrap (bits BinOp.and IntKind.u16 x
      (63456 : Int))).fdiv (32768 : Int)).tmod (2 : Int) == (1 : Int)) = false → True ∧ (X = X ∧ (33 : Nat) = (33 : Nat) ∧ (sp10 z (q16 (bits BinOp.and IntKind.u16 x (63456 :
      Int)) ∧ q32 (z.n 100010) ∧ q32 (z.n 100011) ∧ st13 z)) ∧ S = S) ∧ U4.mk (cr0 z) (Ch.mk (z.n 100010) (z.n 100011) (z.n 100012) (bits BinOp.and IntKind.u16 x (63456 : Int))
      (z.n 100010) (z.n 100011) (16384 : Int) (((IntKind.i64.wrap x).fdiv (4096 : Int)).tmod (4 : Int) == (0 : Int)) true (z.n 100019)) (cr2 z) (cr3 z) = uW (1 : Int) part x (TR
      z))) ∧ ((z.n 100012 == (0 : Int)) = false → ((((IntKind.i64.wrap (bits BinOp.and IntKind.u16 x (63456 : Int))).fdiv (32768 : Int)).tmod (2 : Int) == (1 : Int)) = true →
      ((((IntKind.i64.wrap (bits BinOp.and IntKind.u16 x (63456 : Int))).fdiv (4096 : Int)).tmod (4 : Int) == (3 : Int)) = true → True ∧ (X = X ∧ (33 : Nat) = (33 : Nat) ∧ (sp10
      z (q16 (bits BinOp.and IntKind.u16 x (63456 : Int)) ∧ q32 (z.n 100010) ∧ q32 (z.n 100011) ∧ st13 z)) ∧ S = S) ∧ U4.mk (cr0 z) (Ch.mk (z.n 100010) (z.n 100011) (z.n 100012)
      (bits BinOp.and IntKind.u16 x (63456 : Int)) (z.n 100010) (z.n 100011) (4 : Int) (((IntKind.i64.wrap x).fdiv (4096 : Int)).tmod (4 : Int) == (0 : Int)) true (z.n 100019))
      (cr2 z) (cr3 z) = uW (1 : Int) part x (TR z)) ∧ ((((IntKind.i64.wrap (bits BinOp.and IntKind.u16 x (63456 : Int))).fdiv (4096 : Int)).tmod (4 : Int) == (3 : Int)) = false
      → True ∧ (X = X ∧ (33 : Nat) = (33 : Nat) ∧ (sp10 z (q16 (bits BinOp.and IntKind.u16 x (63456 : Int)) ∧ q32 (z.n 100010) ∧ q32 (z.n 100011) ∧ st13 z)) ∧ S = S) ∧ U4.mk
      (cr0 z) (Ch.mk (z.n 100010) (z.n 100011) (z.n 100012) (bits BinOp.and IntKind.u16 x (63456 : Int)) (z.n 100010) (z.n 100011) (z.n 100012) (((IntKind.i64.wrap x).fdiv (4096
      : Int)).tmod (4 : Int) == (0 : Int)) true (z.n 100019)) (cr2 z) (cr3 z) = uW (1 : Int) part x (TR z))) ∧ ((((IntKind.i64.wrap (bits BinOp.and IntKind.u16 x (63456 :
      Int))).fdiv (32768 : Int)).tmod (2 : Int) == (1 : Int)) = false → True ∧ (X = X ∧ (33 : Nat) = (33 : Nat) ∧ (sp10 z (q16 (bits BinOp.and IntKind.u16 x (63456 : Int)) ∧ q32
      (z.n 100010) ∧ q32 (z.n 100011) ∧ st13 z)) ∧ S = S) ∧ U4.mk (cr0 z) (Ch.mk (z.n 100010) (z.n 100011) (z.n 100012) (bits BinOp.and IntKind.u16 x (63456 : Int)) (z.n 100010)
      (z.n 100011) (z.n 100012) (((IntKind.i64.wrap x).fdiv (4096 : Int)).tmod (4 : Int) == (0 : Int)) true (z.n 100019)) (cr2 z) (cr3 z) = uW (1 : Int) part x (TR z)))) ∧ ((!ro
      (z.n 100013)) = false → True ∧ (X = X ∧ (33 : Nat) = (33 : Nat) ∧ (sp10 z (q16 (bits BinOp.and IntKind.u16 x (63456 : Int)) ∧ st11 z)) ∧ S = S) ∧ U4.mk (cr0 z) (Ch.mk (z.n
      100010) (z.n 100011) (z.n 100012) (bits BinOp.and IntKind.u16 x (63456 : Int)) (z.n 100014) (z.n 100015) (z.n 100016) (z.b 100017) (z.b 100018) (z.n 100019)) (cr2 z) (cr3
      z) = uW (1 : Int) part x (TR z)))) ∧ ((part == (5 : Int)) = false → True ∧ (X = X ∧ (33 : Nat) = (33 : Nat) ∧ (RGr z) ∧ S = S) ∧ TR z = uW (1 : Int) part x (TR z)))))))) := by kernel_rfl
set_option maxHeartbeats 2000000 in
theorem wr1_c (E : World) (X : Bl) (S : SW) (part x : Int) (z : PX) (hz : rgM z (rMs X) 0) (hp : (fun _ => 0 ≤ x ∧ x ≤ 65535) z) : HC (pe E) 18 [.c (.p 1 0), .c (.i true .i64 1), .c (.i false .i64 part), .c (.i false .u16 x)] (rMs X) S (.t []) (fun z y => (U4.mk (Ch.mk (y.n 100000) (y.n 100001) (y.n 100002) (y.n 100003) (y.n 100004) (y.n 100005) (y.n 100006) (y.b 100007) (y.b 100008) (y.n 100009)) (Ch.mk (y.n 100010) (y.n 100011) (y.n 100012) (y.n 100013) (y.n 100014) (y.n 100015) (y.n 100016) (y.b 100017) (y.b 100018) (y.n 100019)) (Ch.mk (y.n 100020) (y.n 100021) (y.n 100022) (y.n 100023) (y.n 100024) (y.n 100025) (y.n 100026) (y.b 100027) (y.b 100028) (y.n 100029)) (Ch.mk (y.n 100030) (y.n 100031) (y.n 100032) (y.n 100033) (y.n 100034) (y.n 100035) (y.n 100036) (y.b 100037) (y.b 100038) (y.n 100039))) = uW 1 part x (U4.mk (Ch.mk (z.n 100000) (z.n 100001) (z.n 100002) (z.n 100003) (z.n 100004) (z.n 100005) (z.n 100006) (z.b 100007) (z.b 100008) (z.n 100009)) (Ch.mk (z.n 100010) (z.n 100011) (z.n 100012) (z.n 100013) (z.n 100014) (z.n 100015) (z.n 100016) (z.b 100017) (z.b 100018) (z.n 100019)) (Ch.mk (z.n 100020) (z.n 100021) (z.n 100022) (z.n 100023) (z.n 100024) (z.n 100025) (z.n 100026) (z.b 100027) (z.b 100028) (z.n 100029)) (Ch.mk (z.n 100030) (z.n 100031) (z.n 100032) (z.n 100033) (z.n 100034) (z.n 100035) (z.n 100036) (z.b 100037) (z.b 100038) (z.n 100039)))) z := by
  refine HC.mk false (by rfl) (by rfl) (by rfl) (by rfl) (fnTree_sound (P := pe E) orcA_ok tab_ok tab_sz mixed 20000 Try.func18 (by decide) [.c (.p 1 0), .c (.i true .i64 1), .c (.i false .i64 part), .c (.i false .u16 x)] _) ⟨?_⟩
  rw [wr1_p]
  obtain ⟨h100000, h100001, h100002, h100003, h100004, h100005, h100009, h100010, h100011, h100012, h100013, h100014, h100015, h100019, h100020, h100021, h100022, h100023, h100024, h100025, h100029, h100030, h100031, h100032, h100033, h100034, h100035, h100039, _⟩ := rg_r hz
  obtain ⟨p1, p2⟩ := hp
  obtain ⟨n0, n1, n2⟩ := msk x p1 p2
  have a0 := lo_r (z.n 100010) x h100010.1 h100010.2 p1 p2
  have a1 := hi_r (z.n 100010) (x % 4096) h100010.1 (by omega) (by omega)
  have a2 := lo_r (z.n 100011) x h100011.1 h100011.2 p1 p2
  have a3 := hi_r (z.n 100011) (x % 2048) h100011.1 (by omega) (by omega)
  have k0 : IntKind.u32.wrap x = x := by rw [wu32]; omega
  have k1 : (x.tmod 2048).tmod 4096 = x % 2048 := by rw [Int.tmod_eq_emod_of_nonneg p1, Int.tmod_eq_emod_of_nonneg (by omega)]; omega
  have k2 : x.tmod 4096 = x % 4096 := Int.tmod_eq_emod_of_nonneg p1
  have k3 : (IntKind.i64.wrap x).tmod 16384 = x % 16384 := by rw [show IntKind.i64.wrap x = x by rw [wi64]; omega, Int.tmod_eq_emod_of_nonneg p1]
  have k4 : IntKind.i64.wrap x = x := by rw [wi64]; omega
  have o1 := onr _ n0 n1
  have o2 := onr _ h100013.1 h100013.2
  have o3 := tmr _ n0 n1
  have o4 : ((IntKind.i64.wrap x).fdiv 4096).tmod 4 = tm (bits .and .u16 x 63456) := by rw [tmr x p1 p2]; unfold tm; exact n2.symm
  simp only [fw, lw, vsr, px, w3, wo, ro, r3, a0, o1, o2, o3, o4, k3, a2, k0, k1, k2]
  try rw [k0] at a0 a2
  simp only [a0, a1, a2, a3, k4]
  clear a0 a1 a2 a3 o1 o2 o3 o4 k3
  have g0 : 0 ≤ z.n 100010 / 65536 * 65536 + x ∧ z.n 100010 / 65536 * 65536 + x ≤ 4294967295 := by omega
  have g1 : 0 ≤ z.n 100010 % 65536 + x % 4096 * 65536 ∧ z.n 100010 % 65536 + x % 4096 * 65536 ≤ 4294967295 := by omega
  have g2 : 0 ≤ z.n 100011 / 65536 * 65536 + x ∧ z.n 100011 / 65536 * 65536 + x ≤ 4294967295 := by omega
  have g3 : 0 ≤ z.n 100011 % 65536 + x % 2048 * 65536 ∧ z.n 100011 % 65536 + x % 2048 * 65536 ≤ 4294967295 := by omega
  (repeat' (first | exact trivial | with_reducible rfl | assumption | apply And.intro | intro h)) <;> first | omega | (simp_all [uW, setC, chW, ctlC, ld, fds, TU, TR, cu0, cu1, cu2, cu3, cr0, cr1, cr2, cr3]; done)
end Go.Proofs.Ytpddbhfebhpohaa

