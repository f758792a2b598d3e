import Derived.Test.YtcegofobcjimlaaM
set_option linter.unusedVariables false
set_option linter.unusedSimpArgs false
namespace Go.Proofs.Ytcegofobcjimlaa
open Go Go.Proofs Go.Proofs.Ytcegofobcjimlaa.Ev Go.Proofs.Ytcegofobcjimlaa.Ev.Ho
set_option maxRecDepth 100000

def mpB : Bl := ⟨[], 741991204937588471353107210173517385893522847741378461052633880361214601735917472982278721692919759636892846595991201096475255940853038949688016010326287086087990634635853824⟩
theorem pin_u {z : PX} (h : rgM z (uM mpB) 0) : (0 ≤ z.n 100000 ∧ z.n 100000 ≤ 2199023255552) ∧ (0 ≤ z.n 100004 ∧ z.n 100004 ≤ 2047) ∧ (0 ≤ z.n 100005 ∧ z.n 100005 ≤ 63) ∧ (0 ≤ z.n 100006 ∧ z.n 100006 ≤ 16777216) ∧ (0 ≤ z.n 100007 ∧ z.n 100007 ≤ 3) ∧ (0 ≤ z.n 100008 ∧ z.n 100008 ≤ 15) ∧ (0 ≤ z.n 100011 ∧ z.n 100011 ≤ 15) ∧ (0 ≤ z.n 100016 ∧ z.n 100016 ≤ 2047) ∧ (0 ≤ z.n 100017 ∧ z.n 100017 ≤ 63) ∧ (0 ≤ z.n 100018 ∧ z.n 100018 ≤ 16777216) ∧ (0 ≤ z.n 100019 ∧ z.n 100019 ≤ 3) ∧ (0 ≤ z.n 100020 ∧ z.n 100020 ≤ 15) ∧ (0 ≤ z.n 100023 ∧ z.n 100023 ≤ 15) ∧ (0 ≤ z.n 100028 ∧ z.n 100028 ≤ 2047) ∧ (0 ≤ z.n 100029 ∧ z.n 100029 ≤ 63) ∧ (0 ≤ z.n 100030 ∧ z.n 100030 ≤ 16777216) ∧ (0 ≤ z.n 100031 ∧ z.n 100031 ≤ 3) ∧ (0 ≤ z.n 100032 ∧ z.n 100032 ≤ 15) ∧ (0 ≤ z.n 100035 ∧ z.n 100035 ≤ 15) ∧ (0 ≤ z.n 100040 ∧ z.n 100040 ≤ 2047) ∧ (0 ≤ z.n 100041 ∧ z.n 100041 ≤ 63) ∧ (0 ≤ z.n 100042 ∧ z.n 100042 ≤ 16777216) ∧ (0 ≤ z.n 100043 ∧ z.n 100043 ≤ 3) ∧ (0 ≤ z.n 100044 ∧ z.n 100044 ≤ 15) ∧ (0 ≤ z.n 100047 ∧ z.n 100047 ≤ 15) ∧ (0 ≤ z.n 100050 ∧ z.n 100050 ≤ 7) ∧ (0 ≤ z.n 100086 ∧ z.n 100086 ≤ 1) ∧ (0 ≤ z.n 100088 ∧ z.n 100088 ≤ 4) ∧ (0 ≤ z.n 100092 ∧ z.n 100092 ≤ 15) ∧ (0 ≤ z.n 100093 ∧ z.n 100093 ≤ 7) ∧ True := h.1
theorem f4096 (x : Int) : x.fdiv 4096 = x / 4096 := fdiv_lit _ _ (by decide)
theorem f64 (x : Int) : x.fdiv 64 = x / 64 := fdiv_lit _ _ (by decide)
theorem f2048 (x : Int) : x.fdiv 2048 = x / 2048 := fdiv_lit _ _ (by decide)
theorem f16 (x : Int) : x.fdiv 16 = x / 16 := fdiv_lit _ _ (by decide)
theorem f8 (x : Int) : x.fdiv 8 = x / 8 := fdiv_lit _ _ (by decide)
theorem f32 (x : Int) : x.fdiv 32 = x / 32 := fdiv_lit _ _ (by decide)
theorem f128 (x : Int) : x.fdiv 128 = x / 128 := fdiv_lit _ _ (by decide)
theorem f256 (x : Int) : x.fdiv 256 = x / 256 := fdiv_lit _ _ (by decide)
theorem f8192 (x : Int) : x.fdiv 8192 = x / 8192 := fdiv_lit _ _ (by decide)
theorem a1 (x : Int) : bits .and .u16 x 1 = x % 2 := and_mask .u16 x 1 (.inl (by decide))
theorem a3 (x : Int) : bits .and .u16 x 3 = x % 4 := and_mask .u16 x 2 (.inl (by decide))
theorem a7 (x : Int) : bits .and .u16 x 7 = x % 8 := and_mask .u16 x 3 (.inl (by decide))
theorem a15 (x : Int) : bits .and .u16 x 15 = x % 16 := and_mask .u16 x 4 (.inl (by decide))
theorem a63 (x : Int) : bits .and .u16 x 63 = x % 64 := and_mask .u16 x 6 (.inl (by decide))
theorem a2047 (x : Int) : bits .and .u16 x 2047 = x % 2048 := and_mask .u16 x 11 (.inl (by decide))
theorem shr12 (x : Int) (h0 : 0 ≤ x) (h1 : x ≤ 65535) : 0 ≤ x.fdiv 4096 ∧ x.fdiv 4096 ≤ 15 := by rw [fdiv_lit _ _ (by decide)]; omega
noncomputable def orcS (E : World) : Orc := fun g vs s => match g, vs, s with
  | 12, [.c (.p 1 0), .c (.i _ .i64 k)], M :: B :: S => some (hoT (pre := fun _ => True) (fun z => run_c E M S k z) (by rfl) (M :: B :: S))
  | g, vs, s => (orcR E) g vs s
theorem orcS_ok {E : World} : OrcOK (pe E) (orcS E) := by
  intro g vs s t h
  unfold orcS at h
  split at h
  · cases h; refine CallTree.args ?_ (hoT_ok _ _ _ (by first | rfl | (simp only [List.length_cons, List.length_nil, uM]; omega))); simp [simL, SV.sim, C.sim]
  · exact orcR_ok _ _ _ _ h
theorem wr0_p (E : World) (S : SW) (z : PX) (k : Int) (x : Int) :
    (hoP false (uM mpB) S (.t []) (fun _ _ => True) z (fnTree (pe E) (orcS E) (tabL fns) 20000 Try.f8 [.c (.p 1 0), .c (.i false .i64 k), .c (.i true .i64 0), .c (.i false .u16 x)] (mkM z S (uM mpB) 0))) =
    (((mpB = mpB ∧ (50 : Nat) = (50 : Nat) ∧ (RG z) ∧ S = S) ∧ True) ∧ ∀ (y : PX), ((RG y) ∧ True) ∧ True ∧ True → True ∧ (mpB = mpB ∧ (50 : Nat) = (50 : Nat) ∧ (((0 : Int) ≤
      y.n (100000 : Nat) ∧ y.n (100000 : Nat) ≤ (2199023255552 : Int)) ∧ ((0 : Int) ≤ y.n (100004 : Nat) ∧ y.n (100004 : Nat) ≤ (2047 : Int)) ∧ ((0 : Int) ≤ y.n (100005 : Nat) ∧
      y.n (100005 : Nat) ≤ (63 : Int)) ∧ ((0 : Int) ≤ y.n (100006 : Nat) ∧ y.n (100006 : Nat) ≤ (16777216 : Int)) ∧ ((0 : Int) ≤ y.n (100007 : Nat) ∧ y.n (100007 : Nat) ≤ (3 :
      Int)) ∧ ((0 : Int) ≤ y.n (100008 : Nat) ∧ y.n (100008 : Nat) ≤ (15 : Int)) ∧ ((0 : Int) ≤ y.n (100011 : Nat) ∧ y.n (100011 : Nat) ≤ (15 : Int)) ∧ ((0 : Int) ≤ y.n (100016
      : Nat) ∧ y.n (100016 : Nat) ≤ (2047 : Int)) ∧ ((0 : Int) ≤ y.n (100017 : Nat) ∧ y.n (100017 : Nat) ≤ (63 : Int)) ∧ ((0 : Int) ≤ y.n (100018 : Nat) ∧ y.n (100018 : Nat) ≤
      (16777216 : Int)) ∧ ((0 : Int) ≤ y.n (100019 : Nat) ∧ y.n (100019 : Nat) ≤ (3 : Int)) ∧ ((0 : Int) ≤ y.n (100020 : Nat) ∧ y.n (100020 : Nat) ≤ (15 : Int)) ∧ ((0 : Int) ≤
      y.n (100023 : Nat) ∧ y.n (100023 : Nat) ≤ (15 : Int)) ∧ ((0 : Int) ≤ y.n (100028 : Nat) ∧ y.n (100028 : Nat) ≤ (2047 : Int)) ∧ ((0 : Int) ≤ y.n (100029 : Nat) ∧ y.n
      (100029 : Nat) ≤ (63 : Int)) ∧ ((0 : Int) ≤ y.n (100030 : Nat) ∧ y.n (100030 : Nat) ≤ (16777216 : Int)) ∧ ((0 : Int) ≤ y.n (100031 : Nat) ∧ y.n (100031 : Nat) ≤ (3 : Int))
      ∧ ((0 : Int) ≤ y.n (100032 : Nat) ∧ y.n (100032 : Nat) ≤ (15 : Int)) ∧ ((0 : Int) ≤ y.n (100035 : Nat) ∧ y.n (100035 : Nat) ≤ (15 : Int)) ∧ ((0 : Int) ≤ y.n (100040 : Nat)
      ∧ y.n (100040 : Nat) ≤ (2047 : Int)) ∧ ((0 : Int) ≤ y.n (100041 : Nat) ∧ y.n (100041 : Nat) ≤ (63 : Int)) ∧ ((0 : Int) ≤ y.n (100042 : Nat) ∧ y.n (100042 : Nat) ≤
      (16777216 : Int)) ∧ ((0 : Int) ≤ y.n (100043 : Nat) ∧ y.n (100043 : Nat) ≤ (3 : Int)) ∧ ((0 : Int) ≤ y.n (100044 : Nat) ∧ y.n (100044 : Nat) ≤ (15 : Int)) ∧ ((0 : Int) ≤
      y.n (100047 : Nat) ∧ y.n (100047 : Nat) ≤ (15 : Int)) ∧ ((0 : Int) ≤ IntKind.i64.wrap (bits BinOp.and IntKind.u16 x (7 : Int)) ∧ IntKind.i64.wrap (bits BinOp.and
      IntKind.u16 x (7 : Int)) ≤ (7 : Int)) ∧ ((0 : Int) ≤ y.n (100086 : Nat) ∧ y.n (100086 : Nat) ≤ (1 : Int)) ∧ ((0 : Int) ≤ y.n (100088 : Nat) ∧ y.n (100088 : Nat) ≤ (4 :
      Int)) ∧ ((0 : Int) ≤ y.n (100092 : Nat) ∧ y.n (100092 : Nat) ≤ (15 : Int)) ∧ ((0 : Int) ≤ y.n (100093 : Nat) ∧ y.n (100093 : Nat) ≤ (7 : Int)) ∧ True) ∧ S = S) ∧ True) := by kernel_rfl
set_option maxHeartbeats 2000000 in
theorem wr0_c (E : World) (S : SW) (k : Int) (x : Int) (z : PX) (hz : rgM z (uM mpB) 0) (hp : (fun _ => 0 ≤ x ∧ x ≤ 65535) z) : HC (pe E) 8 [.c (.p 1 0), .c (.i false .i64 k), .c (.i true .i64 0), .c (.i false .u16 x)] (uM mpB) S (.t []) (fun _ _ => True) z := by
  refine HC.mk false (by rfl) (by rfl) (by rfl) (by rfl) (fnTree_sound (P := pe E) orcS_ok tab_ok tab_sz mixed 20000 Try.func8 (by decide) [.c (.p 1 0), .c (.i false .i64 k), .c (.i true .i64 0), .c (.i false .u16 x)] _) ⟨?_⟩
  rw [wr0_p]
  obtain ⟨h0, h4, h5, h6, h7, h8, h11, h16, h17, h18, h19, h20, h23, h28, h29, h30, h31, h32, h35, h40, h41, h42, h43, h44, h47, h50, h86, h88, h92, h93, _⟩ := rg_u hz
  obtain ⟨p1, p2⟩ := hp
  (repeat' (first | assumption | exact trivial | exact rfl | apply And.intro | (rintro y ⟨⟨⟨h0, h4, h5, h6, h7, h8, h11, h16, h17, h18, h19, h20, h23, h28, h29, h30, h31, h32, h35, h40, h41, h42, h43, h44, h47, h50, h86, h88, h92, h93, _⟩, _⟩, _, hq⟩; (try rw [hq])) | (rintro y ⟨⟨hr, _⟩, hq⟩) | intro _)) <;> ((try simp only [inB, f4096, f64, f2048, f16, f8, f32, f128, f256, f8192, a1, a3, a7, a15, a63, a2047, wi64, wu16, Bool.not_eq_true', Bool.not_eq_false', Bool.and_eq_true, Bool.or_eq_true, beq_iff_eq, bne_iff_ne, ne_eq, beq_eq_false_iff_ne, bne_eq_false_iff_eq, decide_eq_true_eq, decide_eq_false_iff_not] at *) <;> (repeat' split) <;> omega)
theorem wr1_p (E : World) (S : SW) (z : PX) (k : Int) (x : Int) :
    (hoP false (uM mpB) S (.t []) (fun _ _ => True) z (fnTree (pe E) (orcS E) (tabL fns) 20000 Try.f8 [.c (.p 1 0), .c (.i false .i64 k), .c (.i true .i64 1), .c (.i false .u16 x)] (mkM z S (uM mpB) 0))) =
    (((mpB = mpB ∧ (50 : Nat) = (50 : Nat) ∧ (RG z) ∧ S = S) ∧ True) ∧ ∀ (y : PX), ((RG y) ∧ True) ∧ True ∧ True → ((IntKind.i64.wrap (x.fdiv (4096 : Int)) != (0 : Int)) = true
      → True ∧ (mpB = mpB ∧ (50 : Nat) = (50 : Nat) ∧ (((0 : Int) ≤ y.n (100000 : Nat) ∧ y.n (100000 : Nat) ≤ (2199023255552 : Int)) ∧ ((0 : Int) ≤ y.n (100004 : Nat) ∧ y.n
      (100004 : Nat) ≤ (2047 : Int)) ∧ ((0 : Int) ≤ y.n (100005 : Nat) ∧ y.n (100005 : Nat) ≤ (63 : Int)) ∧ ((0 : Int) ≤ y.n (100006 : Nat) ∧ y.n (100006 : Nat) ≤ (16777216 :
      Int)) ∧ ((0 : Int) ≤ IntKind.i64.wrap (bits BinOp.and IntKind.u16 (x.fdiv (64 : Int)) (3 : Int)) ∧ IntKind.i64.wrap (bits BinOp.and IntKind.u16 (x.fdiv (64 : Int)) (3 :
      Int)) ≤ (3 : Int)) ∧ ((0 : Int) ≤ IntKind.i64.wrap (x.fdiv (4096 : Int)) ∧ IntKind.i64.wrap (x.fdiv (4096 : Int)) ≤ (15 : Int)) ∧ ((0 : Int) ≤ y.n (100011 : Nat) ∧ y.n
      (100011 : Nat) ≤ (15 : Int)) ∧ ((0 : Int) ≤ y.n (100016 : Nat) ∧ y.n (100016 : Nat) ≤ (2047 : Int)) ∧ ((0 : Int) ≤ y.n (100017 : Nat) ∧ y.n (100017 : Nat) ≤ (63 : Int)) ∧
      ((0 : Int) ≤ y.n (100018 : Nat) ∧ y.n (100018 : Nat) ≤ (16777216 : Int)) ∧ ((0 : Int) ≤ y.n (100019 : Nat) ∧ y.n (100019 : Nat) ≤ (3 : Int)) ∧ ((0 : Int) ≤ y.n (100020 :
      Nat) ∧ y.n (100020 : Nat) ≤ (15 : Int)) ∧ ((0 : Int) ≤ y.n (100023 : Nat) ∧ y.n (100023 : Nat) ≤ (15 : Int)) ∧ ((0 : Int) ≤ y.n (100028 : Nat) ∧ y.n (100028 : Nat) ≤ (2047
      : Int)) ∧ ((0 : Int) ≤ y.n (100029 : Nat) ∧ y.n (100029 : Nat) ≤ (63 : Int)) ∧ ((0 : Int) ≤ y.n (100030 : Nat) ∧ y.n (100030 : Nat) ≤ (16777216 : Int)) ∧ ((0 : Int) ≤ y.n
      (100031 : Nat) ∧ y.n (100031 : Nat) ≤ (3 : Int)) ∧ ((0 : Int) ≤ y.n (100032 : Nat) ∧ y.n (100032 : Nat) ≤ (15 : Int)) ∧ ((0 : Int) ≤ y.n (100035 : Nat) ∧ y.n (100035 :
      Nat) ≤ (15 : Int)) ∧ ((0 : Int) ≤ y.n (100040 : Nat) ∧ y.n (100040 : Nat) ≤ (2047 : Int)) ∧ ((0 : Int) ≤ y.n (100041 : Nat) ∧ y.n (100041 : Nat) ≤ (63 : Int)) ∧ ((0 : Int)
      ≤ y.n (100042 : Nat) ∧ y.n (100042 : Nat) ≤ (16777216 : Int)) ∧ ((0 : Int) ≤ y.n (100043 : Nat) ∧ y.n (100043 : Nat) ≤ (3 : Int)) ∧ ((0 : Int) ≤ y.n (100044 : Nat) ∧ y.n
      (100044 : Nat) ≤ (15 : Int)) ∧ ((0 : Int) ≤ y.n (100047 : Nat) ∧ y.n (100047 : Nat) ≤ (15 : Int)) ∧ ((0 : Int) ≤ y.n (100050 : Nat) ∧ y.n (100050 : Nat) ≤ (7 : Int)) ∧ ((0
      : Int) ≤ y.n (100086 : Nat) ∧ y.n (100086 : Nat) ≤ (1 : Int)) ∧ ((0 : Int) ≤ y.n (100088 : Nat) ∧ y.n (100088 : Nat) ≤ (4 : Int)) ∧ ((0 : Int) ≤ y.n (100092 : Nat) ∧ y.n
      (100092 : Nat) ≤ (15 : Int)) ∧ ((0 : Int) ≤ y.n (100093 : Nat) ∧ y.n (100093 : Nat) ≤ (7 : Int)) ∧ True) ∧ S = S) ∧ True) ∧ ((IntKind.i64.wrap (x.fdiv (4096 : Int)) != (0
      : Int)) = false → ((!bits BinOp.and IntKind.u16 (x.fdiv (2048 : Int)) (1 : Int) != (0 : Int)) = true → True ∧ (mpB = mpB ∧ (50 : Nat) = (50 : Nat) ∧ (((0 : Int) ≤ y.n
      (100000 : Nat) ∧ y.n (100000 : Nat) ≤ (2199023255552 : Int)) ∧ ((0 : Int) ≤ y.n (100004 : Nat) ∧ y.n (100004 : Nat) ≤ (2047 : Int)) ∧ ((0 : Int) ≤ y.n (100005 : Nat) ∧ y.n
      (100005 : Nat) ≤ (63 : Int)) ∧ ((0 : Int) ≤ y.n (100006 : Nat) ∧ y.n (100006 : Nat) ≤ (16777216 : Int)) ∧ ((0 : Int) ≤ IntKind.i64.wrap (bits BinOp.and IntKind.u16 (x.fdiv
      (64 : Int)) (3 : Int)) ∧ IntKind.i64.wrap (bits BinOp.and IntKind.u16 (x.fdiv (64 : Int)) (3 : Int)) ≤ (3 : Int)) ∧ ((0 : Int) ≤ IntKind.i64.wrap (x.fdiv (4096 : Int)) ∧
      IntKind.i64.wrap (x.fdiv (4096 : Int)) ≤ (15 : Int)) ∧ ((0 : Int) ≤ y.n (100011 : Nat) ∧ y.n (100011 : Nat) ≤ (15 : Int)) ∧ ((0 : Int) ≤ y.n (100016 : Nat) ∧ y.n (100016 :
      Nat) ≤ (2047 : Int)) ∧ ((0 : Int) ≤ y.n (100017 : Nat) ∧ y.n (100017 : Nat) ≤ (63 : Int)) ∧ ((0 : Int) ≤ y.n (100018 : Nat) ∧ y.n (100018 : Nat) ≤ (16777216 : Int)) ∧ ((0
      : Int) ≤ y.n (100019 : Nat) ∧ y.n (100019 : Nat) ≤ (3 : Int)) ∧ ((0 : Int) ≤ y.n (100020 : Nat) ∧ y.n (100020 : Nat) ≤ (15 : Int)) ∧ ((0 : Int) ≤ y.n (100023 : Nat) ∧ y.n
      (100023 : Nat) ≤ (15 : Int)) ∧ ((0 : Int) ≤ y.n (100028 : Nat) ∧ y.n (100028 : Nat) ≤ (2047 : Int)) ∧ ((0 : Int) ≤ y.n (100029 : Nat) ∧ y.n (100029 : Nat) ≤ (63 : Int)) ∧
      ((0 : Int) ≤ y.n (100030 : Nat) ∧ y.n (100030 : Nat) ≤ (16777216 : Int)) ∧ ((0 : Int) ≤ y.n (100031 : Nat) ∧ y.n (100031 : Nat) ≤ (3 : Int)) ∧ ((0 : Int) ≤ y.n (100032 :
      Nat) ∧ y.n (100032 : Nat) ≤ (15 : Int)) ∧ ((0 : Int) ≤ y.n (100035 : Nat) ∧ y.n (100035 : Nat) ≤ (15 : Int)) ∧ ((0 : Int) ≤ y.n (100040 : Nat) ∧ y.n (100040 : Nat) ≤ (2047
      : Int)) ∧ ((0 : Int) ≤ y.n (100041 : Nat) ∧ y.n (100041 : Nat) ≤ (63 : Int)) ∧ ((0 : Int) ≤ y.n (100042 : Nat) ∧ y.n (100042 : Nat) ≤ (16777216 : Int)) ∧ ((0 : Int) ≤ y.n
      (100043 : Nat) ∧ y.n (100043 : Nat) ≤ (3 : Int)) ∧ ((0 : Int) ≤ y.n (100044 : Nat) ∧ y.n (100044 : Nat) ≤ (15 : Int)) ∧ ((0 : Int) ≤ y.n (100047 : Nat) ∧ y.n (100047 :
      Nat) ≤ (15 : Int)) ∧ ((0 : Int) ≤ y.n (100050 : Nat) ∧ y.n (100050 : Nat) ≤ (7 : Int)) ∧ ((0 : Int) ≤ y.n (100086 : Nat) ∧ y.n (100086 : Nat) ≤ (1 : Int)) ∧ ((0 : Int) ≤
      y.n (100088 : Nat) ∧ y.n (100088 : Nat) ≤ (4 : Int)) ∧ ((0 : Int) ≤ y.n (100092 : Nat) ∧ y.n (100092 : Nat) ≤ (15 : Int)) ∧ ((0 : Int) ≤ y.n (100093 : Nat) ∧ y.n (100093 :
      Nat) ≤ (7 : Int)) ∧ True) ∧ S = S) ∧ True) ∧ ((!bits BinOp.and IntKind.u16 (x.fdiv (2048 : Int)) (1 : Int) != (0 : Int)) = false → True ∧ (mpB = mpB ∧ (50 : Nat) = (50 :
      Nat) ∧ (((0 : Int) ≤ y.n (100000 : Nat) ∧ y.n (100000 : Nat) ≤ (2199023255552 : Int)) ∧ ((0 : Int) ≤ y.n (100004 : Nat) ∧ y.n (100004 : Nat) ≤ (2047 : Int)) ∧ ((0 : Int) ≤
      y.n (100005 : Nat) ∧ y.n (100005 : Nat) ≤ (63 : Int)) ∧ ((0 : Int) ≤ y.n (100006 : Nat) ∧ y.n (100006 : Nat) ≤ (16777216 : Int)) ∧ ((0 : Int) ≤ IntKind.i64.wrap (bits
      BinOp.and IntKind.u16 (x.fdiv (64 : Int)) (3 : Int)) ∧ IntKind.i64.wrap (bits BinOp.and IntKind.u16 (x.fdiv (64 : Int)) (3 : Int)) ≤ (3 : Int)) ∧ ((0 : Int) ≤
      IntKind.i64.wrap (x.fdiv (4096 : Int)) ∧ IntKind.i64.wrap (x.fdiv (4096 : Int)) ≤ (15 : Int)) ∧ ((0 : Int) ≤ y.n (100011 : Nat) ∧ y.n (100011 : Nat) ≤ (15 : Int)) ∧ ((0 :
      Int) ≤ y.n (100016 : Nat) ∧ y.n (100016 : Nat) ≤ (2047 : Int)) ∧ ((0 : Int) ≤ y.n (100017 : Nat) ∧ y.n (100017 : Nat) ≤ (63 : Int)) ∧ ((0 : Int) ≤ y.n (100018 : Nat) ∧ y.n
      (100018 : Nat) ≤ (16777216 : Int)) ∧ ((0 : Int) ≤ y.n (100019 : Nat) ∧ y.n (100019 : Nat) ≤ (3 : Int)) ∧ ((0 : Int) ≤ y.n (100020 : Nat) ∧ y.n (100020 : Nat) ≤ (15 : Int))
      ∧ ((0 : Int) ≤ y.n (100023 : Nat) ∧ y.n (100023 : Nat) ≤ (15 : Int)) ∧ ((0 : Int) ≤ y.n (100028 : Nat) ∧ y.n (100028 : Nat) ≤ (2047 : Int)) ∧ ((0 : Int) ≤ y.n (100029 :
      Nat) ∧ y.n (100029 : Nat) ≤ (63 : Int)) ∧ ((0 : Int) ≤ y.n (100030 : Nat) ∧ y.n (100030 : Nat) ≤ (16777216 : Int)) ∧ ((0 : Int) ≤ y.n (100031 : Nat) ∧ y.n (100031 : Nat) ≤
      (3 : Int)) ∧ ((0 : Int) ≤ y.n (100032 : Nat) ∧ y.n (100032 : Nat) ≤ (15 : Int)) ∧ ((0 : Int) ≤ y.n (100035 : Nat) ∧ y.n (100035 : Nat) ≤ (15 : Int)) ∧ ((0 : Int) ≤ y.n
      (100040 : Nat) ∧ y.n (100040 : Nat) ≤ (2047 : Int)) ∧ ((0 : Int) ≤ y.n (100041 : Nat) ∧ y.n (100041 : Nat) ≤ (63 : Int)) ∧ ((0 : Int) ≤ y.n (100042 : Nat) ∧ y.n (100042 :
      Nat) ≤ (16777216 : Int)) ∧ ((0 : Int) ≤ y.n (100043 : Nat) ∧ y.n (100043 : Nat) ≤ (3 : Int)) ∧ ((0 : Int) ≤ y.n (100044 : Nat) ∧ y.n (100044 : Nat) ≤ (15 : Int)) ∧ ((0 :
      Int) ≤ y.n (100047 : Nat) ∧ y.n (100047 : Nat) ≤ (15 : Int)) ∧ ((0 : Int) ≤ y.n (100050 : Nat) ∧ y.n (100050 : Nat) ≤ (7 : Int)) ∧ ((0 : Int) ≤ y.n (100086 : Nat) ∧ y.n
      (100086 : Nat) ≤ (1 : Int)) ∧ ((0 : Int) ≤ y.n (100088 : Nat) ∧ y.n (100088 : Nat) ≤ (4 : Int)) ∧ ((0 : Int) ≤ y.n (100092 : Nat) ∧ y.n (100092 : Nat) ≤ (15 : Int)) ∧ ((0
      : Int) ≤ y.n (100093 : Nat) ∧ y.n (100093 : Nat) ≤ (7 : Int)) ∧ True) ∧ S = S) ∧ True))) := by kernel_rfl
set_option maxHeartbeats 2000000 in
theorem wr1_c (E : World) (S : SW) (k : Int) (x : Int) (z : PX) (hz : rgM z (uM mpB) 0) (hp : (fun _ => 0 ≤ x ∧ x ≤ 65535) z) : HC (pe E) 8 [.c (.p 1 0), .c (.i false .i64 k), .c (.i true .i64 1), .c (.i false .u16 x)] (uM mpB) S (.t []) (fun _ _ => True) z := by
  refine HC.mk false (by rfl) (by rfl) (by rfl) (by rfl) (fnTree_sound (P := pe E) orcS_ok tab_ok tab_sz mixed 20000 Try.func8 (by decide) [.c (.p 1 0), .c (.i false .i64 k), .c (.i true .i64 1), .c (.i false .u16 x)] _) ⟨?_⟩
  rw [wr1_p]
  obtain ⟨h0, h4, h5, h6, h7, h8, h11, h16, h17, h18, h19, h20, h23, h28, h29, h30, h31, h32, h35, h40, h41, h42, h43, h44, h47, h50, h86, h88, h92, h93, _⟩ := rg_u hz
  obtain ⟨p1, p2⟩ := hp
  (repeat' (first | assumption | exact trivial | exact rfl | apply And.intro | (rintro y ⟨⟨⟨h0, h4, h5, h6, h7, h8, h11, h16, h17, h18, h19, h20, h23, h28, h29, h30, h31, h32, h35, h40, h41, h42, h43, h44, h47, h50, h86, h88, h92, h93, _⟩, _⟩, _, hq⟩; (try rw [hq])) | (rintro y ⟨⟨hr, _⟩, hq⟩) | intro _)) <;> ((try simp only [inB, f4096, f64, f2048, f16, f8, f32, f128, f256, f8192, a1, a3, a7, a15, a63, a2047, wi64, wu16, Bool.not_eq_true', Bool.not_eq_false', Bool.and_eq_true, Bool.or_eq_true, beq_iff_eq, bne_iff_ne, ne_eq, beq_eq_false_iff_ne, bne_eq_false_iff_eq, decide_eq_true_eq, decide_eq_false_iff_not] at *) <;> (repeat' split) <;> omega)
theorem wr2_p (E : World) (S : SW) (z : PX) (k : Int) (x : Int) :
    (hoP false (uM mpB) S (.t []) (fun _ _ => True) z (fnTree (pe E) (orcS E) (tabL fns) 20000 Try.f8 [.c (.p 1 0), .c (.i false .i64 k), .c (.i true .i64 2), .c (.i false .u16 x)] (mkM z S (uM mpB) 0))) =
    (((mpB = mpB ∧ (50 : Nat) = (50 : Nat) ∧ (RG z) ∧ S = S) ∧ True) ∧ ∀ (y : PX), ((RG y) ∧ True) ∧ True ∧ True → ((bits BinOp.and IntKind.u16 x (32768 : Int) == (0 : Int)) =
      true → True ∧ (mpB = mpB ∧ (50 : Nat) = (50 : Nat) ∧ (((0 : Int) ≤ y.n (100000 : Nat) ∧ y.n (100000 : Nat) ≤ (2199023255552 : Int)) ∧ ((0 : Int) ≤ IntKind.i64.wrap (bits
      BinOp.and IntKind.u16 x (2047 : Int)) ∧ IntKind.i64.wrap (bits BinOp.and IntKind.u16 x (2047 : Int)) ≤ (2047 : Int)) ∧ ((0 : Int) ≤ y.n (100005 : Nat) ∧ y.n (100005 : Nat)
      ≤ (63 : Int)) ∧ ((0 : Int) ≤ y.n (100006 : Nat) ∧ y.n (100006 : Nat) ≤ (16777216 : Int)) ∧ ((0 : Int) ≤ y.n (100007 : Nat) ∧ y.n (100007 : Nat) ≤ (3 : Int)) ∧ ((0 : Int) ≤
      y.n (100008 : Nat) ∧ y.n (100008 : Nat) ≤ (15 : Int)) ∧ ((0 : Int) ≤ y.n (100011 : Nat) ∧ y.n (100011 : Nat) ≤ (15 : Int)) ∧ ((0 : Int) ≤ y.n (100016 : Nat) ∧ y.n (100016
      : Nat) ≤ (2047 : Int)) ∧ ((0 : Int) ≤ y.n (100017 : Nat) ∧ y.n (100017 : Nat) ≤ (63 : Int)) ∧ ((0 : Int) ≤ y.n (100018 : Nat) ∧ y.n (100018 : Nat) ≤ (16777216 : Int)) ∧
      ((0 : Int) ≤ y.n (100019 : Nat) ∧ y.n (100019 : Nat) ≤ (3 : Int)) ∧ ((0 : Int) ≤ y.n (100020 : Nat) ∧ y.n (100020 : Nat) ≤ (15 : Int)) ∧ ((0 : Int) ≤ y.n (100023 : Nat) ∧
      y.n (100023 : Nat) ≤ (15 : Int)) ∧ ((0 : Int) ≤ y.n (100028 : Nat) ∧ y.n (100028 : Nat) ≤ (2047 : Int)) ∧ ((0 : Int) ≤ y.n (100029 : Nat) ∧ y.n (100029 : Nat) ≤ (63 :
      Int)) ∧ ((0 : Int) ≤ y.n (100030 : Nat) ∧ y.n (100030 : Nat) ≤ (16777216 : Int)) ∧ ((0 : Int) ≤ y.n (100031 : Nat) ∧ y.n (100031 : Nat) ≤ (3 : Int)) ∧ ((0 : Int) ≤ y.n
      (100032 : Nat) ∧ y.n (100032 : Nat) ≤ (15 : Int)) ∧ ((0 : Int) ≤ y.n (100035 : Nat) ∧ y.n (100035 : Nat) ≤ (15 : Int)) ∧ ((0 : Int) ≤ y.n (100040 : Nat) ∧ y.n (100040 :
      Nat) ≤ (2047 : Int)) ∧ ((0 : Int) ≤ y.n (100041 : Nat) ∧ y.n (100041 : Nat) ≤ (63 : Int)) ∧ ((0 : Int) ≤ y.n (100042 : Nat) ∧ y.n (100042 : Nat) ≤ (16777216 : Int)) ∧ ((0
      : Int) ≤ y.n (100043 : Nat) ∧ y.n (100043 : Nat) ≤ (3 : Int)) ∧ ((0 : Int) ≤ y.n (100044 : Nat) ∧ y.n (100044 : Nat) ≤ (15 : Int)) ∧ ((0 : Int) ≤ y.n (100047 : Nat) ∧ y.n
      (100047 : Nat) ≤ (15 : Int)) ∧ ((0 : Int) ≤ y.n (100050 : Nat) ∧ y.n (100050 : Nat) ≤ (7 : Int)) ∧ ((0 : Int) ≤ y.n (100086 : Nat) ∧ y.n (100086 : Nat) ≤ (1 : Int)) ∧ ((0
      : Int) ≤ y.n (100088 : Nat) ∧ y.n (100088 : Nat) ≤ (4 : Int)) ∧ ((0 : Int) ≤ y.n (100092 : Nat) ∧ y.n (100092 : Nat) ≤ (15 : Int)) ∧ ((0 : Int) ≤ y.n (100093 : Nat) ∧ y.n
      (100093 : Nat) ≤ (7 : Int)) ∧ True) ∧ S = S) ∧ True) ∧ ((bits BinOp.and IntKind.u16 x (32768 : Int) == (0 : Int)) = false → ((y.n (100008 : Nat) != (0 : Int)) = true →
      ((y.n (100002 : Nat) == (0 : Int)) = true → ((mpB = mpB ∧ (50 : Nat) = (50 : Nat) ∧ (((0 : Int) ≤ y.n (100000 : Nat) ∧ y.n (100000 : Nat) ≤ (2199023255552 : Int)) ∧ ((0 :
      Int) ≤ IntKind.i64.wrap (bits BinOp.and IntKind.u16 x (2047 : Int)) ∧ IntKind.i64.wrap (bits BinOp.and IntKind.u16 x (2047 : Int)) ≤ (2047 : Int)) ∧ ((0 : Int) ≤ (0 : Int)
      ∧ (0 : Int) ≤ (63 : Int)) ∧ ((0 : Int) ≤ y.n (100007 : Nat) ∧ y.n (100007 : Nat) ≤ (3 : Int)) ∧ ((0 : Int) ≤ y.n (100008 : Nat) ∧ y.n (100008 : Nat) ≤ (15 : Int)) ∧ ((0 :
      Int) ≤ y.n (100008 : Nat) ∧ y.n (100008 : Nat) ≤ (15 : Int)) ∧ ((0 : Int) ≤ y.n (100016 : Nat) ∧ y.n (100016 : Nat) ≤ (2047 : Int)) ∧ ((0 : Int) ≤ y.n (100017 : Nat) ∧ y.n
      (100017 : Nat) ≤ (63 : Int)) ∧ ((0 : Int) ≤ y.n (100019 : Nat) ∧ y.n (100019 : Nat) ≤ (3 : Int)) ∧ ((0 : Int) ≤ y.n (100020 : Nat) ∧ y.n (100020 : Nat) ≤ (15 : Int)) ∧ ((0
      : Int) ≤ y.n (100023 : Nat) ∧ y.n (100023 : Nat) ≤ (15 : Int)) ∧ ((0 : Int) ≤ y.n (100028 : Nat) ∧ y.n (100028 : Nat) ≤ (2047 : Int)) ∧ ((0 : Int) ≤ y.n (100029 : Nat) ∧
      y.n (100029 : Nat) ≤ (63 : Int)) ∧ ((0 : Int) ≤ y.n (100031 : Nat) ∧ y.n (100031 : Nat) ≤ (3 : Int)) ∧ ((0 : Int) ≤ y.n (100032 : Nat) ∧ y.n (100032 : Nat) ≤ (15 : Int)) ∧
      ((0 : Int) ≤ y.n (100035 : Nat) ∧ y.n (100035 : Nat) ≤ (15 : Int)) ∧ ((0 : Int) ≤ y.n (100040 : Nat) ∧ y.n (100040 : Nat) ≤ (2047 : Int)) ∧ ((0 : Int) ≤ y.n (100041 : Nat)
      ∧ y.n (100041 : Nat) ≤ (63 : Int)) ∧ ((0 : Int) ≤ y.n (100043 : Nat) ∧ y.n (100043 : Nat) ≤ (3 : Int)) ∧ ((0 : Int) ≤ y.n (100044 : Nat) ∧ y.n (100044 : Nat) ≤ (15 : Int))
      ∧ ((0 : Int) ≤ y.n (100047 : Nat) ∧ y.n (100047 : Nat) ≤ (15 : Int)) ∧ ((0 : Int) ≤ y.n (100050 : Nat) ∧ y.n (100050 : Nat) ≤ (7 : Int)) ∧ ((0 : Int) ≤ y.n (100086 : Nat)
      ∧ y.n (100086 : Nat) ≤ (1 : Int)) ∧ ((0 : Int) ≤ y.n (100088 : Nat) ∧ y.n (100088 : Nat) ≤ (4 : Int)) ∧ ((0 : Int) ≤ y.n (100092 : Nat) ∧ y.n (100092 : Nat) ≤ (15 : Int))
      ∧ ((0 : Int) ≤ y.n (100093 : Nat) ∧ y.n (100093 : Nat) ≤ (7 : Int)) ∧ True) ∧ S = S) ∧ True) ∧ ∀ (y_1 : PX), (((1 : Int) ≤ y_1.n (90000 : Nat) ∧ y_1.n (90000 : Nat) ≤
      (16777216 : Int)) ∧ True) ∧ True → True ∧ (mpB = mpB ∧ (50 : Nat) = (50 : Nat) ∧ (((0 : Int) ≤ y.n (100000 : Nat) ∧ y.n (100000 : Nat) ≤ (2199023255552 : Int)) ∧ ((0 :
      Int) ≤ IntKind.i64.wrap (bits BinOp.and IntKind.u16 x (2047 : Int)) ∧ IntKind.i64.wrap (bits BinOp.and IntKind.u16 x (2047 : Int)) ≤ (2047 : Int)) ∧ ((0 : Int) ≤ (0 : Int)
      ∧ (0 : Int) ≤ (63 : Int)) ∧ ((0 : Int) ≤ y_1.n (90000 : Nat) ∧ y_1.n (90000 : Nat) ≤ (16777216 : Int)) ∧ ((0 : Int) ≤ y.n (100007 : Nat) ∧ y.n (100007 : Nat) ≤ (3 : Int))
      ∧ ((0 : Int) ≤ y.n (100008 : Nat) ∧ y.n (100008 : Nat) ≤ (15 : Int)) ∧ ((0 : Int) ≤ y.n (100008 : Nat) ∧ y.n (100008 : Nat) ≤ (15 : Int)) ∧ ((0 : Int) ≤ y.n (100016 : Nat)
      ∧ y.n (100016 : Nat) ≤ (2047 : Int)) ∧ ((0 : Int) ≤ y.n (100017 : Nat) ∧ y.n (100017 : Nat) ≤ (63 : Int)) ∧ ((0 : Int) ≤ y.n (100018 : Nat) ∧ y.n (100018 : Nat) ≤
      (16777216 : Int)) ∧ ((0 : Int) ≤ y.n (100019 : Nat) ∧ y.n (100019 : Nat) ≤ (3 : Int)) ∧ ((0 : Int) ≤ y.n (100020 : Nat) ∧ y.n (100020 : Nat) ≤ (15 : Int)) ∧ ((0 : Int) ≤
      y.n (100023 : Nat) ∧ y.n (100023 : Nat) ≤ (15 : Int)) ∧ ((0 : Int) ≤ y.n (100028 : Nat) ∧ y.n (100028 : Nat) ≤ (2047 : Int)) ∧ ((0 : Int) ≤ y.n (100029 : Nat) ∧ y.n
      (100029 : Nat) ≤ (63 : Int)) ∧ ((0 : Int) ≤ y.n (100030 : Nat) ∧ y.n (100030 : Nat) ≤ (16777216 : Int)) ∧ ((0 : Int) ≤ y.n (100031 : Nat) ∧ y.n (100031 : Nat) ≤ (3 : Int))
      ∧ ((0 : Int) ≤ y.n (100032 : Nat) ∧ y.n (100032 : Nat) ≤ (15 : Int)) ∧ ((0 : Int) ≤ y.n (100035 : Nat) ∧ y.n (100035 : Nat) ≤ (15 : Int)) ∧ ((0 : Int) ≤ y.n (100040 : Nat)
      ∧ y.n (100040 : Nat) ≤ (2047 : Int)) ∧ ((0 : Int) ≤ y.n (100041 : Nat) ∧ y.n (100041 : Nat) ≤ (63 : Int)) ∧ ((0 : Int) ≤ y.n (100042 : Nat) ∧ y.n (100042 : Nat) ≤
      (16777216 : Int)) ∧ ((0 : Int) ≤ y.n (100043 : Nat) ∧ y.n (100043 : Nat) ≤ (3 : Int)) ∧ ((0 : Int) ≤ y.n (100044 : Nat) ∧ y.n (100044 : Nat) ≤ (15 : Int)) ∧ ((0 : Int) ≤
      y.n (100047 : Nat) ∧ y.n (100047 : Nat) ≤ (15 : Int)) ∧ ((0 : Int) ≤ y.n (100050 : Nat) ∧ y.n (100050 : Nat) ≤ (7 : Int)) ∧ ((0 : Int) ≤ y.n (100086 : Nat) ∧ y.n (100086 :
      Nat) ≤ (1 : Int)) ∧ ((0 : Int) ≤ y.n (100088 : Nat) ∧ y.n (100088 : Nat) ≤ (4 : Int)) ∧ ((0 : Int) ≤ y.n (100092 : Nat) ∧ y.n (100092 : Nat) ≤ (15 : Int)) ∧ ((0 : Int) ≤
      y.n (100093 : Nat) ∧ y.n (100093 : Nat) ≤ (7 : Int)) ∧ True) ∧ S = S) ∧ True) ∧ ((y.n (100002 : Nat) == (0 : Int)) = false → ((mpB = mpB ∧ (50 : Nat) = (50 : Nat) ∧ (((0 :
      Int) ≤ y.n (100000 : Nat) ∧ y.n (100000 : Nat) ≤ (2199023255552 : Int)) ∧ ((0 : Int) ≤ IntKind.i64.wrap (bits BinOp.and IntKind.u16 x (2047 : Int)) ∧ IntKind.i64.wrap
      (bits BinOp.and IntKind.u16 x (2047 : Int)) ≤ (2047 : Int)) ∧ ((0 : Int) ≤ (0 : Int) ∧ (0 : Int) ≤ (63 : Int)) ∧ ((0 : Int) ≤ y.n (100007 : Nat) ∧ y.n (100007 : Nat) ≤ (3
      : Int)) ∧ ((0 : Int) ≤ y.n (100008 : Nat) ∧ y.n (100008 : Nat) ≤ (15 : Int)) ∧ ((0 : Int) ≤ y.n (100008 : Nat) ∧ y.n (100008 : Nat) ≤ (15 : Int)) ∧ ((0 : Int) ≤ y.n
      (100016 : Nat) ∧ y.n (100016 : Nat) ≤ (2047 : Int)) ∧ ((0 : Int) ≤ y.n (100017 : Nat) ∧ y.n (100017 : Nat) ≤ (63 : Int)) ∧ ((0 : Int) ≤ y.n (100019 : Nat) ∧ y.n (100019 :
      Nat) ≤ (3 : Int)) ∧ ((0 : Int) ≤ y.n (100020 : Nat) ∧ y.n (100020 : Nat) ≤ (15 : Int)) ∧ ((0 : Int) ≤ y.n (100023 : Nat) ∧ y.n (100023 : Nat) ≤ (15 : Int)) ∧ ((0 : Int) ≤
      y.n (100028 : Nat) ∧ y.n (100028 : Nat) ≤ (2047 : Int)) ∧ ((0 : Int) ≤ y.n (100029 : Nat) ∧ y.n (100029 : Nat) ≤ (63 : Int)) ∧ ((0 : Int) ≤ y.n (100031 : Nat) ∧ y.n
      (100031 : Nat) ≤ (3 : Int)) ∧ ((0 : Int) ≤ y.n (100032 : Nat) ∧ y.n (100032 : Nat) ≤ (15 : Int)) ∧ ((0 : Int) ≤ y.n (100035 : Nat) ∧ y.n (100035 : Nat) ≤ (15 : Int)) ∧ ((0
      : Int) ≤ y.n (100040 : Nat) ∧ y.n (100040 : Nat) ≤ (2047 : Int)) ∧ ((0 : Int) ≤ y.n (100041 : Nat) ∧ y.n (100041 : Nat) ≤ (63 : Int)) ∧ ((0 : Int) ≤ y.n (100043 : Nat) ∧
      y.n (100043 : Nat) ≤ (3 : Int)) ∧ ((0 : Int) ≤ y.n (100044 : Nat) ∧ y.n (100044 : Nat) ≤ (15 : Int)) ∧ ((0 : Int) ≤ y.n (100047 : Nat) ∧ y.n (100047 : Nat) ≤ (15 : Int)) ∧
      ((0 : Int) ≤ y.n (100050 : Nat) ∧ y.n (100050 : Nat) ≤ (7 : Int)) ∧ ((0 : Int) ≤ y.n (100086 : Nat) ∧ y.n (100086 : Nat) ≤ (1 : Int)) ∧ ((0 : Int) ≤ y.n (100088 : Nat) ∧
      y.n (100088 : Nat) ≤ (4 : Int)) ∧ ((0 : Int) ≤ y.n (100092 : Nat) ∧ y.n (100092 : Nat) ≤ (15 : Int)) ∧ ((0 : Int) ≤ y.n (100093 : Nat) ∧ y.n (100093 : Nat) ≤ (7 : Int)) ∧
      True) ∧ S = S) ∧ True) ∧ ∀ (y_1 : PX), (((1 : Int) ≤ y_1.n (90000 : Nat) ∧ y_1.n (90000 : Nat) ≤ (16777216 : Int)) ∧ True) ∧ True → True ∧ (mpB = mpB ∧ (50 : Nat) = (50 :
      Nat) ∧ (((0 : Int) ≤ y.n (100000 : Nat) ∧ y.n (100000 : Nat) ≤ (2199023255552 : Int)) ∧ ((0 : Int) ≤ IntKind.i64.wrap (bits BinOp.and IntKind.u16 x (2047 : Int)) ∧
      IntKind.i64.wrap (bits BinOp.and IntKind.u16 x (2047 : Int)) ≤ (2047 : Int)) ∧ ((0 : Int) ≤ (0 : Int) ∧ (0 : Int) ≤ (63 : Int)) ∧ ((0 : Int) ≤ y_1.n (90000 : Nat) ∧ y_1.n
      (90000 : Nat) ≤ (16777216 : Int)) ∧ ((0 : Int) ≤ y.n (100007 : Nat) ∧ y.n (100007 : Nat) ≤ (3 : Int)) ∧ ((0 : Int) ≤ y.n (100008 : Nat) ∧ y.n (100008 : Nat) ≤ (15 : Int))
      ∧ ((0 : Int) ≤ y.n (100008 : Nat) ∧ y.n (100008 : Nat) ≤ (15 : Int)) ∧ ((0 : Int) ≤ y.n (100016 : Nat) ∧ y.n (100016 : Nat) ≤ (2047 : Int)) ∧ ((0 : Int) ≤ y.n (100017 :
      Nat) ∧ y.n (100017 : Nat) ≤ (63 : Int)) ∧ ((0 : Int) ≤ y.n (100018 : Nat) ∧ y.n (100018 : Nat) ≤ (16777216 : Int)) ∧ ((0 : Int) ≤ y.n (100019 : Nat) ∧ y.n (100019 : Nat) ≤
      (3 : Int)) ∧ ((0 : Int) ≤ y.n (100020 : Nat) ∧ y.n (100020 : Nat) ≤ (15 : Int)) ∧ ((0 : Int) ≤ y.n (100023 : Nat) ∧ y.n (100023 : Nat) ≤ (15 : Int)) ∧ ((0 : Int) ≤ y.n
      (100028 : Nat) ∧ y.n (100028 : Nat) ≤ (2047 : Int)) ∧ ((0 : Int) ≤ y.n (100029 : Nat) ∧ y.n (100029 : Nat) ≤ (63 : Int)) ∧ ((0 : Int) ≤ y.n (100030 : Nat) ∧ y.n (100030 :
      Nat) ≤ (16777216 : Int)) ∧ ((0 : Int) ≤ y.n (100031 : Nat) ∧ y.n (100031 : Nat) ≤ (3 : Int)) ∧ ((0 : Int) ≤ y.n (100032 : Nat) ∧ y.n (100032 : Nat) ≤ (15 : Int)) ∧ ((0 :
      Int) ≤ y.n (100035 : Nat) ∧ y.n (100035 : Nat) ≤ (15 : Int)) ∧ ((0 : Int) ≤ y.n (100040 : Nat) ∧ y.n (100040 : Nat) ≤ (2047 : Int)) ∧ ((0 : Int) ≤ y.n (100041 : Nat) ∧ y.n
      (100041 : Nat) ≤ (63 : Int)) ∧ ((0 : Int) ≤ y.n (100042 : Nat) ∧ y.n (100042 : Nat) ≤ (16777216 : Int)) ∧ ((0 : Int) ≤ y.n (100043 : Nat) ∧ y.n (100043 : Nat) ≤ (3 : Int))
      ∧ ((0 : Int) ≤ y.n (100044 : Nat) ∧ y.n (100044 : Nat) ≤ (15 : Int)) ∧ ((0 : Int) ≤ y.n (100047 : Nat) ∧ y.n (100047 : Nat) ≤ (15 : Int)) ∧ ((0 : Int) ≤ y.n (100050 : Nat)
      ∧ y.n (100050 : Nat) ≤ (7 : Int)) ∧ ((0 : Int) ≤ y.n (100086 : Nat) ∧ y.n (100086 : Nat) ≤ (1 : Int)) ∧ ((0 : Int) ≤ y.n (100088 : Nat) ∧ y.n (100088 : Nat) ≤ (4 : Int)) ∧
      ((0 : Int) ≤ y.n (100092 : Nat) ∧ y.n (100092 : Nat) ≤ (15 : Int)) ∧ ((0 : Int) ≤ y.n (100093 : Nat) ∧ y.n (100093 : Nat) ≤ (7 : Int)) ∧ True) ∧ S = S) ∧ True)) ∧ ((y.n
      (100008 : Nat) != (0 : Int)) = false → ((y.n (100002 : Nat) == (0 : Int)) = true → ((mpB = mpB ∧ (50 : Nat) = (50 : Nat) ∧ (((0 : Int) ≤ y.n (100000 : Nat) ∧ y.n (100000 :
      Nat) ≤ (2199023255552 : Int)) ∧ ((0 : Int) ≤ IntKind.i64.wrap (bits BinOp.and IntKind.u16 x (2047 : Int)) ∧ IntKind.i64.wrap (bits BinOp.and IntKind.u16 x (2047 : Int)) ≤
      (2047 : Int)) ∧ ((0 : Int) ≤ (0 : Int) ∧ (0 : Int) ≤ (63 : Int)) ∧ ((0 : Int) ≤ y.n (100007 : Nat) ∧ y.n (100007 : Nat) ≤ (3 : Int)) ∧ ((0 : Int) ≤ y.n (100008 : Nat) ∧
      y.n (100008 : Nat) ≤ (15 : Int)) ∧ ((0 : Int) ≤ y.n (100008 : Nat) ∧ y.n (100008 : Nat) ≤ (15 : Int)) ∧ ((0 : Int) ≤ y.n (100016 : Nat) ∧ y.n (100016 : Nat) ≤ (2047 :
      Int)) ∧ ((0 : Int) ≤ y.n (100017 : Nat) ∧ y.n (100017 : Nat) ≤ (63 : Int)) ∧ ((0 : Int) ≤ y.n (100019 : Nat) ∧ y.n (100019 : Nat) ≤ (3 : Int)) ∧ ((0 : Int) ≤ y.n (100020 :
      Nat) ∧ y.n (100020 : Nat) ≤ (15 : Int)) ∧ ((0 : Int) ≤ y.n (100023 : Nat) ∧ y.n (100023 : Nat) ≤ (15 : Int)) ∧ ((0 : Int) ≤ y.n (100028 : Nat) ∧ y.n (100028 : Nat) ≤ (2047
      : Int)) ∧ ((0 : Int) ≤ y.n (100029 : Nat) ∧ y.n (100029 : Nat) ≤ (63 : Int)) ∧ ((0 : Int) ≤ y.n (100031 : Nat) ∧ y.n (100031 : Nat) ≤ (3 : Int)) ∧ ((0 : Int) ≤ y.n (100032
      : Nat) ∧ y.n (100032 : Nat) ≤ (15 : Int)) ∧ ((0 : Int) ≤ y.n (100035 : Nat) ∧ y.n (100035 : Nat) ≤ (15 : Int)) ∧ ((0 : Int) ≤ y.n (100040 : Nat) ∧ y.n (100040 : Nat) ≤
      (2047 : Int)) ∧ ((0 : Int) ≤ y.n (100041 : Nat) ∧ y.n (100041 : Nat) ≤ (63 : Int)) ∧ ((0 : Int) ≤ y.n (100043 : Nat) ∧ y.n (100043 : Nat) ≤ (3 : Int)) ∧ ((0 : Int) ≤ y.n
      (100044 : Nat) ∧ y.n (100044 : Nat) ≤ (15 : Int)) ∧ ((0 : Int) ≤ y.n (100047 : Nat) ∧ y.n (100047 : Nat) ≤ (15 : Int)) ∧ ((0 : Int) ≤ y.n (100050 : Nat) ∧ y.n (100050 :
      Nat) ≤ (7 : Int)) ∧ ((0 : Int) ≤ y.n (100086 : Nat) ∧ y.n (100086 : Nat) ≤ (1 : Int)) ∧ ((0 : Int) ≤ y.n (100088 : Nat) ∧ y.n (100088 : Nat) ≤ (4 : Int)) ∧ ((0 : Int) ≤
      y.n (100092 : Nat) ∧ y.n (100092 : Nat) ≤ (15 : Int)) ∧ ((0 : Int) ≤ y.n (100093 : Nat) ∧ y.n (100093 : Nat) ≤ (7 : Int)) ∧ True) ∧ S = S) ∧ True) ∧ ∀ (y_1 : PX), (((1 :
      Int) ≤ y_1.n (90000 : Nat) ∧ y_1.n (90000 : Nat) ≤ (16777216 : Int)) ∧ True) ∧ True → True ∧ (mpB = mpB ∧ (50 : Nat) = (50 : Nat) ∧ (((0 : Int) ≤ y.n (100000 : Nat) ∧ y.n
      (100000 : Nat) ≤ (2199023255552 : Int)) ∧ ((0 : Int) ≤ IntKind.i64.wrap (bits BinOp.and IntKind.u16 x (2047 : Int)) ∧ IntKind.i64.wrap (bits BinOp.and IntKind.u16 x (2047
      : Int)) ≤ (2047 : Int)) ∧ ((0 : Int) ≤ (0 : Int) ∧ (0 : Int) ≤ (63 : Int)) ∧ ((0 : Int) ≤ y_1.n (90000 : Nat) ∧ y_1.n (90000 : Nat) ≤ (16777216 : Int)) ∧ ((0 : Int) ≤ y.n
      (100007 : Nat) ∧ y.n (100007 : Nat) ≤ (3 : Int)) ∧ ((0 : Int) ≤ y.n (100008 : Nat) ∧ y.n (100008 : Nat) ≤ (15 : Int)) ∧ ((0 : Int) ≤ y.n (100008 : Nat) ∧ y.n (100008 :
      Nat) ≤ (15 : Int)) ∧ ((0 : Int) ≤ y.n (100016 : Nat) ∧ y.n (100016 : Nat) ≤ (2047 : Int)) ∧ ((0 : Int) ≤ y.n (100017 : Nat) ∧ y.n (100017 : Nat) ≤ (63 : Int)) ∧ ((0 : Int)
      ≤ y.n (100018 : Nat) ∧ y.n (100018 : Nat) ≤ (16777216 : Int)) ∧ ((0 : Int) ≤ y.n (100019 : Nat) ∧ y.n (100019 : Nat) ≤ (3 : Int)) ∧ ((0 : Int) ≤ y.n (100020 : Nat) ∧ y.n
      (100020 : Nat) ≤ (15 : Int)) ∧ ((0 : Int) ≤ y.n (100023 : Nat) ∧ y.n (100023 : Nat) ≤ (15 : Int)) ∧ ((0 : Int) ≤ y.n (100028 : Nat) ∧ y.n (100028 : Nat) ≤ (2047 : Int)) ∧
      ((0 : Int) ≤ y.n (100029 : Nat) ∧ y.n (100029 : Nat) ≤ (63 : Int)) ∧ ((0 : Int) ≤ y.n (100030 : Nat) ∧ y.n (100030 : Nat) ≤ (16777216 : Int)) ∧ ((0 : Int) ≤ y.n (100031 :
      Nat) ∧ y.n (100031 : Nat) ≤ (3 : Int)) ∧ ((0 : Int) ≤ y.n (100032 : Nat) ∧ y.n (100032 : Nat) ≤ (15 : Int)) ∧ ((0 : Int) ≤ y.n (100035 : Nat) ∧ y.n (100035 : Nat) ≤ (15 :
      Int)) ∧ ((0 : Int) ≤ y.n (100040 : Nat) ∧ y.n (100040 : Nat) ≤ (2047 : Int)) ∧ ((0 : Int) ≤ y.n (100041 : Nat) ∧ y.n (100041 : Nat) ≤ (63 : Int)) ∧ ((0 : Int) ≤ y.n
      (100042 : Nat) ∧ y.n (100042 : Nat) ≤ (16777216 : Int)) ∧ ((0 : Int) ≤ y.n (100043 : Nat) ∧ y.n (100043 : Nat) ≤ (3 : Int)) ∧ ((0 : Int) ≤ y.n (100044 : Nat) ∧ y.n (100044
      : Nat) ≤ (15 : Int)) ∧ ((0 : Int) ≤ y.n (100047 : Nat) ∧ y.n (100047 : Nat) ≤ (15 : Int)) ∧ ((0 : Int) ≤ y.n (100050 : Nat) ∧ y.n (100050 : Nat) ≤ (7 : Int)) ∧ ((0 : Int)
      ≤ y.n (100086 : Nat) ∧ y.n (100086 : Nat) ≤ (1 : Int)) ∧ ((0 : Int) ≤ y.n (100088 : Nat) ∧ y.n (100088 : Nat) ≤ (4 : Int)) ∧ ((0 : Int) ≤ y.n (100092 : Nat) ∧ y.n (100092
      : Nat) ≤ (15 : Int)) ∧ ((0 : Int) ≤ y.n (100093 : Nat) ∧ y.n (100093 : Nat) ≤ (7 : Int)) ∧ True) ∧ S = S) ∧ True) ∧ ((y.n (100002 : Nat) == (0 : Int)) = false → ((mpB =
      mpB ∧ (50 : Nat) = (50 : Nat) ∧ (((0 : Int) ≤ y.n (100000 : Nat) ∧ y.n (100000 : Nat) ≤ (2199023255552 : Int)) ∧ ((0 : Int) ≤ IntKind.i64.wrap (bits BinOp.and IntKind.u16
      x (2047 : Int)) ∧ IntKind.i64.wrap (bits BinOp.and IntKind.u16 x (2047 : Int)) ≤ (2047 : Int)) ∧ ((0 : Int) ≤ (0 : Int) ∧ (0 : Int) ≤ (63 : Int)) ∧ ((0 : Int) ≤ y.n
      (100007 : Nat) ∧ y.n (100007 : Nat) ≤ (3 : Int)) ∧ ((0 : Int) ≤ y.n (100008 : Nat) ∧ y.n (100008 : Nat) ≤ (15 : Int)) ∧ ((0 : Int) ≤ y.n (100008 : Nat) ∧ y.n (100008 :
      Nat) ≤ (15 : Int)) ∧ ((0 : Int) ≤ y.n (100016 : Nat) ∧ y.n (100016 : Nat) ≤ (2047 : Int)) ∧ ((0 : Int) ≤ y.n (100017 : Nat) ∧ y.n (100017 : Nat) ≤ (63 : Int)) ∧ ((0 : Int)
      ≤ y.n (100019 : Nat) ∧ y.n (100019 : Nat) ≤ (3 : Int)) ∧ ((0 : Int) ≤ y.n (100020 : Nat) ∧ y.n (100020 : Nat) ≤ (15 : Int)) ∧ ((0 : Int) ≤ y.n (100023 : Nat) ∧ y.n (100023
      : Nat) ≤ (15 : Int)) ∧ ((0 : Int) ≤ y.n (100028 : Nat) ∧ y.n (100028 : Nat) ≤ (2047 : Int)) ∧ ((0 : Int) ≤ y.n (100029 : Nat) ∧ y.n (100029 : Nat) ≤ (63 : Int)) ∧ ((0 :
      Int) ≤ y.n (100031 : Nat) ∧ y.n (100031 : Nat) ≤ (3 : Int)) ∧ ((0 : Int) ≤ y.n (100032 : Nat) ∧ y.n (100032 : Nat) ≤ (15 : Int)) ∧ ((0 : Int) ≤ y.n (100035 : Nat) ∧ y.n
      (100035 : Nat) ≤ (15 : Int)) ∧ ((0 : Int) ≤ y.n (100040 : Nat) ∧ y.n (100040 : Nat) ≤ (2047 : Int)) ∧ ((0 : Int) ≤ y.n (100041 : Nat) ∧ y.n (100041 : Nat) ≤ (63 : Int)) ∧
      ((0 : Int) ≤ y.n (100043 : Nat) ∧ y.n (100043 : Nat) ≤ (3 : Int)) ∧ ((0 : Int) ≤ y.n (100044 : Nat) ∧ y.n (100044 : Nat) ≤ (15 : Int)) ∧ ((0 : Int) ≤ y.n (100047 : Nat) ∧
      y.n (100047 : Nat) ≤ (15 : Int)) ∧ ((0 : Int) ≤ y.n (100050 : Nat) ∧ y.n (100050 : Nat) ≤ (7 : Int)) ∧ ((0 : Int) ≤ y.n (100086 : Nat) ∧ y.n (100086 : Nat) ≤ (1 : Int)) ∧
      ((0 : Int) ≤ y.n (100088 : Nat) ∧ y.n (100088 : Nat) ≤ (4 : Int)) ∧ ((0 : Int) ≤ y.n (100092 : Nat) ∧ y.n (100092 : Nat) ≤ (15 : Int)) ∧ ((0 : Int) ≤ y.n (100093 : Nat) ∧
      y.n (100093 : Nat) ≤ (7 : Int)) ∧ True) ∧ S = S) ∧ True) ∧ ∀ (y_1 : PX), (((1 : Int) ≤ y_1.n (90000 : Nat) ∧ y_1.n (90000 : Nat) ≤ (16777216 : Int)) ∧ True) ∧ True → True
      ∧ (mpB = mpB ∧ (50 : Nat) = (50 : Nat) ∧ (((0 : Int) ≤ y.n (100000 : Nat) ∧ y.n (100000 : Nat) ≤ (2199023255552 : Int)) ∧ ((0 : Int) ≤ IntKind.i64.wrap (bits BinOp.and
      IntKind.u16 x (2047 : Int)) ∧ IntKind.i64.wrap (bits BinOp.and IntKind.u16 x (2047 : Int)) ≤ (2047 : Int)) ∧ ((0 : Int) ≤ (0 : Int) ∧ (0 : Int) ≤ (63 : Int)) ∧ ((0 : Int)
      ≤ y_1.n (90000 : Nat) ∧ y_1.n (90000 : Nat) ≤ (16777216 : Int)) ∧ ((0 : Int) ≤ y.n (100007 : Nat) ∧ y.n (100007 : Nat) ≤ (3 : Int)) ∧ ((0 : Int) ≤ y.n (100008 : Nat) ∧ y.n
      (100008 : Nat) ≤ (15 : Int)) ∧ ((0 : Int) ≤ y.n (100008 : Nat) ∧ y.n (100008 : Nat) ≤ (15 : Int)) ∧ ((0 : Int) ≤ y.n (100016 : Nat) ∧ y.n (100016 : Nat) ≤ (2047 : Int)) ∧
      ((0 : Int) ≤ y.n (100017 : Nat) ∧ y.n (100017 : Nat) ≤ (63 : Int)) ∧ ((0 : Int) ≤ y.n (100018 : Nat) ∧ y.n (100018 : Nat) ≤ (16777216 : Int)) ∧ ((0 : Int) ≤ y.n (100019 :
      Nat) ∧ y.n (100019 : Nat) ≤ (3 : Int)) ∧ ((0 : Int) ≤ y.n (100020 : Nat) ∧ y.n (100020 : Nat) ≤ (15 : Int)) ∧ ((0 : Int) ≤ y.n (100023 : Nat) ∧ y.n (100023 : Nat) ≤ (15 :
      Int)) ∧ ((0 : Int) ≤ y.n (100028 : Nat) ∧ y.n (100028 : Nat) ≤ (2047 : Int)) ∧ ((0 : Int) ≤ y.n (100029 : Nat) ∧ y.n (100029 : Nat) ≤ (63 : Int)) ∧ ((0 : Int) ≤ y.n
      (100030 : Nat) ∧ y.n (100030 : Nat) ≤ (16777216 : Int)) ∧ ((0 : Int) ≤ y.n (100031 : Nat) ∧ y.n (100031 : Nat) ≤ (3 : Int)) ∧ ((0 : Int) ≤ y.n (100032 : Nat) ∧ y.n (100032
      : Nat) ≤ (15 : Int)) ∧ ((0 : Int) ≤ y.n (100035 : Nat) ∧ y.n (100035 : Nat) ≤ (15 : Int)) ∧ ((0 : Int) ≤ y.n (100040 : Nat) ∧ y.n (100040 : Nat) ≤ (2047 : Int)) ∧ ((0 :
      Int) ≤ y.n (100041 : Nat) ∧ y.n (100041 : Nat) ≤ (63 : Int)) ∧ ((0 : Int) ≤ y.n (100042 : Nat) ∧ y.n (100042 : Nat) ≤ (16777216 : Int)) ∧ ((0 : Int) ≤ y.n (100043 : Nat) ∧
      y.n (100043 : Nat) ≤ (3 : Int)) ∧ ((0 : Int) ≤ y.n (100044 : Nat) ∧ y.n (100044 : Nat) ≤ (15 : Int)) ∧ ((0 : Int) ≤ y.n (100047 : Nat) ∧ y.n (100047 : Nat) ≤ (15 : Int)) ∧
      ((0 : Int) ≤ y.n (100050 : Nat) ∧ y.n (100050 : Nat) ≤ (7 : Int)) ∧ ((0 : Int) ≤ y.n (100086 : Nat) ∧ y.n (100086 : Nat) ≤ (1 : Int)) ∧ ((0 : Int) ≤ y.n (100088 : Nat) ∧
      y.n (100088 : Nat) ≤ (4 : Int)) ∧ ((0 : Int) ≤ y.n (100092 : Nat) ∧ y.n (100092 : Nat) ≤ (15 : Int)) ∧ ((0 : Int) ≤ y.n (100093 : Nat) ∧ y.n (100093 : Nat) ≤ (7 : Int)) ∧
      True) ∧ S = S) ∧ True)))) := by kernel_rfl
set_option maxHeartbeats 2000000 in
theorem wr2_c (E : World) (S : SW) (k : Int) (x : Int) (z : PX) (hz : rgM z (uM mpB) 0) (hp : (fun _ => 0 ≤ x ∧ x ≤ 65535) z) : HC (pe E) 8 [.c (.p 1 0), .c (.i false .i64 k), .c (.i true .i64 2), .c (.i false .u16 x)] (uM mpB) S (.t []) (fun _ _ => True) z := by
  refine HC.mk false (by rfl) (by rfl) (by rfl) (by rfl) (fnTree_sound (P := pe E) orcS_ok tab_ok tab_sz mixed 20000 Try.func8 (by decide) [.c (.p 1 0), .c (.i false .i64 k), .c (.i true .i64 2), .c (.i false .u16 x)] _) ⟨?_⟩
  rw [wr2_p]
  obtain ⟨h0, h4, h5, h6, h7, h8, h11, h16, h17, h18, h19, h20, h23, h28, h29, h30, h31, h32, h35, h40, h41, h42, h43, h44, h47, h50, h86, h88, h92, h93, _⟩ := rg_u hz
  obtain ⟨p1, p2⟩ := hp
  (repeat' (first | assumption | exact trivial | exact rfl | apply And.intro | (rintro y ⟨⟨⟨h0, h4, h5, h6, h7, h8, h11, h16, h17, h18, h19, h20, h23, h28, h29, h30, h31, h32, h35, h40, h41, h42, h43, h44, h47, h50, h86, h88, h92, h93, _⟩, _⟩, _, hq⟩; (try rw [hq])) | (rintro y ⟨⟨hr, _⟩, hq⟩) | intro _)) <;> ((try simp only [inB, f4096, f64, f2048, f16, f8, f32, f128, f256, f8192, a1, a3, a7, a15, a63, a2047, wi64, wu16, Bool.not_eq_true', Bool.not_eq_false', Bool.and_eq_true, Bool.or_eq_true, beq_iff_eq, bne_iff_ne, ne_eq, beq_eq_false_iff_ne, bne_eq_false_iff_eq, decide_eq_true_eq, decide_eq_false_iff_not] at *) <;> (repeat' split) <;> omega)
theorem wr3_p (E : World) (S : SW) (z : PX) (k : Int) (x : Int) :
    (hoP false (uM mpB) S (.t []) (fun _ _ => True) z (fnTree (pe E) (orcS E) (tabL fns) 20000 Try.f8 [.c (.p 1 0), .c (.i false .i64 k), .c (.i true .i64 3), .c (.i false .u16 x)] (mkM z S (uM mpB) 0))) =
    (((mpB = mpB ∧ (50 : Nat) = (50 : Nat) ∧ (RG z) ∧ S = S) ∧ True) ∧ ∀ (y : PX), ((RG y) ∧ True) ∧ True ∧ True → ((IntKind.i64.wrap (x.fdiv (4096 : Int)) != (0 : Int)) = true
      → True ∧ (mpB = mpB ∧ (50 : Nat) = (50 : Nat) ∧ (((0 : Int) ≤ y.n (100000 : Nat) ∧ y.n (100000 : Nat) ≤ (2199023255552 : Int)) ∧ ((0 : Int) ≤ y.n (100004 : Nat) ∧ y.n
      (100004 : Nat) ≤ (2047 : Int)) ∧ ((0 : Int) ≤ y.n (100005 : Nat) ∧ y.n (100005 : Nat) ≤ (63 : Int)) ∧ ((0 : Int) ≤ y.n (100006 : Nat) ∧ y.n (100006 : Nat) ≤ (16777216 :
      Int)) ∧ ((0 : Int) ≤ y.n (100007 : Nat) ∧ y.n (100007 : Nat) ≤ (3 : Int)) ∧ ((0 : Int) ≤ y.n (100008 : Nat) ∧ y.n (100008 : Nat) ≤ (15 : Int)) ∧ ((0 : Int) ≤ y.n (100011 :
      Nat) ∧ y.n (100011 : Nat) ≤ (15 : Int)) ∧ ((0 : Int) ≤ y.n (100016 : Nat) ∧ y.n (100016 : Nat) ≤ (2047 : Int)) ∧ ((0 : Int) ≤ y.n (100017 : Nat) ∧ y.n (100017 : Nat) ≤ (63
      : Int)) ∧ ((0 : Int) ≤ y.n (100018 : Nat) ∧ y.n (100018 : Nat) ≤ (16777216 : Int)) ∧ ((0 : Int) ≤ IntKind.i64.wrap (bits BinOp.and IntKind.u16 (x.fdiv (64 : Int)) (3 :
      Int)) ∧ IntKind.i64.wrap (bits BinOp.and IntKind.u16 (x.fdiv (64 : Int)) (3 : Int)) ≤ (3 : Int)) ∧ ((0 : Int) ≤ IntKind.i64.wrap (x.fdiv (4096 : Int)) ∧ IntKind.i64.wrap
      (x.fdiv (4096 : Int)) ≤ (15 : Int)) ∧ ((0 : Int) ≤ y.n (100023 : Nat) ∧ y.n (100023 : Nat) ≤ (15 : Int)) ∧ ((0 : Int) ≤ y.n (100028 : Nat) ∧ y.n (100028 : Nat) ≤ (2047 :
      Int)) ∧ ((0 : Int) ≤ y.n (100029 : Nat) ∧ y.n (100029 : Nat) ≤ (63 : Int)) ∧ ((0 : Int) ≤ y.n (100030 : Nat) ∧ y.n (100030 : Nat) ≤ (16777216 : Int)) ∧ ((0 : Int) ≤ y.n
      (100031 : Nat) ∧ y.n (100031 : Nat) ≤ (3 : Int)) ∧ ((0 : Int) ≤ y.n (100032 : Nat) ∧ y.n (100032 : Nat) ≤ (15 : Int)) ∧ ((0 : Int) ≤ y.n (100035 : Nat) ∧ y.n (100035 :
      Nat) ≤ (15 : Int)) ∧ ((0 : Int) ≤ y.n (100040 : Nat) ∧ y.n (100040 : Nat) ≤ (2047 : Int)) ∧ ((0 : Int) ≤ y.n (100041 : Nat) ∧ y.n (100041 : Nat) ≤ (63 : Int)) ∧ ((0 : Int)
      ≤ y.n (100042 : Nat) ∧ y.n (100042 : Nat) ≤ (16777216 : Int)) ∧ ((0 : Int) ≤ y.n (100043 : Nat) ∧ y.n (100043 : Nat) ≤ (3 : Int)) ∧ ((0 : Int) ≤ y.n (100044 : Nat) ∧ y.n
      (100044 : Nat) ≤ (15 : Int)) ∧ ((0 : Int) ≤ y.n (100047 : Nat) ∧ y.n (100047 : Nat) ≤ (15 : Int)) ∧ ((0 : Int) ≤ y.n (100050 : Nat) ∧ y.n (100050 : Nat) ≤ (7 : Int)) ∧ ((0
      : Int) ≤ y.n (100086 : Nat) ∧ y.n (100086 : Nat) ≤ (1 : Int)) ∧ ((0 : Int) ≤ y.n (100088 : Nat) ∧ y.n (100088 : Nat) ≤ (4 : Int)) ∧ ((0 : Int) ≤ y.n (100092 : Nat) ∧ y.n
      (100092 : Nat) ≤ (15 : Int)) ∧ ((0 : Int) ≤ y.n (100093 : Nat) ∧ y.n (100093 : Nat) ≤ (7 : Int)) ∧ True) ∧ S = S) ∧ True) ∧ ((IntKind.i64.wrap (x.fdiv (4096 : Int)) != (0
      : Int)) = false → ((!bits BinOp.and IntKind.u16 (x.fdiv (2048 : Int)) (1 : Int) != (0 : Int)) = true → True ∧ (mpB = mpB ∧ (50 : Nat) = (50 : Nat) ∧ (((0 : Int) ≤ y.n
      (100000 : Nat) ∧ y.n (100000 : Nat) ≤ (2199023255552 : Int)) ∧ ((0 : Int) ≤ y.n (100004 : Nat) ∧ y.n (100004 : Nat) ≤ (2047 : Int)) ∧ ((0 : Int) ≤ y.n (100005 : Nat) ∧ y.n
      (100005 : Nat) ≤ (63 : Int)) ∧ ((0 : Int) ≤ y.n (100006 : Nat) ∧ y.n (100006 : Nat) ≤ (16777216 : Int)) ∧ ((0 : Int) ≤ y.n (100007 : Nat) ∧ y.n (100007 : Nat) ≤ (3 : Int))
      ∧ ((0 : Int) ≤ y.n (100008 : Nat) ∧ y.n (100008 : Nat) ≤ (15 : Int)) ∧ ((0 : Int) ≤ y.n (100011 : Nat) ∧ y.n (100011 : Nat) ≤ (15 : Int)) ∧ ((0 : Int) ≤ y.n (100016 : Nat)
      ∧ y.n (100016 : Nat) ≤ (2047 : Int)) ∧ ((0 : Int) ≤ y.n (100017 : Nat) ∧ y.n (100017 : Nat) ≤ (63 : Int)) ∧ ((0 : Int) ≤ y.n (100018 : Nat) ∧ y.n (100018 : Nat) ≤
      (16777216 : Int)) ∧ ((0 : Int) ≤ IntKind.i64.wrap (bits BinOp.and IntKind.u16 (x.fdiv (64 : Int)) (3 : Int)) ∧ IntKind.i64.wrap (bits BinOp.and IntKind.u16 (x.fdiv (64 :
      Int)) (3 : Int)) ≤ (3 : Int)) ∧ ((0 : Int) ≤ IntKind.i64.wrap (x.fdiv (4096 : Int)) ∧ IntKind.i64.wrap (x.fdiv (4096 : Int)) ≤ (15 : Int)) ∧ ((0 : Int) ≤ y.n (100023 :
      Nat) ∧ y.n (100023 : Nat) ≤ (15 : Int)) ∧ ((0 : Int) ≤ y.n (100028 : Nat) ∧ y.n (100028 : Nat) ≤ (2047 : Int)) ∧ ((0 : Int) ≤ y.n (100029 : Nat) ∧ y.n (100029 : Nat) ≤ (63
      : Int)) ∧ ((0 : Int) ≤ y.n (100030 : Nat) ∧ y.n (100030 : Nat) ≤ (16777216 : Int)) ∧ ((0 : Int) ≤ y.n (100031 : Nat) ∧ y.n (100031 : Nat) ≤ (3 : Int)) ∧ ((0 : Int) ≤ y.n
      (100032 : Nat) ∧ y.n (100032 : Nat) ≤ (15 : Int)) ∧ ((0 : Int) ≤ y.n (100035 : Nat) ∧ y.n (100035 : Nat) ≤ (15 : Int)) ∧ ((0 : Int) ≤ y.n (100040 : Nat) ∧ y.n (100040 :
      Nat) ≤ (2047 : Int)) ∧ ((0 : Int) ≤ y.n (100041 : Nat) ∧ y.n (100041 : Nat) ≤ (63 : Int)) ∧ ((0 : Int) ≤ y.n (100042 : Nat) ∧ y.n (100042 : Nat) ≤ (16777216 : Int)) ∧ ((0
      : Int) ≤ y.n (100043 : Nat) ∧ y.n (100043 : Nat) ≤ (3 : Int)) ∧ ((0 : Int) ≤ y.n (100044 : Nat) ∧ y.n (100044 : Nat) ≤ (15 : Int)) ∧ ((0 : Int) ≤ y.n (100047 : Nat) ∧ y.n
      (100047 : Nat) ≤ (15 : Int)) ∧ ((0 : Int) ≤ y.n (100050 : Nat) ∧ y.n (100050 : Nat) ≤ (7 : Int)) ∧ ((0 : Int) ≤ y.n (100086 : Nat) ∧ y.n (100086 : Nat) ≤ (1 : Int)) ∧ ((0
      : Int) ≤ y.n (100088 : Nat) ∧ y.n (100088 : Nat) ≤ (4 : Int)) ∧ ((0 : Int) ≤ y.n (100092 : Nat) ∧ y.n (100092 : Nat) ≤ (15 : Int)) ∧ ((0 : Int) ≤ y.n (100093 : Nat) ∧ y.n
      (100093 : Nat) ≤ (7 : Int)) ∧ True) ∧ S = S) ∧ True) ∧ ((!bits BinOp.and IntKind.u16 (x.fdiv (2048 : Int)) (1 : Int) != (0 : Int)) = false → True ∧ (mpB = mpB ∧ (50 : Nat)
      = (50 : Nat) ∧ (((0 : Int) ≤ y.n (100000 : Nat) ∧ y.n (100000 : Nat) ≤ (2199023255552 : Int)) ∧ ((0 : Int) ≤ y.n (100004 : Nat) ∧ y.n (100004 : Nat) ≤ (2047 : Int)) ∧ ((0
      : Int) ≤ y.n (100005 : Nat) ∧ y.n (100005 : Nat) ≤ (63 : Int)) ∧ ((0 : Int) ≤ y.n (100006 : Nat) ∧ y.n (100006 : Nat) ≤ (16777216 : Int)) ∧ ((0 : Int) ≤ y.n (100007 : Nat)
      ∧ y.n (100007 : Nat) ≤ (3 : Int)) ∧ ((0 : Int) ≤ y.n (100008 : Nat) ∧ y.n (100008 : Nat) ≤ (15 : Int)) ∧ ((0 : Int) ≤ y.n (100011 : Nat) ∧ y.n (100011 : Nat) ≤ (15 : Int))
      ∧ ((0 : Int) ≤ y.n (100016 : Nat) ∧ y.n (100016 : Nat) ≤ (2047 : Int)) ∧ ((0 : Int) ≤ y.n (100017 : Nat) ∧ y.n (100017 : Nat) ≤ (63 : Int)) ∧ ((0 : Int) ≤ y.n (100018 :
      Nat) ∧ y.n (100018 : Nat) ≤ (16777216 : Int)) ∧ ((0 : Int) ≤ IntKind.i64.wrap (bits BinOp.and IntKind.u16 (x.fdiv (64 : Int)) (3 : Int)) ∧ IntKind.i64.wrap (bits BinOp.and
      IntKind.u16 (x.fdiv (64 : Int)) (3 : Int)) ≤ (3 : Int)) ∧ ((0 : Int) ≤ IntKind.i64.wrap (x.fdiv (4096 : Int)) ∧ IntKind.i64.wrap (x.fdiv (4096 : Int)) ≤ (15 : Int)) ∧ ((0
      : Int) ≤ y.n (100023 : Nat) ∧ y.n (100023 : Nat) ≤ (15 : Int)) ∧ ((0 : Int) ≤ y.n (100028 : Nat) ∧ y.n (100028 : Nat) ≤ (2047 : Int)) ∧ ((0 : Int) ≤ y.n (100029 : Nat) ∧
      y.n (100029 : Nat) ≤ (63 : Int)) ∧ ((0 : Int) ≤ y.n (100030 : Nat) ∧ y.n (100030 : Nat) ≤ (16777216 : Int)) ∧ ((0 : Int) ≤ y.n (100031 : Nat) ∧ y.n (100031 : Nat) ≤ (3 :
      Int)) ∧ ((0 : Int) ≤ y.n (100032 : Nat) ∧ y.n (100032 : Nat) ≤ (15 : Int)) ∧ ((0 : Int) ≤ y.n (100035 : Nat) ∧ y.n (100035 : Nat) ≤ (15 : Int)) ∧ ((0 : Int) ≤ y.n (100040
      : Nat) ∧ y.n (100040 : Nat) ≤ (2047 : Int)) ∧ ((0 : Int) ≤ y.n (100041 : Nat) ∧ y.n (100041 : Nat) ≤ (63 : Int)) ∧ ((0 : Int) ≤ y.n (100042 : Nat) ∧ y.n (100042 : Nat) ≤
      (16777216 : Int)) ∧ ((0 : Int) ≤ y.n (100043 : Nat) ∧ y.n (100043 : Nat) ≤ (3 : Int)) ∧ ((0 : Int) ≤ y.n (100044 : Nat) ∧ y.n (100044 : Nat) ≤ (15 : Int)) ∧ ((0 : Int) ≤
      y.n (100047 : Nat) ∧ y.n (100047 : Nat) ≤ (15 : Int)) ∧ ((0 : Int) ≤ y.n (100050 : Nat) ∧ y.n (100050 : Nat) ≤ (7 : Int)) ∧ ((0 : Int) ≤ y.n (100086 : Nat) ∧ y.n (100086 :
      Nat) ≤ (1 : Int)) ∧ ((0 : Int) ≤ y.n (100088 : Nat) ∧ y.n (100088 : Nat) ≤ (4 : Int)) ∧ ((0 : Int) ≤ y.n (100092 : Nat) ∧ y.n (100092 : Nat) ≤ (15 : Int)) ∧ ((0 : Int) ≤
      y.n (100093 : Nat) ∧ y.n (100093 : Nat) ≤ (7 : Int)) ∧ True) ∧ S = S) ∧ True))) := by kernel_rfl
set_option maxHeartbeats 2000000 in
theorem wr3_c (E : World) (S : SW) (k : Int) (x : Int) (z : PX) (hz : rgM z (uM mpB) 0) (hp : (fun _ => 0 ≤ x ∧ x ≤ 65535) z) : HC (pe E) 8 [.c (.p 1 0), .c (.i false .i64 k), .c (.i true .i64 3), .c (.i false .u16 x)] (uM mpB) S (.t []) (fun _ _ => True) z := by
  refine HC.mk false (by rfl) (by rfl) (by rfl) (by rfl) (fnTree_sound (P := pe E) orcS_ok tab_ok tab_sz mixed 20000 Try.func8 (by decide) [.c (.p 1 0), .c (.i false .i64 k), .c (.i true .i64 3), .c (.i false .u16 x)] _) ⟨?_⟩
  rw [wr3_p]
  obtain ⟨h0, h4, h5, h6, h7, h8, h11, h16, h17, h18, h19, h20, h23, h28, h29, h30, h31, h32, h35, h40, h41, h42, h43, h44, h47, h50, h86, h88, h92, h93, _⟩ := rg_u hz
  obtain ⟨p1, p2⟩ := hp
  (repeat' (first | assumption | exact trivial | exact rfl | apply And.intro | (rintro y ⟨⟨⟨h0, h4, h5, h6, h7, h8, h11, h16, h17, h18, h19, h20, h23, h28, h29, h30, h31, h32, h35, h40, h41, h42, h43, h44, h47, h50, h86, h88, h92, h93, _⟩, _⟩, _, hq⟩; (try rw [hq])) | (rintro y ⟨⟨hr, _⟩, hq⟩) | intro _)) <;> ((try simp only [inB, f4096, f64, f2048, f16, f8, f32, f128, f256, f8192, a1, a3, a7, a15, a63, a2047, wi64, wu16, Bool.not_eq_true', Bool.not_eq_false', Bool.and_eq_true, Bool.or_eq_true, beq_iff_eq, bne_iff_ne, ne_eq, beq_eq_false_iff_ne, bne_eq_false_iff_eq, decide_eq_true_eq, decide_eq_false_iff_not] at *) <;> (repeat' split) <;> omega)
theorem wr4_p (E : World) (S : SW) (z : PX) (k : Int) (x : Int) :
    (hoP false (uM mpB) S (.t []) (fun _ _ => True) z (fnTree (pe E) (orcS E) (tabL fns) 20000 Try.f8 [.c (.p 1 0), .c (.i false .i64 k), .c (.i true .i64 4), .c (.i false .u16 x)] (mkM z S (uM mpB) 0))) =
    (((mpB = mpB ∧ (50 : Nat) = (50 : Nat) ∧ (RG z) ∧ S = S) ∧ True) ∧ ∀ (y : PX), ((RG y) ∧ True) ∧ True ∧ True → ((bits BinOp.and IntKind.u16 x (32768 : Int) == (0 : Int)) =
      true → True ∧ (mpB = mpB ∧ (50 : Nat) = (50 : Nat) ∧ (((0 : Int) ≤ y.n (100000 : Nat) ∧ y.n (100000 : Nat) ≤ (2199023255552 : Int)) ∧ ((0 : Int) ≤ y.n (100004 : Nat) ∧ y.n
      (100004 : Nat) ≤ (2047 : Int)) ∧ ((0 : Int) ≤ y.n (100005 : Nat) ∧ y.n (100005 : Nat) ≤ (63 : Int)) ∧ ((0 : Int) ≤ y.n (100006 : Nat) ∧ y.n (100006 : Nat) ≤ (16777216 :
      Int)) ∧ ((0 : Int) ≤ y.n (100007 : Nat) ∧ y.n (100007 : Nat) ≤ (3 : Int)) ∧ ((0 : Int) ≤ y.n (100008 : Nat) ∧ y.n (100008 : Nat) ≤ (15 : Int)) ∧ ((0 : Int) ≤ y.n (100011 :
      Nat) ∧ y.n (100011 : Nat) ≤ (15 : Int)) ∧ ((0 : Int) ≤ IntKind.i64.wrap (bits BinOp.and IntKind.u16 x (2047 : Int)) ∧ IntKind.i64.wrap (bits BinOp.and IntKind.u16 x (2047
      : Int)) ≤ (2047 : Int)) ∧ ((0 : Int) ≤ y.n (100017 : Nat) ∧ y.n (100017 : Nat) ≤ (63 : Int)) ∧ ((0 : Int) ≤ y.n (100018 : Nat) ∧ y.n (100018 : Nat) ≤ (16777216 : Int)) ∧
      ((0 : Int) ≤ y.n (100019 : Nat) ∧ y.n (100019 : Nat) ≤ (3 : Int)) ∧ ((0 : Int) ≤ y.n (100020 : Nat) ∧ y.n (100020 : Nat) ≤ (15 : Int)) ∧ ((0 : Int) ≤ y.n (100023 : Nat) ∧
      y.n (100023 : Nat) ≤ (15 : Int)) ∧ ((0 : Int) ≤ y.n (100028 : Nat) ∧ y.n (100028 : Nat) ≤ (2047 : Int)) ∧ ((0 : Int) ≤ y.n (100029 : Nat) ∧ y.n (100029 : Nat) ≤ (63 :
      Int)) ∧ ((0 : Int) ≤ y.n (100030 : Nat) ∧ y.n (100030 : Nat) ≤ (16777216 : Int)) ∧ ((0 : Int) ≤ y.n (100031 : Nat) ∧ y.n (100031 : Nat) ≤ (3 : Int)) ∧ ((0 : Int) ≤ y.n
      (100032 : Nat) ∧ y.n (100032 : Nat) ≤ (15 : Int)) ∧ ((0 : Int) ≤ y.n (100035 : Nat) ∧ y.n (100035 : Nat) ≤ (15 : Int)) ∧ ((0 : Int) ≤ y.n (100040 : Nat) ∧ y.n (100040 :
      Nat) ≤ (2047 : Int)) ∧ ((0 : Int) ≤ y.n (100041 : Nat) ∧ y.n (100041 : Nat) ≤ (63 : Int)) ∧ ((0 : Int) ≤ y.n (100042 : Nat) ∧ y.n (100042 : Nat) ≤ (16777216 : Int)) ∧ ((0
      : Int) ≤ y.n (100043 : Nat) ∧ y.n (100043 : Nat) ≤ (3 : Int)) ∧ ((0 : Int) ≤ y.n (100044 : Nat) ∧ y.n (100044 : Nat) ≤ (15 : Int)) ∧ ((0 : Int) ≤ y.n (100047 : Nat) ∧ y.n
      (100047 : Nat) ≤ (15 : Int)) ∧ ((0 : Int) ≤ y.n (100050 : Nat) ∧ y.n (100050 : Nat) ≤ (7 : Int)) ∧ ((0 : Int) ≤ y.n (100086 : Nat) ∧ y.n (100086 : Nat) ≤ (1 : Int)) ∧ ((0
      : Int) ≤ y.n (100088 : Nat) ∧ y.n (100088 : Nat) ≤ (4 : Int)) ∧ ((0 : Int) ≤ y.n (100092 : Nat) ∧ y.n (100092 : Nat) ≤ (15 : Int)) ∧ ((0 : Int) ≤ y.n (100093 : Nat) ∧ y.n
      (100093 : Nat) ≤ (7 : Int)) ∧ True) ∧ S = S) ∧ True) ∧ ((bits BinOp.and IntKind.u16 x (32768 : Int) == (0 : Int)) = false → ((y.n (100020 : Nat) != (0 : Int)) = true →
      ((y.n (100014 : Nat) == (0 : Int)) = true → ((mpB = mpB ∧ (50 : Nat) = (50 : Nat) ∧ (((0 : Int) ≤ y.n (100000 : Nat) ∧ y.n (100000 : Nat) ≤ (2199023255552 : Int)) ∧ ((0 :
      Int) ≤ y.n (100004 : Nat) ∧ y.n (100004 : Nat) ≤ (2047 : Int)) ∧ ((0 : Int) ≤ y.n (100005 : Nat) ∧ y.n (100005 : Nat) ≤ (63 : Int)) ∧ ((0 : Int) ≤ y.n (100007 : Nat) ∧ y.n
      (100007 : Nat) ≤ (3 : Int)) ∧ ((0 : Int) ≤ y.n (100008 : Nat) ∧ y.n (100008 : Nat) ≤ (15 : Int)) ∧ ((0 : Int) ≤ y.n (100011 : Nat) ∧ y.n (100011 : Nat) ≤ (15 : Int)) ∧ ((0
      : Int) ≤ IntKind.i64.wrap (bits BinOp.and IntKind.u16 x (2047 : Int)) ∧ IntKind.i64.wrap (bits BinOp.and IntKind.u16 x (2047 : Int)) ≤ (2047 : Int)) ∧ ((0 : Int) ≤ (0 :
      Int) ∧ (0 : Int) ≤ (63 : Int)) ∧ ((0 : Int) ≤ y.n (100019 : Nat) ∧ y.n (100019 : Nat) ≤ (3 : Int)) ∧ ((0 : Int) ≤ y.n (100020 : Nat) ∧ y.n (100020 : Nat) ≤ (15 : Int)) ∧
      ((0 : Int) ≤ y.n (100020 : Nat) ∧ y.n (100020 : Nat) ≤ (15 : Int)) ∧ ((0 : Int) ≤ y.n (100028 : Nat) ∧ y.n (100028 : Nat) ≤ (2047 : Int)) ∧ ((0 : Int) ≤ y.n (100029 : Nat)
      ∧ y.n (100029 : Nat) ≤ (63 : Int)) ∧ ((0 : Int) ≤ y.n (100031 : Nat) ∧ y.n (100031 : Nat) ≤ (3 : Int)) ∧ ((0 : Int) ≤ y.n (100032 : Nat) ∧ y.n (100032 : Nat) ≤ (15 : Int))
      ∧ ((0 : Int) ≤ y.n (100035 : Nat) ∧ y.n (100035 : Nat) ≤ (15 : Int)) ∧ ((0 : Int) ≤ y.n (100040 : Nat) ∧ y.n (100040 : Nat) ≤ (2047 : Int)) ∧ ((0 : Int) ≤ y.n (100041 :
      Nat) ∧ y.n (100041 : Nat) ≤ (63 : Int)) ∧ ((0 : Int) ≤ y.n (100043 : Nat) ∧ y.n (100043 : Nat) ≤ (3 : Int)) ∧ ((0 : Int) ≤ y.n (100044 : Nat) ∧ y.n (100044 : Nat) ≤ (15 :
      Int)) ∧ ((0 : Int) ≤ y.n (100047 : Nat) ∧ y.n (100047 : Nat) ≤ (15 : Int)) ∧ ((0 : Int) ≤ y.n (100050 : Nat) ∧ y.n (100050 : Nat) ≤ (7 : Int)) ∧ ((0 : Int) ≤ y.n (100086 :
      Nat) ∧ y.n (100086 : Nat) ≤ (1 : Int)) ∧ ((0 : Int) ≤ y.n (100088 : Nat) ∧ y.n (100088 : Nat) ≤ (4 : Int)) ∧ ((0 : Int) ≤ y.n (100092 : Nat) ∧ y.n (100092 : Nat) ≤ (15 :
      Int)) ∧ ((0 : Int) ≤ y.n (100093 : Nat) ∧ y.n (100093 : Nat) ≤ (7 : Int)) ∧ True) ∧ S = S) ∧ True) ∧ ∀ (y_1 : PX), (((1 : Int) ≤ y_1.n (90000 : Nat) ∧ y_1.n (90000 : Nat)
      ≤ (16777216 : Int)) ∧ True) ∧ True → True ∧ (mpB = mpB ∧ (50 : Nat) = (50 : Nat) ∧ (((0 : Int) ≤ y.n (100000 : Nat) ∧ y.n (100000 : Nat) ≤ (2199023255552 : Int)) ∧ ((0 :
      Int) ≤ y.n (100004 : Nat) ∧ y.n (100004 : Nat) ≤ (2047 : Int)) ∧ ((0 : Int) ≤ y.n (100005 : Nat) ∧ y.n (100005 : Nat) ≤ (63 : Int)) ∧ ((0 : Int) ≤ y.n (100006 : Nat) ∧ y.n
      (100006 : Nat) ≤ (16777216 : Int)) ∧ ((0 : Int) ≤ y.n (100007 : Nat) ∧ y.n (100007 : Nat) ≤ (3 : Int)) ∧ ((0 : Int) ≤ y.n (100008 : Nat) ∧ y.n (100008 : Nat) ≤ (15 : Int))
      ∧ ((0 : Int) ≤ y.n (100011 : Nat) ∧ y.n (100011 : Nat) ≤ (15 : Int)) ∧ ((0 : Int) ≤ IntKind.i64.wrap (bits BinOp.and IntKind.u16 x (2047 : Int)) ∧ IntKind.i64.wrap (bits
      BinOp.and IntKind.u16 x (2047 : Int)) ≤ (2047 : Int)) ∧ ((0 : Int) ≤ (0 : Int) ∧ (0 : Int) ≤ (63 : Int)) ∧ ((0 : Int) ≤ y_1.n (90000 : Nat) ∧ y_1.n (90000 : Nat) ≤
      (16777216 : Int)) ∧ ((0 : Int) ≤ y.n (100019 : Nat) ∧ y.n (100019 : Nat) ≤ (3 : Int)) ∧ ((0 : Int) ≤ y.n (100020 : Nat) ∧ y.n (100020 : Nat) ≤ (15 : Int)) ∧ ((0 : Int) ≤
      y.n (100020 : Nat) ∧ y.n (100020 : Nat) ≤ (15 : Int)) ∧ ((0 : Int) ≤ y.n (100028 : Nat) ∧ y.n (100028 : Nat) ≤ (2047 : Int)) ∧ ((0 : Int) ≤ y.n (100029 : Nat) ∧ y.n
      (100029 : Nat) ≤ (63 : Int)) ∧ ((0 : Int) ≤ y.n (100030 : Nat) ∧ y.n (100030 : Nat) ≤ (16777216 : Int)) ∧ ((0 : Int) ≤ y.n (100031 : Nat) ∧ y.n (100031 : Nat) ≤ (3 : Int))
      ∧ ((0 : Int) ≤ y.n (100032 : Nat) ∧ y.n (100032 : Nat) ≤ (15 : Int)) ∧ ((0 : Int) ≤ y.n (100035 : Nat) ∧ y.n (100035 : Nat) ≤ (15 : Int)) ∧ ((0 : Int) ≤ y.n (100040 : Nat)
      ∧ y.n (100040 : Nat) ≤ (2047 : Int)) ∧ ((0 : Int) ≤ y.n (100041 : Nat) ∧ y.n (100041 : Nat) ≤ (63 : Int)) ∧ ((0 : Int) ≤ y.n (100042 : Nat) ∧ y.n (100042 : Nat) ≤
      (16777216 : Int)) ∧ ((0 : Int) ≤ y.n (100043 : Nat) ∧ y.n (100043 : Nat) ≤ (3 : Int)) ∧ ((0 : Int) ≤ y.n (100044 : Nat) ∧ y.n (100044 : Nat) ≤ (15 : Int)) ∧ ((0 : Int) ≤
      y.n (100047 : Nat) ∧ y.n (100047 : Nat) ≤ (15 : Int)) ∧ ((0 : Int) ≤ y.n (100050 : Nat) ∧ y.n (100050 : Nat) ≤ (7 : Int)) ∧ ((0 : Int) ≤ y.n (100086 : Nat) ∧ y.n (100086 :
      Nat) ≤ (1 : Int)) ∧ ((0 : Int) ≤ y.n (100088 : Nat) ∧ y.n (100088 : Nat) ≤ (4 : Int)) ∧ ((0 : Int) ≤ y.n (100092 : Nat) ∧ y.n (100092 : Nat) ≤ (15 : Int)) ∧ ((0 : Int) ≤
      y.n (100093 : Nat) ∧ y.n (100093 : Nat) ≤ (7 : Int)) ∧ True) ∧ S = S) ∧ True) ∧ ((y.n (100014 : Nat) == (0 : Int)) = false → ((mpB = mpB ∧ (50 : Nat) = (50 : Nat) ∧ (((0 :
      Int) ≤ y.n (100000 : Nat) ∧ y.n (100000 : Nat) ≤ (2199023255552 : Int)) ∧ ((0 : Int) ≤ y.n (100004 : Nat) ∧ y.n (100004 : Nat) ≤ (2047 : Int)) ∧ ((0 : Int) ≤ y.n (100005 :
      Nat) ∧ y.n (100005 : Nat) ≤ (63 : Int)) ∧ ((0 : Int) ≤ y.n (100007 : Nat) ∧ y.n (100007 : Nat) ≤ (3 : Int)) ∧ ((0 : Int) ≤ y.n (100008 : Nat) ∧ y.n (100008 : Nat) ≤ (15 :
      Int)) ∧ ((0 : Int) ≤ y.n (100011 : Nat) ∧ y.n (100011 : Nat) ≤ (15 : Int)) ∧ ((0 : Int) ≤ IntKind.i64.wrap (bits BinOp.and IntKind.u16 x (2047 : Int)) ∧ IntKind.i64.wrap
      (bits BinOp.and IntKind.u16 x (2047 : Int)) ≤ (2047 : Int)) ∧ ((0 : Int) ≤ (0 : Int) ∧ (0 : Int) ≤ (63 : Int)) ∧ ((0 : Int) ≤ y.n (100019 : Nat) ∧ y.n (100019 : Nat) ≤ (3
      : Int)) ∧ ((0 : Int) ≤ y.n (100020 : Nat) ∧ y.n (100020 : Nat) ≤ (15 : Int)) ∧ ((0 : Int) ≤ y.n (100020 : Nat) ∧ y.n (100020 : Nat) ≤ (15 : Int)) ∧ ((0 : Int) ≤ y.n
      (100028 : Nat) ∧ y.n (100028 : Nat) ≤ (2047 : Int)) ∧ ((0 : Int) ≤ y.n (100029 : Nat) ∧ y.n (100029 : Nat) ≤ (63 : Int)) ∧ ((0 : Int) ≤ y.n (100031 : Nat) ∧ y.n (100031 :
      Nat) ≤ (3 : Int)) ∧ ((0 : Int) ≤ y.n (100032 : Nat) ∧ y.n (100032 : Nat) ≤ (15 : Int)) ∧ ((0 : Int) ≤ y.n (100035 : Nat) ∧ y.n (100035 : Nat) ≤ (15 : Int)) ∧ ((0 : Int) ≤
      y.n (100040 : Nat) ∧ y.n (100040 : Nat) ≤ (2047 : Int)) ∧ ((0 : Int) ≤ y.n (100041 : Nat) ∧ y.n (100041 : Nat) ≤ (63 : Int)) ∧ ((0 : Int) ≤ y.n (100043 : Nat) ∧ y.n
      (100043 : Nat) ≤ (3 : Int)) ∧ ((0 : Int) ≤ y.n (100044 : Nat) ∧ y.n (100044 : Nat) ≤ (15 : Int)) ∧ ((0 : Int) ≤ y.n (100047 : Nat) ∧ y.n (100047 : Nat) ≤ (15 : Int)) ∧ ((0
      : Int) ≤ y.n (100050 : Nat) ∧ y.n (100050 : Nat) ≤ (7 : Int)) ∧ ((0 : Int) ≤ y.n (100086 : Nat) ∧ y.n (100086 : Nat) ≤ (1 : Int)) ∧ ((0 : Int) ≤ y.n (100088 : Nat) ∧ y.n
      (100088 : Nat) ≤ (4 : Int)) ∧ ((0 : Int) ≤ y.n (100092 : Nat) ∧ y.n (100092 : Nat) ≤ (15 : Int)) ∧ ((0 : Int) ≤ y.n (100093 : Nat) ∧ y.n (100093 : Nat) ≤ (7 : Int)) ∧
      True) ∧ S = S) ∧ True) ∧ ∀ (y_1 : PX), (((1 : Int) ≤ y_1.n (90000 : Nat) ∧ y_1.n (90000 : Nat) ≤ (16777216 : Int)) ∧ True) ∧ True → True ∧ (mpB = mpB ∧ (50 : Nat) = (50 :
      Nat) ∧ (((0 : Int) ≤ y.n (100000 : Nat) ∧ y.n (100000 : Nat) ≤ (2199023255552 : Int)) ∧ ((0 : Int) ≤ y.n (100004 : Nat) ∧ y.n (100004 : Nat) ≤ (2047 : Int)) ∧ ((0 : Int) ≤
      y.n (100005 : Nat) ∧ y.n (100005 : Nat) ≤ (63 : Int)) ∧ ((0 : Int) ≤ y.n (100006 : Nat) ∧ y.n (100006 : Nat) ≤ (16777216 : Int)) ∧ ((0 : Int) ≤ y.n (100007 : Nat) ∧ y.n
      (100007 : Nat) ≤ (3 : Int)) ∧ ((0 : Int) ≤ y.n (100008 : Nat) ∧ y.n (100008 : Nat) ≤ (15 : Int)) ∧ ((0 : Int) ≤ y.n (100011 : Nat) ∧ y.n (100011 : Nat) ≤ (15 : Int)) ∧ ((0
      : Int) ≤ IntKind.i64.wrap (bits BinOp.and IntKind.u16 x (2047 : Int)) ∧ IntKind.i64.wrap (bits BinOp.and IntKind.u16 x (2047 : Int)) ≤ (2047 : Int)) ∧ ((0 : Int) ≤ (0 :
      Int) ∧ (0 : Int) ≤ (63 : Int)) ∧ ((0 : Int) ≤ y_1.n (90000 : Nat) ∧ y_1.n (90000 : Nat) ≤ (16777216 : Int)) ∧ ((0 : Int) ≤ y.n (100019 : Nat) ∧ y.n (100019 : Nat) ≤ (3 :
      Int)) ∧ ((0 : Int) ≤ y.n (100020 : Nat) ∧ y.n (100020 : Nat) ≤ (15 : Int)) ∧ ((0 : Int) ≤ y.n (100020 : Nat) ∧ y.n (100020 : Nat) ≤ (15 : Int)) ∧ ((0 : Int) ≤ y.n (100028
      : Nat) ∧ y.n (100028 : Nat) ≤ (2047 : Int)) ∧ ((0 : Int) ≤ y.n (100029 : Nat) ∧ y.n (100029 : Nat) ≤ (63 : Int)) ∧ ((0 : Int) ≤ y.n (100030 : Nat) ∧ y.n (100030 : Nat) ≤
      (16777216 : Int)) ∧ ((0 : Int) ≤ y.n (100031 : Nat) ∧ y.n (100031 : Nat) ≤ (3 : Int)) ∧ ((0 : Int) ≤ y.n (100032 : Nat) ∧ y.n (100032 : Nat) ≤ (15 : Int)) ∧ ((0 : Int) ≤
      y.n (100035 : Nat) ∧ y.n (100035 : Nat) ≤ (15 : Int)) ∧ ((0 : Int) ≤ y.n (100040 : Nat) ∧ y.n (100040 : Nat) ≤ (2047 : Int)) ∧ ((0 : Int) ≤ y.n (100041 : Nat) ∧ y.n
      (100041 : Nat) ≤ (63 : Int)) ∧ ((0 : Int) ≤ y.n (100042 : Nat) ∧ y.n (100042 : Nat) ≤ (16777216 : Int)) ∧ ((0 : Int) ≤ y.n (100043 : Nat) ∧ y.n (100043 : Nat) ≤ (3 : Int))
      ∧ ((0 : Int) ≤ y.n (100044 : Nat) ∧ y.n (100044 : Nat) ≤ (15 : Int)) ∧ ((0 : Int) ≤ y.n (100047 : Nat) ∧ y.n (100047 : Nat) ≤ (15 : Int)) ∧ ((0 : Int) ≤ y.n (100050 : Nat)
      ∧ y.n (100050 : Nat) ≤ (7 : Int)) ∧ ((0 : Int) ≤ y.n (100086 : Nat) ∧ y.n (100086 : Nat) ≤ (1 : Int)) ∧ ((0 : Int) ≤ y.n (100088 : Nat) ∧ y.n (100088 : Nat) ≤ (4 : Int)) ∧
      ((0 : Int) ≤ y.n (100092 : Nat) ∧ y.n (100092 : Nat) ≤ (15 : Int)) ∧ ((0 : Int) ≤ y.n (100093 : Nat) ∧ y.n (100093 : Nat) ≤ (7 : Int)) ∧ True) ∧ S = S) ∧ True)) ∧ ((y.n
      (100020 : Nat) != (0 : Int)) = false → ((y.n (100014 : Nat) == (0 : Int)) = true → ((mpB = mpB ∧ (50 : Nat) = (50 : Nat) ∧ (((0 : Int) ≤ y.n (100000 : Nat) ∧ y.n (100000 :
      Nat) ≤ (2199023255552 : Int)) ∧ ((0 : Int) ≤ y.n (100004 : Nat) ∧ y.n (100004 : Nat) ≤ (2047 : Int)) ∧ ((0 : Int) ≤ y.n (100005 : Nat) ∧ y.n (100005 : Nat) ≤ (63 : Int)) ∧
      ((0 : Int) ≤ y.n (100007 : Nat) ∧ y.n (100007 : Nat) ≤ (3 : Int)) ∧ ((0 : Int) ≤ y.n (100008 : Nat) ∧ y.n (100008 : Nat) ≤ (15 : Int)) ∧ ((0 : Int) ≤ y.n (100011 : Nat) ∧
      y.n (100011 : Nat) ≤ (15 : Int)) ∧ ((0 : Int) ≤ IntKind.i64.wrap (bits BinOp.and IntKind.u16 x (2047 : Int)) ∧ IntKind.i64.wrap (bits BinOp.and IntKind.u16 x (2047 : Int))
      ≤ (2047 : Int)) ∧ ((0 : Int) ≤ (0 : Int) ∧ (0 : Int) ≤ (63 : Int)) ∧ ((0 : Int) ≤ y.n (100019 : Nat) ∧ y.n (100019 : Nat) ≤ (3 : Int)) ∧ ((0 : Int) ≤ y.n (100020 : Nat) ∧
      y.n (100020 : Nat) ≤ (15 : Int)) ∧ ((0 : Int) ≤ y.n (100020 : Nat) ∧ y.n (100020 : Nat) ≤ (15 : Int)) ∧ ((0 : Int) ≤ y.n (100028 : Nat) ∧ y.n (100028 : Nat) ≤ (2047 :
      Int)) ∧ ((0 : Int) ≤ y.n (100029 : Nat) ∧ y.n (100029 : Nat) ≤ (63 : Int)) ∧ ((0 : Int) ≤ y.n (100031 : Nat) ∧ y.n (100031 : Nat) ≤ (3 : Int)) ∧ ((0 : Int) ≤ y.n (100032 :
      Nat) ∧ y.n (100032 : Nat) ≤ (15 : Int)) ∧ ((0 : Int) ≤ y.n (100035 : Nat) ∧ y.n (100035 : Nat) ≤ (15 : Int)) ∧ ((0 : Int) ≤ y.n (100040 : Nat) ∧ y.n (100040 : Nat) ≤ (2047
      : Int)) ∧ ((0 : Int) ≤ y.n (100041 : Nat) ∧ y.n (100041 : Nat) ≤ (63 : Int)) ∧ ((0 : Int) ≤ y.n (100043 : Nat) ∧ y.n (100043 : Nat) ≤ (3 : Int)) ∧ ((0 : Int) ≤ y.n (100044
      : Nat) ∧ y.n (100044 : Nat) ≤ (15 : Int)) ∧ ((0 : Int) ≤ y.n (100047 : Nat) ∧ y.n (100047 : Nat) ≤ (15 : Int)) ∧ ((0 : Int) ≤ y.n (100050 : Nat) ∧ y.n (100050 : Nat) ≤ (7
      : Int)) ∧ ((0 : Int) ≤ y.n (100086 : Nat) ∧ y.n (100086 : Nat) ≤ (1 : Int)) ∧ ((0 : Int) ≤ y.n (100088 : Nat) ∧ y.n (100088 : Nat) ≤ (4 : Int)) ∧ ((0 : Int) ≤ y.n (100092
      : Nat) ∧ y.n (100092 : Nat) ≤ (15 : Int)) ∧ ((0 : Int) ≤ y.n (100093 : Nat) ∧ y.n (100093 : Nat) ≤ (7 : Int)) ∧ True) ∧ S = S) ∧ True) ∧ ∀ (y_1 : PX), (((1 : Int) ≤ y_1.n
      (90000 : Nat) ∧ y_1.n (90000 : Nat) ≤ (16777216 : Int)) ∧ True) ∧ True → True ∧ (mpB = mpB ∧ (50 : Nat) = (50 : Nat) ∧ (((0 : Int) ≤ y.n (100000 : Nat) ∧ y.n (100000 :
      Nat) ≤ (2199023255552 : Int)) ∧ ((0 : Int) ≤ y.n (100004 : Nat) ∧ y.n (100004 : Nat) ≤ (2047 : Int)) ∧ ((0 : Int) ≤ y.n (100005 : Nat) ∧ y.n (100005 : Nat) ≤ (63 : Int)) ∧
      ((0 : Int) ≤ y.n (100006 : Nat) ∧ y.n (100006 : Nat) ≤ (16777216 : Int)) ∧ ((0 : Int) ≤ y.n (100007 : Nat) ∧ y.n (100007 : Nat) ≤ (3 : Int)) ∧ ((0 : Int) ≤ y.n (100008 :
      Nat) ∧ y.n (100008 : Nat) ≤ (15 : Int)) ∧ ((0 : Int) ≤ y.n (100011 : Nat) ∧ y.n (100011 : Nat) ≤ (15 : Int)) ∧ ((0 : Int) ≤ IntKind.i64.wrap (bits BinOp.and IntKind.u16 x
      (2047 : Int)) ∧ IntKind.i64.wrap (bits BinOp.and IntKind.u16 x (2047 : Int)) ≤ (2047 : Int)) ∧ ((0 : Int) ≤ (0 : Int) ∧ (0 : Int) ≤ (63 : Int)) ∧ ((0 : Int) ≤ y_1.n (90000
      : Nat) ∧ y_1.n (90000 : Nat) ≤ (16777216 : Int)) ∧ ((0 : Int) ≤ y.n (100019 : Nat) ∧ y.n (100019 : Nat) ≤ (3 : Int)) ∧ ((0 : Int) ≤ y.n (100020 : Nat) ∧ y.n (100020 : Nat)
      ≤ (15 : Int)) ∧ ((0 : Int) ≤ y.n (100020 : Nat) ∧ y.n (100020 : Nat) ≤ (15 : Int)) ∧ ((0 : Int) ≤ y.n (100028 : Nat) ∧ y.n (100028 : Nat) ≤ (2047 : Int)) ∧ ((0 : Int) ≤
      y.n (100029 : Nat) ∧ y.n (100029 : Nat) ≤ (63 : Int)) ∧ ((0 : Int) ≤ y.n (100030 : Nat) ∧ y.n (100030 : Nat) ≤ (16777216 : Int)) ∧ ((0 : Int) ≤ y.n (100031 : Nat) ∧ y.n
      (100031 : Nat) ≤ (3 : Int)) ∧ ((0 : Int) ≤ y.n (100032 : Nat) ∧ y.n (100032 : Nat) ≤ (15 : Int)) ∧ ((0 : Int) ≤ y.n (100035 : Nat) ∧ y.n (100035 : Nat) ≤ (15 : Int)) ∧ ((0
      : Int) ≤ y.n (100040 : Nat) ∧ y.n (100040 : Nat) ≤ (2047 : Int)) ∧ ((0 : Int) ≤ y.n (100041 : Nat) ∧ y.n (100041 : Nat) ≤ (63 : Int)) ∧ ((0 : Int) ≤ y.n (100042 : Nat) ∧
      y.n (100042 : Nat) ≤ (16777216 : Int)) ∧ ((0 : Int) ≤ y.n (100043 : Nat) ∧ y.n (100043 : Nat) ≤ (3 : Int)) ∧ ((0 : Int) ≤ y.n (100044 : Nat) ∧ y.n (100044 : Nat) ≤ (15 :
      Int)) ∧ ((0 : Int) ≤ y.n (100047 : Nat) ∧ y.n (100047 : Nat) ≤ (15 : Int)) ∧ ((0 : Int) ≤ y.n (100050 : Nat) ∧ y.n (100050 : Nat) ≤ (7 : Int)) ∧ ((0 : Int) ≤ y.n (100086 :
      Nat) ∧ y.n (100086 : Nat) ≤ (1 : Int)) ∧ ((0 : Int) ≤ y.n (100088 : Nat) ∧ y.n (100088 : Nat) ≤ (4 : Int)) ∧ ((0 : Int) ≤ y.n (100092 : Nat) ∧ y.n (100092 : Nat) ≤ (15 :
      Int)) ∧ ((0 : Int) ≤ y.n (100093 : Nat) ∧ y.n (100093 : Nat) ≤ (7 : Int)) ∧ True) ∧ S = S) ∧ True) ∧ ((y.n (100014 : Nat) == (0 : Int)) = false → ((mpB = mpB ∧ (50 : Nat)
      = (50 : Nat) ∧ (((0 : Int) ≤ y.n (100000 : Nat) ∧ y.n (100000 : Nat) ≤ (2199023255552 : Int)) ∧ ((0 : Int) ≤ y.n (100004 : Nat) ∧ y.n (100004 : Nat) ≤ (2047 : Int)) ∧ ((0
      : Int) ≤ y.n (100005 : Nat) ∧ y.n (100005 : Nat) ≤ (63 : Int)) ∧ ((0 : Int) ≤ y.n (100007 : Nat) ∧ y.n (100007 : Nat) ≤ (3 : Int)) ∧ ((0 : Int) ≤ y.n (100008 : Nat) ∧ y.n
      (100008 : Nat) ≤ (15 : Int)) ∧ ((0 : Int) ≤ y.n (100011 : Nat) ∧ y.n (100011 : Nat) ≤ (15 : Int)) ∧ ((0 : Int) ≤ IntKind.i64.wrap (bits BinOp.and IntKind.u16 x (2047 :
      Int)) ∧ IntKind.i64.wrap (bits BinOp.and IntKind.u16 x (2047 : Int)) ≤ (2047 : Int)) ∧ ((0 : Int) ≤ (0 : Int) ∧ (0 : Int) ≤ (63 : Int)) ∧ ((0 : Int) ≤ y.n (100019 : Nat) ∧
      y.n (100019 : Nat) ≤ (3 : Int)) ∧ ((0 : Int) ≤ y.n (100020 : Nat) ∧ y.n (100020 : Nat) ≤ (15 : Int)) ∧ ((0 : Int) ≤ y.n (100020 : Nat) ∧ y.n (100020 : Nat) ≤ (15 : Int)) ∧
      ((0 : Int) ≤ y.n (100028 : Nat) ∧ y.n (100028 : Nat) ≤ (2047 : Int)) ∧ ((0 : Int) ≤ y.n (100029 : Nat) ∧ y.n (100029 : Nat) ≤ (63 : Int)) ∧ ((0 : Int) ≤ y.n (100031 : Nat)
      ∧ y.n (100031 : Nat) ≤ (3 : Int)) ∧ ((0 : Int) ≤ y.n (100032 : Nat) ∧ y.n (100032 : Nat) ≤ (15 : Int)) ∧ ((0 : Int) ≤ y.n (100035 : Nat) ∧ y.n (100035 : Nat) ≤ (15 : Int))
      ∧ ((0 : Int) ≤ y.n (100040 : Nat) ∧ y.n (100040 : Nat) ≤ (2047 : Int)) ∧ ((0 : Int) ≤ y.n (100041 : Nat) ∧ y.n (100041 : Nat) ≤ (63 : Int)) ∧ ((0 : Int) ≤ y.n (100043 :
      Nat) ∧ y.n (100043 : Nat) ≤ (3 : Int)) ∧ ((0 : Int) ≤ y.n (100044 : Nat) ∧ y.n (100044 : Nat) ≤ (15 : Int)) ∧ ((0 : Int) ≤ y.n (100047 : Nat) ∧ y.n (100047 : Nat) ≤ (15 :
      Int)) ∧ ((0 : Int) ≤ y.n (100050 : Nat) ∧ y.n (100050 : Nat) ≤ (7 : Int)) ∧ ((0 : Int) ≤ y.n (100086 : Nat) ∧ y.n (100086 : Nat) ≤ (1 : Int)) ∧ ((0 : Int) ≤ y.n (100088 :
      Nat) ∧ y.n (100088 : Nat) ≤ (4 : Int)) ∧ ((0 : Int) ≤ y.n (100092 : Nat) ∧ y.n (100092 : Nat) ≤ (15 : Int)) ∧ ((0 : Int) ≤ y.n (100093 : Nat) ∧ y.n (100093 : Nat) ≤ (7 :
      Int)) ∧ True) ∧ S = S) ∧ True) ∧ ∀ (y_1 : PX), (((1 : Int) ≤ y_1.n (90000 : Nat) ∧ y_1.n (90000 : Nat) ≤ (16777216 : Int)) ∧ True) ∧ True → True ∧ (mpB = mpB ∧ (50 : Nat)
      = (50 : Nat) ∧ (((0 : Int) ≤ y.n (100000 : Nat) ∧ y.n (100000 : Nat) ≤ (2199023255552 : Int)) ∧ ((0 : Int) ≤ y.n (100004 : Nat) ∧ y.n (100004 : Nat) ≤ (2047 : Int)) ∧ ((0
      : Int) ≤ y.n (100005 : Nat) ∧ y.n (100005 : Nat) ≤ (63 : Int)) ∧ ((0 : Int) ≤ y.n (100006 : Nat) ∧ y.n (100006 : Nat) ≤ (16777216 : Int)) ∧ ((0 : Int) ≤ y.n (100007 : Nat)
      ∧ y.n (100007 : Nat) ≤ (3 : Int)) ∧ ((0 : Int) ≤ y.n (100008 : Nat) ∧ y.n (100008 : Nat) ≤ (15 : Int)) ∧ ((0 : Int) ≤ y.n (100011 : Nat) ∧ y.n (100011 : Nat) ≤ (15 : Int))
      ∧ ((0 : Int) ≤ IntKind.i64.wrap (bits BinOp.and IntKind.u16 x (2047 : Int)) ∧ IntKind.i64.wrap (bits BinOp.and IntKind.u16 x (2047 : Int)) ≤ (2047 : Int)) ∧ ((0 : Int) ≤
      (0 : Int) ∧ (0 : Int) ≤ (63 : Int)) ∧ ((0 : Int) ≤ y_1.n (90000 : Nat) ∧ y_1.n (90000 : Nat) ≤ (16777216 : Int)) ∧ ((0 : Int) ≤ y.n (100019 : Nat) ∧ y.n (100019 : Nat) ≤
      (3 : Int)) ∧ ((0 : Int) ≤ y.n (100020 : Nat) ∧ y.n (100020 : Nat) ≤ (15 : Int)) ∧ ((0 : Int) ≤ y.n (100020 : Nat) ∧ y.n (100020 : Nat) ≤ (15 : Int)) ∧ ((0 : Int) ≤ y.n
      (100028 : Nat) ∧ y.n (100028 : Nat) ≤ (2047 : Int)) ∧ ((0 : Int) ≤ y.n (100029 : Nat) ∧ y.n (100029 : Nat) ≤ (63 : Int)) ∧ ((0 : Int) ≤ y.n (100030 : Nat) ∧ y.n (100030 :
      Nat) ≤ (16777216 : Int)) ∧ ((0 : Int) ≤ y.n (100031 : Nat) ∧ y.n (100031 : Nat) ≤ (3 : Int)) ∧ ((0 : Int) ≤ y.n (100032 : Nat) ∧ y.n (100032 : Nat) ≤ (15 : Int)) ∧ ((0 :
      Int) ≤ y.n (100035 : Nat) ∧ y.n (100035 : Nat) ≤ (15 : Int)) ∧ ((0 : Int) ≤ y.n (100040 : Nat) ∧ y.n (100040 : Nat) ≤ (2047 : Int)) ∧ ((0 : Int) ≤ y.n (100041 : Nat) ∧ y.n
      (100041 : Nat) ≤ (63 : Int)) ∧ ((0 : Int) ≤ y.n (100042 : Nat) ∧ y.n (100042 : Nat) ≤ (16777216 : Int)) ∧ ((0 : Int) ≤ y.n (100043 : Nat) ∧ y.n (100043 : Nat) ≤ (3 : Int))
      ∧ ((0 : Int) ≤ y.n (100044 : Nat) ∧ y.n (100044 : Nat) ≤ (15 : Int)) ∧ ((0 : Int) ≤ y.n (100047 : Nat) ∧ y.n (100047 : Nat) ≤ (15 : Int)) ∧ ((0 : Int) ≤ y.n (100050 : Nat)
      ∧ y.n (100050 : Nat) ≤ (7 : Int)) ∧ ((0 : Int) ≤ y.n (100086 : Nat) ∧ y.n (100086 : Nat) ≤ (1 : Int)) ∧ ((0 : Int) ≤ y.n (100088 : Nat) ∧ y.n (100088 : Nat) ≤ (4 : Int)) ∧
      ((0 : Int) ≤ y.n (100092 : Nat) ∧ y.n (100092 : Nat) ≤ (15 : Int)) ∧ ((0 : Int) ≤ y.n (100093 : Nat) ∧ y.n (100093 : Nat) ≤ (7 : Int)) ∧ True) ∧ S = S) ∧ True)))) := by kernel_rfl
set_option maxHeartbeats 2000000 in
theorem wr4_c (E : World) (S : SW) (k : Int) (x : Int) (z : PX) (hz : rgM z (uM mpB) 0) (hp : (fun _ => 0 ≤ x ∧ x ≤ 65535) z) : HC (pe E) 8 [.c (.p 1 0), .c (.i false .i64 k), .c (.i true .i64 4), .c (.i false .u16 x)] (uM mpB) S (.t []) (fun _ _ => True) z := by
  refine HC.mk false (by rfl) (by rfl) (by rfl) (by rfl) (fnTree_sound (P := pe E) orcS_ok tab_ok tab_sz mixed 20000 Try.func8 (by decide) [.c (.p 1 0), .c (.i false .i64 k), .c (.i true .i64 4), .c (.i false .u16 x)] _) ⟨?_⟩
  rw [wr4_p]
  obtain ⟨h0, h4, h5, h6, h7, h8, h11, h16, h17, h18, h19, h20, h23, h28, h29, h30, h31, h32, h35, h40, h41, h42, h43, h44, h47, h50, h86, h88, h92, h93, _⟩ := rg_u hz
  obtain ⟨p1, p2⟩ := hp
  (repeat' (first | assumption | exact trivial | exact rfl | apply And.intro | (rintro y ⟨⟨⟨h0, h4, h5, h6, h7, h8, h11, h16, h17, h18, h19, h20, h23, h28, h29, h30, h31, h32, h35, h40, h41, h42, h43, h44, h47, h50, h86, h88, h92, h93, _⟩, _⟩, _, hq⟩; (try rw [hq])) | (rintro y ⟨⟨hr, _⟩, hq⟩) | intro _)) <;> ((try simp only [inB, f4096, f64, f2048, f16, f8, f32, f128, f256, f8192, a1, a3, a7, a15, a63, a2047, wi64, wu16, Bool.not_eq_true', Bool.not_eq_false', Bool.and_eq_true, Bool.or_eq_true, beq_iff_eq, bne_iff_ne, ne_eq, beq_eq_false_iff_ne, bne_eq_false_iff_eq, decide_eq_true_eq, decide_eq_false_iff_not] at *) <;> (repeat' split) <;> omega)
theorem wr5_p (E : World) (S : SW) (z : PX) (k : Int) (x : Int) :
    (hoP false (uM mpB) S (.t []) (fun _ _ => True) z (fnTree (pe E) (orcS E) (tabL fns) 20000 Try.f8 [.c (.p 1 0), .c (.i false .i64 k), .c (.i true .i64 5), .c (.i false .u16 x)] (mkM z S (uM mpB) 0))) =
    (((mpB = mpB ∧ (50 : Nat) = (50 : Nat) ∧ (RG z) ∧ S = S) ∧ True) ∧ ∀ (y : PX), ((RG y) ∧ True) ∧ True ∧ True → ((!bits BinOp.and IntKind.u16 (x.fdiv (128 : Int)) (1 : Int)
      != (0 : Int)) = true → True ∧ (mpB = mpB ∧ (50 : Nat) = (50 : Nat) ∧ (((0 : Int) ≤ y.n (100000 : Nat) ∧ y.n (100000 : Nat) ≤ (2199023255552 : Int)) ∧ ((0 : Int) ≤ y.n
      (100004 : Nat) ∧ y.n (100004 : Nat) ≤ (2047 : Int)) ∧ ((0 : Int) ≤ y.n (100005 : Nat) ∧ y.n (100005 : Nat) ≤ (63 : Int)) ∧ ((0 : Int) ≤ y.n (100006 : Nat) ∧ y.n (100006 :
      Nat) ≤ (16777216 : Int)) ∧ ((0 : Int) ≤ y.n (100007 : Nat) ∧ y.n (100007 : Nat) ≤ (3 : Int)) ∧ ((0 : Int) ≤ y.n (100008 : Nat) ∧ y.n (100008 : Nat) ≤ (15 : Int)) ∧ ((0 :
      Int) ≤ y.n (100011 : Nat) ∧ y.n (100011 : Nat) ≤ (15 : Int)) ∧ ((0 : Int) ≤ y.n (100016 : Nat) ∧ y.n (100016 : Nat) ≤ (2047 : Int)) ∧ ((0 : Int) ≤ y.n (100017 : Nat) ∧ y.n
      (100017 : Nat) ≤ (63 : Int)) ∧ ((0 : Int) ≤ y.n (100018 : Nat) ∧ y.n (100018 : Nat) ≤ (16777216 : Int)) ∧ ((0 : Int) ≤ y.n (100019 : Nat) ∧ y.n (100019 : Nat) ≤ (3 : Int))
      ∧ ((0 : Int) ≤ y.n (100020 : Nat) ∧ y.n (100020 : Nat) ≤ (15 : Int)) ∧ ((0 : Int) ≤ y.n (100023 : Nat) ∧ y.n (100023 : Nat) ≤ (15 : Int)) ∧ ((0 : Int) ≤ y.n (100028 : Nat)
      ∧ y.n (100028 : Nat) ≤ (2047 : Int)) ∧ ((0 : Int) ≤ y.n (100029 : Nat) ∧ y.n (100029 : Nat) ≤ (63 : Int)) ∧ ((0 : Int) ≤ y.n (100030 : Nat) ∧ y.n (100030 : Nat) ≤
      (16777216 : Int)) ∧ ((0 : Int) ≤ y.n (100031 : Nat) ∧ y.n (100031 : Nat) ≤ (3 : Int)) ∧ ((0 : Int) ≤ y.n (100032 : Nat) ∧ y.n (100032 : Nat) ≤ (15 : Int)) ∧ ((0 : Int) ≤
      y.n (100035 : Nat) ∧ y.n (100035 : Nat) ≤ (15 : Int)) ∧ ((0 : Int) ≤ y.n (100040 : Nat) ∧ y.n (100040 : Nat) ≤ (2047 : Int)) ∧ ((0 : Int) ≤ y.n (100041 : Nat) ∧ y.n
      (100041 : Nat) ≤ (63 : Int)) ∧ ((0 : Int) ≤ y.n (100042 : Nat) ∧ y.n (100042 : Nat) ≤ (16777216 : Int)) ∧ ((0 : Int) ≤ y.n (100043 : Nat) ∧ y.n (100043 : Nat) ≤ (3 : Int))
      ∧ ((0 : Int) ≤ y.n (100044 : Nat) ∧ y.n (100044 : Nat) ≤ (15 : Int)) ∧ ((0 : Int) ≤ y.n (100047 : Nat) ∧ y.n (100047 : Nat) ≤ (15 : Int)) ∧ ((0 : Int) ≤ y.n (100050 : Nat)
      ∧ y.n (100050 : Nat) ≤ (7 : Int)) ∧ ((0 : Int) ≤ IntKind.i64.wrap (bits BinOp.and IntKind.u16 (x.fdiv (64 : Int)) (1 : Int)) ∧ IntKind.i64.wrap (bits BinOp.and IntKind.u16
      (x.fdiv (64 : Int)) (1 : Int)) ≤ (1 : Int)) ∧ ((0 : Int) ≤ y.n (100088 : Nat) ∧ y.n (100088 : Nat) ≤ (4 : Int)) ∧ ((0 : Int) ≤ y.n (100092 : Nat) ∧ y.n (100092 : Nat) ≤
      (15 : Int)) ∧ ((0 : Int) ≤ y.n (100093 : Nat) ∧ y.n (100093 : Nat) ≤ (7 : Int)) ∧ True) ∧ S = S) ∧ True) ∧ ((!bits BinOp.and IntKind.u16 (x.fdiv (128 : Int)) (1 : Int) !=
      (0 : Int)) = false → True ∧ (mpB = mpB ∧ (50 : Nat) = (50 : Nat) ∧ (((0 : Int) ≤ y.n (100000 : Nat) ∧ y.n (100000 : Nat) ≤ (2199023255552 : Int)) ∧ ((0 : Int) ≤ y.n
      (100004 : Nat) ∧ y.n (100004 : Nat) ≤ (2047 : Int)) ∧ ((0 : Int) ≤ y.n (100005 : Nat) ∧ y.n (100005 : Nat) ≤ (63 : Int)) ∧ ((0 : Int) ≤ y.n (100006 : Nat) ∧ y.n (100006 :
      Nat) ≤ (16777216 : Int)) ∧ ((0 : Int) ≤ y.n (100007 : Nat) ∧ y.n (100007 : Nat) ≤ (3 : Int)) ∧ ((0 : Int) ≤ y.n (100008 : Nat) ∧ y.n (100008 : Nat) ≤ (15 : Int)) ∧ ((0 :
      Int) ≤ y.n (100011 : Nat) ∧ y.n (100011 : Nat) ≤ (15 : Int)) ∧ ((0 : Int) ≤ y.n (100016 : Nat) ∧ y.n (100016 : Nat) ≤ (2047 : Int)) ∧ ((0 : Int) ≤ y.n (100017 : Nat) ∧ y.n
      (100017 : Nat) ≤ (63 : Int)) ∧ ((0 : Int) ≤ y.n (100018 : Nat) ∧ y.n (100018 : Nat) ≤ (16777216 : Int)) ∧ ((0 : Int) ≤ y.n (100019 : Nat) ∧ y.n (100019 : Nat) ≤ (3 : Int))
      ∧ ((0 : Int) ≤ y.n (100020 : Nat) ∧ y.n (100020 : Nat) ≤ (15 : Int)) ∧ ((0 : Int) ≤ y.n (100023 : Nat) ∧ y.n (100023 : Nat) ≤ (15 : Int)) ∧ ((0 : Int) ≤ y.n (100028 : Nat)
      ∧ y.n (100028 : Nat) ≤ (2047 : Int)) ∧ ((0 : Int) ≤ y.n (100029 : Nat) ∧ y.n (100029 : Nat) ≤ (63 : Int)) ∧ ((0 : Int) ≤ y.n (100030 : Nat) ∧ y.n (100030 : Nat) ≤
      (16777216 : Int)) ∧ ((0 : Int) ≤ y.n (100031 : Nat) ∧ y.n (100031 : Nat) ≤ (3 : Int)) ∧ ((0 : Int) ≤ y.n (100032 : Nat) ∧ y.n (100032 : Nat) ≤ (15 : Int)) ∧ ((0 : Int) ≤
      y.n (100035 : Nat) ∧ y.n (100035 : Nat) ≤ (15 : Int)) ∧ ((0 : Int) ≤ y.n (100040 : Nat) ∧ y.n (100040 : Nat) ≤ (2047 : Int)) ∧ ((0 : Int) ≤ y.n (100041 : Nat) ∧ y.n
      (100041 : Nat) ≤ (63 : Int)) ∧ ((0 : Int) ≤ y.n (100042 : Nat) ∧ y.n (100042 : Nat) ≤ (16777216 : Int)) ∧ ((0 : Int) ≤ y.n (100043 : Nat) ∧ y.n (100043 : Nat) ≤ (3 : Int))
      ∧ ((0 : Int) ≤ y.n (100044 : Nat) ∧ y.n (100044 : Nat) ≤ (15 : Int)) ∧ ((0 : Int) ≤ y.n (100047 : Nat) ∧ y.n (100047 : Nat) ≤ (15 : Int)) ∧ ((0 : Int) ≤ y.n (100050 : Nat)
      ∧ y.n (100050 : Nat) ≤ (7 : Int)) ∧ ((0 : Int) ≤ IntKind.i64.wrap (bits BinOp.and IntKind.u16 (x.fdiv (64 : Int)) (1 : Int)) ∧ IntKind.i64.wrap (bits BinOp.and IntKind.u16
      (x.fdiv (64 : Int)) (1 : Int)) ≤ (1 : Int)) ∧ ((0 : Int) ≤ y.n (100088 : Nat) ∧ y.n (100088 : Nat) ≤ (4 : Int)) ∧ ((0 : Int) ≤ y.n (100092 : Nat) ∧ y.n (100092 : Nat) ≤
      (15 : Int)) ∧ ((0 : Int) ≤ y.n (100093 : Nat) ∧ y.n (100093 : Nat) ≤ (7 : Int)) ∧ True) ∧ S = S) ∧ True)) := by kernel_rfl
set_option maxHeartbeats 2000000 in
theorem wr5_c (E : World) (S : SW) (k : Int) (x : Int) (z : PX) (hz : rgM z (uM mpB) 0) (hp : (fun _ => 0 ≤ x ∧ x ≤ 65535) z) : HC (pe E) 8 [.c (.p 1 0), .c (.i false .i64 k), .c (.i true .i64 5), .c (.i false .u16 x)] (uM mpB) S (.t []) (fun _ _ => True) z := by
  refine HC.mk false (by rfl) (by rfl) (by rfl) (by rfl) (fnTree_sound (P := pe E) orcS_ok tab_ok tab_sz mixed 20000 Try.func8 (by decide) [.c (.p 1 0), .c (.i false .i64 k), .c (.i true .i64 5), .c (.i false .u16 x)] _) ⟨?_⟩
  rw [wr5_p]
  obtain ⟨h0, h4, h5, h6, h7, h8, h11, h16, h17, h18, h19, h20, h23, h28, h29, h30, h31, h32, h35, h40, h41, h42, h43, h44, h47, h50, h86, h88, h92, h93, _⟩ := rg_u hz
  obtain ⟨p1, p2⟩ := hp
  (repeat' (first | assumption | exact trivial | exact rfl | apply And.intro | (rintro y ⟨⟨⟨h0, h4, h5, h6, h7, h8, h11, h16, h17, h18, h19, h20, h23, h28, h29, h30, h31, h32, h35, h40, h41, h42, h43, h44, h47, h50, h86, h88, h92, h93, _⟩, _⟩, _, hq⟩; (try rw [hq])) | (rintro y ⟨⟨hr, _⟩, hq⟩) | intro _)) <;> ((try simp only [inB, f4096, f64, f2048, f16, f8, f32, f128, f256, f8192, a1, a3, a7, a15, a63, a2047, wi64, wu16, Bool.not_eq_true', Bool.not_eq_false', Bool.and_eq_true, Bool.or_eq_true, beq_iff_eq, bne_iff_ne, ne_eq, beq_eq_false_iff_ne, bne_eq_false_iff_eq, decide_eq_true_eq, decide_eq_false_iff_not] at *) <;> (repeat' split) <;> omega)
theorem wr6_p (E : World) (S : SW) (z : PX) (k : Int) (x : Int) :
    (hoP false (uM mpB) S (.t []) (fun _ _ => True) z (fnTree (pe E) (orcS E) (tabL fns) 20000 Try.f8 [.c (.p 1 0), .c (.i false .i64 k), .c (.i true .i64 6), .c (.i false .u16 x)] (mkM z S (uM mpB) 0))) =
    (((mpB = mpB ∧ (50 : Nat) = (50 : Nat) ∧ (RG z) ∧ S = S) ∧ True) ∧ ∀ (y : PX), ((RG y) ∧ True) ∧ True ∧ True → True ∧ (mpB = mpB ∧ (50 : Nat) = (50 : Nat) ∧ (((0 : Int) ≤
      y.n (100000 : Nat) ∧ y.n (100000 : Nat) ≤ (2199023255552 : Int)) ∧ ((0 : Int) ≤ y.n (100004 : Nat) ∧ y.n (100004 : Nat) ≤ (2047 : Int)) ∧ ((0 : Int) ≤ y.n (100005 : Nat) ∧
      y.n (100005 : Nat) ≤ (63 : Int)) ∧ ((0 : Int) ≤ y.n (100006 : Nat) ∧ y.n (100006 : Nat) ≤ (16777216 : Int)) ∧ ((0 : Int) ≤ y.n (100007 : Nat) ∧ y.n (100007 : Nat) ≤ (3 :
      Int)) ∧ ((0 : Int) ≤ y.n (100008 : Nat) ∧ y.n (100008 : Nat) ≤ (15 : Int)) ∧ ((0 : Int) ≤ y.n (100011 : Nat) ∧ y.n (100011 : Nat) ≤ (15 : Int)) ∧ ((0 : Int) ≤ y.n (100016
      : Nat) ∧ y.n (100016 : Nat) ≤ (2047 : Int)) ∧ ((0 : Int) ≤ y.n (100017 : Nat) ∧ y.n (100017 : Nat) ≤ (63 : Int)) ∧ ((0 : Int) ≤ y.n (100018 : Nat) ∧ y.n (100018 : Nat) ≤
      (16777216 : Int)) ∧ ((0 : Int) ≤ y.n (100019 : Nat) ∧ y.n (100019 : Nat) ≤ (3 : Int)) ∧ ((0 : Int) ≤ y.n (100020 : Nat) ∧ y.n (100020 : Nat) ≤ (15 : Int)) ∧ ((0 : Int) ≤
      y.n (100023 : Nat) ∧ y.n (100023 : Nat) ≤ (15 : Int)) ∧ ((0 : Int) ≤ y.n (100028 : Nat) ∧ y.n (100028 : Nat) ≤ (2047 : Int)) ∧ ((0 : Int) ≤ y.n (100029 : Nat) ∧ y.n
      (100029 : Nat) ≤ (63 : Int)) ∧ ((0 : Int) ≤ y.n (100030 : Nat) ∧ y.n (100030 : Nat) ≤ (16777216 : Int)) ∧ ((0 : Int) ≤ y.n (100031 : Nat) ∧ y.n (100031 : Nat) ≤ (3 : Int))
      ∧ ((0 : Int) ≤ y.n (100032 : Nat) ∧ y.n (100032 : Nat) ≤ (15 : Int)) ∧ ((0 : Int) ≤ y.n (100035 : Nat) ∧ y.n (100035 : Nat) ≤ (15 : Int)) ∧ ((0 : Int) ≤ y.n (100040 : Nat)
      ∧ y.n (100040 : Nat) ≤ (2047 : Int)) ∧ ((0 : Int) ≤ y.n (100041 : Nat) ∧ y.n (100041 : Nat) ≤ (63 : Int)) ∧ ((0 : Int) ≤ y.n (100042 : Nat) ∧ y.n (100042 : Nat) ≤
      (16777216 : Int)) ∧ ((0 : Int) ≤ y.n (100043 : Nat) ∧ y.n (100043 : Nat) ≤ (3 : Int)) ∧ ((0 : Int) ≤ y.n (100044 : Nat) ∧ y.n (100044 : Nat) ≤ (15 : Int)) ∧ ((0 : Int) ≤
      y.n (100047 : Nat) ∧ y.n (100047 : Nat) ≤ (15 : Int)) ∧ ((0 : Int) ≤ y.n (100050 : Nat) ∧ y.n (100050 : Nat) ≤ (7 : Int)) ∧ ((0 : Int) ≤ y.n (100086 : Nat) ∧ y.n (100086 :
      Nat) ≤ (1 : Int)) ∧ (((0 : Int) ≤ if (4 : Int) < IntKind.i64.wrap (x.fdiv (8192 : Int)) then (4 : Int) else IntKind.i64.wrap (x.fdiv (8192 : Int))) ∧ (if (4 : Int) <
      IntKind.i64.wrap (x.fdiv (8192 : Int)) then (4 : Int) else IntKind.i64.wrap (x.fdiv (8192 : Int))) ≤ (4 : Int)) ∧ ((0 : Int) ≤ y.n (100092 : Nat) ∧ y.n (100092 : Nat) ≤
      (15 : Int)) ∧ ((0 : Int) ≤ y.n (100093 : Nat) ∧ y.n (100093 : Nat) ≤ (7 : Int)) ∧ True) ∧ S = S) ∧ True) := by kernel_rfl
set_option maxHeartbeats 2000000 in
theorem wr6_c (E : World) (S : SW) (k : Int) (x : Int) (z : PX) (hz : rgM z (uM mpB) 0) (hp : (fun _ => 0 ≤ x ∧ x ≤ 65535) z) : HC (pe E) 8 [.c (.p 1 0), .c (.i false .i64 k), .c (.i true .i64 6), .c (.i false .u16 x)] (uM mpB) S (.t []) (fun _ _ => True) z := by
  refine HC.mk false (by rfl) (by rfl) (by rfl) (by rfl) (fnTree_sound (P := pe E) orcS_ok tab_ok tab_sz mixed 20000 Try.func8 (by decide) [.c (.p 1 0), .c (.i false .i64 k), .c (.i true .i64 6), .c (.i false .u16 x)] _) ⟨?_⟩
  rw [wr6_p]
  obtain ⟨h0, h4, h5, h6, h7, h8, h11, h16, h17, h18, h19, h20, h23, h28, h29, h30, h31, h32, h35, h40, h41, h42, h43, h44, h47, h50, h86, h88, h92, h93, _⟩ := rg_u hz
  obtain ⟨p1, p2⟩ := hp
  (repeat' (first | assumption | exact trivial | exact rfl | apply And.intro | (rintro y ⟨⟨⟨h0, h4, h5, h6, h7, h8, h11, h16, h17, h18, h19, h20, h23, h28, h29, h30, h31, h32, h35, h40, h41, h42, h43, h44, h47, h50, h86, h88, h92, h93, _⟩, _⟩, _, hq⟩; (try rw [hq])) | (rintro y ⟨⟨hr, _⟩, hq⟩) | intro _)) <;> ((try simp only [inB, f4096, f64, f2048, f16, f8, f32, f128, f256, f8192, a1, a3, a7, a15, a63, a2047, wi64, wu16, Bool.not_eq_true', Bool.not_eq_false', Bool.and_eq_true, Bool.or_eq_true, beq_iff_eq, bne_iff_ne, ne_eq, beq_eq_false_iff_ne, bne_eq_false_iff_eq, decide_eq_true_eq, decide_eq_false_iff_not] at *) <;> (repeat' split) <;> omega)
theorem wr7_p (E : World) (S : SW) (z : PX) (k : Int) (x : Int) :
    (hoP false (uM mpB) S (.t []) (fun _ _ => True) z (fnTree (pe E) (orcS E) (tabL fns) 20000 Try.f8 [.c (.p 1 0), .c (.i false .i64 k), .c (.i true .i64 7), .c (.i false .u16 x)] (mkM z S (uM mpB) 0))) =
    (((mpB = mpB ∧ (50 : Nat) = (50 : Nat) ∧ (RG z) ∧ S = S) ∧ True) ∧ ∀ (y : PX), ((RG y) ∧ True) ∧ True ∧ True → ((IntKind.i64.wrap (x.fdiv (4096 : Int)) != (0 : Int)) = true
      → True ∧ (mpB = mpB ∧ (50 : Nat) = (50 : Nat) ∧ (((0 : Int) ≤ y.n (100000 : Nat) ∧ y.n (100000 : Nat) ≤ (2199023255552 : Int)) ∧ ((0 : Int) ≤ y.n (100004 : Nat) ∧ y.n
      (100004 : Nat) ≤ (2047 : Int)) ∧ ((0 : Int) ≤ y.n (100005 : Nat) ∧ y.n (100005 : Nat) ≤ (63 : Int)) ∧ ((0 : Int) ≤ y.n (100006 : Nat) ∧ y.n (100006 : Nat) ≤ (16777216 :
      Int)) ∧ ((0 : Int) ≤ y.n (100007 : Nat) ∧ y.n (100007 : Nat) ≤ (3 : Int)) ∧ ((0 : Int) ≤ y.n (100008 : Nat) ∧ y.n (100008 : Nat) ≤ (15 : Int)) ∧ ((0 : Int) ≤ y.n (100011 :
      Nat) ∧ y.n (100011 : Nat) ≤ (15 : Int)) ∧ ((0 : Int) ≤ y.n (100016 : Nat) ∧ y.n (100016 : Nat) ≤ (2047 : Int)) ∧ ((0 : Int) ≤ y.n (100017 : Nat) ∧ y.n (100017 : Nat) ≤ (63
      : Int)) ∧ ((0 : Int) ≤ y.n (100018 : Nat) ∧ y.n (100018 : Nat) ≤ (16777216 : Int)) ∧ ((0 : Int) ≤ y.n (100019 : Nat) ∧ y.n (100019 : Nat) ≤ (3 : Int)) ∧ ((0 : Int) ≤ y.n
      (100020 : Nat) ∧ y.n (100020 : Nat) ≤ (15 : Int)) ∧ ((0 : Int) ≤ y.n (100023 : Nat) ∧ y.n (100023 : Nat) ≤ (15 : Int)) ∧ ((0 : Int) ≤ y.n (100028 : Nat) ∧ y.n (100028 :
      Nat) ≤ (2047 : Int)) ∧ ((0 : Int) ≤ y.n (100029 : Nat) ∧ y.n (100029 : Nat) ≤ (63 : Int)) ∧ ((0 : Int) ≤ y.n (100030 : Nat) ∧ y.n (100030 : Nat) ≤ (16777216 : Int)) ∧ ((0
      : Int) ≤ y.n (100031 : Nat) ∧ y.n (100031 : Nat) ≤ (3 : Int)) ∧ ((0 : Int) ≤ y.n (100032 : Nat) ∧ y.n (100032 : Nat) ≤ (15 : Int)) ∧ ((0 : Int) ≤ y.n (100035 : Nat) ∧ y.n
      (100035 : Nat) ≤ (15 : Int)) ∧ ((0 : Int) ≤ y.n (100040 : Nat) ∧ y.n (100040 : Nat) ≤ (2047 : Int)) ∧ ((0 : Int) ≤ y.n (100041 : Nat) ∧ y.n (100041 : Nat) ≤ (63 : Int)) ∧
      ((0 : Int) ≤ y.n (100042 : Nat) ∧ y.n (100042 : Nat) ≤ (16777216 : Int)) ∧ ((0 : Int) ≤ IntKind.i64.wrap (bits BinOp.and IntKind.u16 (x.fdiv (64 : Int)) (3 : Int)) ∧
      IntKind.i64.wrap (bits BinOp.and IntKind.u16 (x.fdiv (64 : Int)) (3 : Int)) ≤ (3 : Int)) ∧ ((0 : Int) ≤ IntKind.i64.wrap (x.fdiv (4096 : Int)) ∧ IntKind.i64.wrap (x.fdiv
      (4096 : Int)) ≤ (15 : Int)) ∧ ((0 : Int) ≤ y.n (100047 : Nat) ∧ y.n (100047 : Nat) ≤ (15 : Int)) ∧ ((0 : Int) ≤ y.n (100050 : Nat) ∧ y.n (100050 : Nat) ≤ (7 : Int)) ∧ ((0
      : Int) ≤ y.n (100086 : Nat) ∧ y.n (100086 : Nat) ≤ (1 : Int)) ∧ ((0 : Int) ≤ y.n (100088 : Nat) ∧ y.n (100088 : Nat) ≤ (4 : Int)) ∧ ((0 : Int) ≤ y.n (100092 : Nat) ∧ y.n
      (100092 : Nat) ≤ (15 : Int)) ∧ ((0 : Int) ≤ y.n (100093 : Nat) ∧ y.n (100093 : Nat) ≤ (7 : Int)) ∧ True) ∧ S = S) ∧ True) ∧ ((IntKind.i64.wrap (x.fdiv (4096 : Int)) != (0
      : Int)) = false → ((!bits BinOp.and IntKind.u16 (x.fdiv (2048 : Int)) (1 : Int) != (0 : Int)) = true → True ∧ (mpB = mpB ∧ (50 : Nat) = (50 : Nat) ∧ (((0 : Int) ≤ y.n
      (100000 : Nat) ∧ y.n (100000 : Nat) ≤ (2199023255552 : Int)) ∧ ((0 : Int) ≤ y.n (100004 : Nat) ∧ y.n (100004 : Nat) ≤ (2047 : Int)) ∧ ((0 : Int) ≤ y.n (100005 : Nat) ∧ y.n
      (100005 : Nat) ≤ (63 : Int)) ∧ ((0 : Int) ≤ y.n (100006 : Nat) ∧ y.n (100006 : Nat) ≤ (16777216 : Int)) ∧ ((0 : Int) ≤ y.n (100007 : Nat) ∧ y.n (100007 : Nat) ≤ (3 : Int))
      ∧ ((0 : Int) ≤ y.n (100008 : Nat) ∧ y.n (100008 : Nat) ≤ (15 : Int)) ∧ ((0 : Int) ≤ y.n (100011 : Nat) ∧ y.n (100011 : Nat) ≤ (15 : Int)) ∧ ((0 : Int) ≤ y.n (100016 : Nat)
      ∧ y.n (100016 : Nat) ≤ (2047 : Int)) ∧ ((0 : Int) ≤ y.n (100017 : Nat) ∧ y.n (100017 : Nat) ≤ (63 : Int)) ∧ ((0 : Int) ≤ y.n (100018 : Nat) ∧ y.n (100018 : Nat) ≤
      (16777216 : Int)) ∧ ((0 : Int) ≤ y.n (100019 : Nat) ∧ y.n (100019 : Nat) ≤ (3 : Int)) ∧ ((0 : Int) ≤ y.n (100020 : Nat) ∧ y.n (100020 : Nat) ≤ (15 : Int)) ∧ ((0 : Int) ≤
      y.n (100023 : Nat) ∧ y.n (100023 : Nat) ≤ (15 : Int)) ∧ ((0 : Int) ≤ y.n (100028 : Nat) ∧ y.n (100028 : Nat) ≤ (2047 : Int)) ∧ ((0 : Int) ≤ y.n (100029 : Nat) ∧ y.n
      (100029 : Nat) ≤ (63 : Int)) ∧ ((0 : Int) ≤ y.n (100030 : Nat) ∧ y.n (100030 : Nat) ≤ (16777216 : Int)) ∧ ((0 : Int) ≤ y.n (100031 : Nat) ∧ y.n (100031 : Nat) ≤ (3 : Int))
      ∧ ((0 : Int) ≤ y.n (100032 : Nat) ∧ y.n (100032 : Nat) ≤ (15 : Int)) ∧ ((0 : Int) ≤ y.n (100035 : Nat) ∧ y.n (100035 : Nat) ≤ (15 : Int)) ∧ ((0 : Int) ≤ y.n (100040 : Nat)
      ∧ y.n (100040 : Nat) ≤ (2047 : Int)) ∧ ((0 : Int) ≤ y.n (100041 : Nat) ∧ y.n (100041 : Nat) ≤ (63 : Int)) ∧ ((0 : Int) ≤ y.n (100042 : Nat) ∧ y.n (100042 : Nat) ≤
      (16777216 : Int)) ∧ ((0 : Int) ≤ IntKind.i64.wrap (bits BinOp.and IntKind.u16 (x.fdiv (64 : Int)) (3 : Int)) ∧ IntKind.i64.wrap (bits BinOp.and IntKind.u16 (x.fdiv (64 :
      Int)) (3 : Int)) ≤ (3 : Int)) ∧ ((0 : Int) ≤ IntKind.i64.wrap (x.fdiv (4096 : Int)) ∧ IntKind.i64.wrap (x.fdiv (4096 : Int)) ≤ (15 : Int)) ∧ ((0 : Int) ≤ y.n (100047 :
      Nat) ∧ y.n (100047 : Nat) ≤ (15 : Int)) ∧ ((0 : Int) ≤ y.n (100050 : Nat) ∧ y.n (100050 : Nat) ≤ (7 : Int)) ∧ ((0 : Int) ≤ y.n (100086 : Nat) ∧ y.n (100086 : Nat) ≤ (1 :
      Int)) ∧ ((0 : Int) ≤ y.n (100088 : Nat) ∧ y.n (100088 : Nat) ≤ (4 : Int)) ∧ ((0 : Int) ≤ y.n (100092 : Nat) ∧ y.n (100092 : Nat) ≤ (15 : Int)) ∧ ((0 : Int) ≤ y.n (100093 :
      Nat) ∧ y.n (100093 : Nat) ≤ (7 : Int)) ∧ True) ∧ S = S) ∧ True) ∧ ((!bits BinOp.and IntKind.u16 (x.fdiv (2048 : Int)) (1 : Int) != (0 : Int)) = false → True ∧ (mpB = mpB ∧
      (50 : Nat) = (50 : Nat) ∧ (((0 : Int) ≤ y.n (100000 : Nat) ∧ y.n (100000 : Nat) ≤ (2199023255552 : Int)) ∧ ((0 : Int) ≤ y.n (100004 : Nat) ∧ y.n (100004 : Nat) ≤ (2047 :
      Int)) ∧ ((0 : Int) ≤ y.n (100005 : Nat) ∧ y.n (100005 : Nat) ≤ (63 : Int)) ∧ ((0 : Int) ≤ y.n (100006 : Nat) ∧ y.n (100006 : Nat) ≤ (16777216 : Int)) ∧ ((0 : Int) ≤ y.n
      (100007 : Nat) ∧ y.n (100007 : Nat) ≤ (3 : Int)) ∧ ((0 : Int) ≤ y.n (100008 : Nat) ∧ y.n (100008 : Nat) ≤ (15 : Int)) ∧ ((0 : Int) ≤ y.n (100011 : Nat) ∧ y.n (100011 :
      Nat) ≤ (15 : Int)) ∧ ((0 : Int) ≤ y.n (100016 : Nat) ∧ y.n (100016 : Nat) ≤ (2047 : Int)) ∧ ((0 : Int) ≤ y.n (100017 : Nat) ∧ y.n (100017 : Nat) ≤ (63 : Int)) ∧ ((0 : Int)
      ≤ y.n (100018 : Nat) ∧ y.n (100018 : Nat) ≤ (16777216 : Int)) ∧ ((0 : Int) ≤ y.n (100019 : Nat) ∧ y.n (100019 : Nat) ≤ (3 : Int)) ∧ ((0 : Int) ≤ y.n (100020 : Nat) ∧ y.n
      (100020 : Nat) ≤ (15 : Int)) ∧ ((0 : Int) ≤ y.n (100023 : Nat) ∧ y.n (100023 : Nat) ≤ (15 : Int)) ∧ ((0 : Int) ≤ y.n (100028 : Nat) ∧ y.n (100028 : Nat) ≤ (2047 : Int)) ∧
      ((0 : Int) ≤ y.n (100029 : Nat) ∧ y.n (100029 : Nat) ≤ (63 : Int)) ∧ ((0 : Int) ≤ y.n (100030 : Nat) ∧ y.n (100030 : Nat) ≤ (16777216 : Int)) ∧ ((0 : Int) ≤ y.n (100031 :
      Nat) ∧ y.n (100031 : Nat) ≤ (3 : Int)) ∧ ((0 : Int) ≤ y.n (100032 : Nat) ∧ y.n (100032 : Nat) ≤ (15 : Int)) ∧ ((0 : Int) ≤ y.n (100035 : Nat) ∧ y.n (100035 : Nat) ≤ (15 :
      Int)) ∧ ((0 : Int) ≤ y.n (100040 : Nat) ∧ y.n (100040 : Nat) ≤ (2047 : Int)) ∧ ((0 : Int) ≤ y.n (100041 : Nat) ∧ y.n (100041 : Nat) ≤ (63 : Int)) ∧ ((0 : Int) ≤ y.n
      (100042 : Nat) ∧ y.n (100042 : Nat) ≤ (16777216 : Int)) ∧ ((0 : Int) ≤ IntKind.i64.wrap (bits BinOp.and IntKind.u16 (x.fdiv (64 : Int)) (3 : Int)) ∧ IntKind.i64.wrap (bits
      BinOp.and IntKind.u16 (x.fdiv (64 : Int)) (3 : Int)) ≤ (3 : Int)) ∧ ((0 : Int) ≤ IntKind.i64.wrap (x.fdiv (4096 : Int)) ∧ IntKind.i64.wrap (x.fdiv (4096 : Int)) ≤ (15 :
      Int)) ∧ ((0 : Int) ≤ y.n (100047 : Nat) ∧ y.n (100047 : Nat) ≤ (15 : Int)) ∧ ((0 : Int) ≤ y.n (100050 : Nat) ∧ y.n (100050 : Nat) ≤ (7 : Int)) ∧ ((0 : Int) ≤ y.n (100086 :
      Nat) ∧ y.n (100086 : Nat) ≤ (1 : Int)) ∧ ((0 : Int) ≤ y.n (100088 : Nat) ∧ y.n (100088 : Nat) ≤ (4 : Int)) ∧ ((0 : Int) ≤ y.n (100092 : Nat) ∧ y.n (100092 : Nat) ≤ (15 :
      Int)) ∧ ((0 : Int) ≤ y.n (100093 : Nat) ∧ y.n (100093 : Nat) ≤ (7 : Int)) ∧ True) ∧ S = S) ∧ True))) := by kernel_rfl
set_option maxHeartbeats 2000000 in
theorem wr7_c (E : World) (S : SW) (k : Int) (x : Int) (z : PX) (hz : rgM z (uM mpB) 0) (hp : (fun _ => 0 ≤ x ∧ x ≤ 65535) z) : HC (pe E) 8 [.c (.p 1 0), .c (.i false .i64 k), .c (.i true .i64 7), .c (.i false .u16 x)] (uM mpB) S (.t []) (fun _ _ => True) z := by
  refine HC.mk false (by rfl) (by rfl) (by rfl) (by rfl) (fnTree_sound (P := pe E) orcS_ok tab_ok tab_sz mixed 20000 Try.func8 (by decide) [.c (.p 1 0), .c (.i false .i64 k), .c (.i true .i64 7), .c (.i false .u16 x)] _) ⟨?_⟩
  rw [wr7_p]
  obtain ⟨h0, h4, h5, h6, h7, h8, h11, h16, h17, h18, h19, h20, h23, h28, h29, h30, h31, h32, h35, h40, h41, h42, h43, h44, h47, h50, h86, h88, h92, h93, _⟩ := rg_u hz
  obtain ⟨p1, p2⟩ := hp
  (repeat' (first | assumption | exact trivial | exact rfl | apply And.intro | (rintro y ⟨⟨⟨h0, h4, h5, h6, h7, h8, h11, h16, h17, h18, h19, h20, h23, h28, h29, h30, h31, h32, h35, h40, h41, h42, h43, h44, h47, h50, h86, h88, h92, h93, _⟩, _⟩, _, hq⟩; (try rw [hq])) | (rintro y ⟨⟨hr, _⟩, hq⟩) | intro _)) <;> ((try simp only [inB, f4096, f64, f2048, f16, f8, f32, f128, f256, f8192, a1, a3, a7, a15, a63, a2047, wi64, wu16, Bool.not_eq_true', Bool.not_eq_false', Bool.and_eq_true, Bool.or_eq_true, beq_iff_eq, bne_iff_ne, ne_eq, beq_eq_false_iff_ne, bne_eq_false_iff_eq, decide_eq_true_eq, decide_eq_false_iff_not] at *) <;> (repeat' split) <;> omega)
theorem wr8_p (E : World) (S : SW) (z : PX) (k : Int) (x : Int) :
    (hoP false (uM mpB) S (.t []) (fun _ _ => True) z (fnTree (pe E) (orcS E) (tabL fns) 20000 Try.f8 [.c (.p 1 0), .c (.i false .i64 k), .c (.i true .i64 8), .c (.i false .u16 x)] (mkM z S (uM mpB) 0))) =
    (((mpB = mpB ∧ (50 : Nat) = (50 : Nat) ∧ (RG z) ∧ S = S) ∧ True) ∧ ∀ (y : PX), ((RG y) ∧ True) ∧ True ∧ True → ((bits BinOp.and IntKind.u16 x (32768 : Int) == (0 : Int)) =
      true → True ∧ (mpB = mpB ∧ (50 : Nat) = (50 : Nat) ∧ (((0 : Int) ≤ y.n (100000 : Nat) ∧ y.n (100000 : Nat) ≤ (2199023255552 : Int)) ∧ ((0 : Int) ≤ y.n (100004 : Nat) ∧ y.n
      (100004 : Nat) ≤ (2047 : Int)) ∧ ((0 : Int) ≤ y.n (100005 : Nat) ∧ y.n (100005 : Nat) ≤ (63 : Int)) ∧ ((0 : Int) ≤ y.n (100006 : Nat) ∧ y.n (100006 : Nat) ≤ (16777216 :
      Int)) ∧ ((0 : Int) ≤ y.n (100007 : Nat) ∧ y.n (100007 : Nat) ≤ (3 : Int)) ∧ ((0 : Int) ≤ y.n (100008 : Nat) ∧ y.n (100008 : Nat) ≤ (15 : Int)) ∧ ((0 : Int) ≤ y.n (100011 :
      Nat) ∧ y.n (100011 : Nat) ≤ (15 : Int)) ∧ ((0 : Int) ≤ y.n (100016 : Nat) ∧ y.n (100016 : Nat) ≤ (2047 : Int)) ∧ ((0 : Int) ≤ y.n (100017 : Nat) ∧ y.n (100017 : Nat) ≤ (63
      : Int)) ∧ ((0 : Int) ≤ y.n (100018 : Nat) ∧ y.n (100018 : Nat) ≤ (16777216 : Int)) ∧ ((0 : Int) ≤ y.n (100019 : Nat) ∧ y.n (100019 : Nat) ≤ (3 : Int)) ∧ ((0 : Int) ≤ y.n
      (100020 : Nat) ∧ y.n (100020 : Nat) ≤ (15 : Int)) ∧ ((0 : Int) ≤ y.n (100023 : Nat) ∧ y.n (100023 : Nat) ≤ (15 : Int)) ∧ ((0 : Int) ≤ y.n (100028 : Nat) ∧ y.n (100028 :
      Nat) ≤ (2047 : Int)) ∧ ((0 : Int) ≤ y.n (100029 : Nat) ∧ y.n (100029 : Nat) ≤ (63 : Int)) ∧ ((0 : Int) ≤ y.n (100030 : Nat) ∧ y.n (100030 : Nat) ≤ (16777216 : Int)) ∧ ((0
      : Int) ≤ y.n (100031 : Nat) ∧ y.n (100031 : Nat) ≤ (3 : Int)) ∧ ((0 : Int) ≤ y.n (100032 : Nat) ∧ y.n (100032 : Nat) ≤ (15 : Int)) ∧ ((0 : Int) ≤ y.n (100035 : Nat) ∧ y.n
      (100035 : Nat) ≤ (15 : Int)) ∧ ((0 : Int) ≤ y.n (100040 : Nat) ∧ y.n (100040 : Nat) ≤ (2047 : Int)) ∧ ((0 : Int) ≤ y.n (100041 : Nat) ∧ y.n (100041 : Nat) ≤ (63 : Int)) ∧
      ((0 : Int) ≤ y.n (100042 : Nat) ∧ y.n (100042 : Nat) ≤ (16777216 : Int)) ∧ ((0 : Int) ≤ y.n (100043 : Nat) ∧ y.n (100043 : Nat) ≤ (3 : Int)) ∧ ((0 : Int) ≤ y.n (100044 :
      Nat) ∧ y.n (100044 : Nat) ≤ (15 : Int)) ∧ ((0 : Int) ≤ y.n (100047 : Nat) ∧ y.n (100047 : Nat) ≤ (15 : Int)) ∧ ((0 : Int) ≤ y.n (100050 : Nat) ∧ y.n (100050 : Nat) ≤ (7 :
      Int)) ∧ ((0 : Int) ≤ y.n (100086 : Nat) ∧ y.n (100086 : Nat) ≤ (1 : Int)) ∧ ((0 : Int) ≤ y.n (100088 : Nat) ∧ y.n (100088 : Nat) ≤ (4 : Int)) ∧ ((0 : Int) ≤
      IntKind.i64.wrap (bits BinOp.and IntKind.u16 (x.fdiv (16 : Int)) (15 : Int)) ∧ IntKind.i64.wrap (bits BinOp.and IntKind.u16 (x.fdiv (16 : Int)) (15 : Int)) ≤ (15 : Int)) ∧
      ((0 : Int) ≤ IntKind.i64.wrap (bits BinOp.and IntKind.u16 x (7 : Int)) ∧ IntKind.i64.wrap (bits BinOp.and IntKind.u16 x (7 : Int)) ≤ (7 : Int)) ∧ True) ∧ S = S) ∧ True) ∧
      ((bits BinOp.and IntKind.u16 x (32768 : Int) == (0 : Int)) = false → ((y.n (100044 : Nat) != (0 : Int)) = true → ((y.n (100038 : Nat) == (0 : Int)) = true → ((mpB = mpB ∧
      (50 : Nat) = (50 : Nat) ∧ (((0 : Int) ≤ y.n (100000 : Nat) ∧ y.n (100000 : Nat) ≤ (2199023255552 : Int)) ∧ ((0 : Int) ≤ y.n (100004 : Nat) ∧ y.n (100004 : Nat) ≤ (2047 :
      Int)) ∧ ((0 : Int) ≤ y.n (100005 : Nat) ∧ y.n (100005 : Nat) ≤ (63 : Int)) ∧ ((0 : Int) ≤ y.n (100007 : Nat) ∧ y.n (100007 : Nat) ≤ (3 : Int)) ∧ ((0 : Int) ≤ y.n (100008 :
      Nat) ∧ y.n (100008 : Nat) ≤ (15 : Int)) ∧ ((0 : Int) ≤ y.n (100011 : Nat) ∧ y.n (100011 : Nat) ≤ (15 : Int)) ∧ ((0 : Int) ≤ y.n (100016 : Nat) ∧ y.n (100016 : Nat) ≤ (2047
      : Int)) ∧ ((0 : Int) ≤ y.n (100017 : Nat) ∧ y.n (100017 : Nat) ≤ (63 : Int)) ∧ ((0 : Int) ≤ y.n (100019 : Nat) ∧ y.n (100019 : Nat) ≤ (3 : Int)) ∧ ((0 : Int) ≤ y.n (100020
      : Nat) ∧ y.n (100020 : Nat) ≤ (15 : Int)) ∧ ((0 : Int) ≤ y.n (100023 : Nat) ∧ y.n (100023 : Nat) ≤ (15 : Int)) ∧ ((0 : Int) ≤ y.n (100028 : Nat) ∧ y.n (100028 : Nat) ≤
      (2047 : Int)) ∧ ((0 : Int) ≤ y.n (100029 : Nat) ∧ y.n (100029 : Nat) ≤ (63 : Int)) ∧ ((0 : Int) ≤ y.n (100031 : Nat) ∧ y.n (100031 : Nat) ≤ (3 : Int)) ∧ ((0 : Int) ≤ y.n
      (100032 : Nat) ∧ y.n (100032 : Nat) ≤ (15 : Int)) ∧ ((0 : Int) ≤ y.n (100035 : Nat) ∧ y.n (100035 : Nat) ≤ (15 : Int)) ∧ ((0 : Int) ≤ y.n (100040 : Nat) ∧ y.n (100040 :
      Nat) ≤ (2047 : Int)) ∧ ((0 : Int) ≤ (0 : Int) ∧ (0 : Int) ≤ (63 : Int)) ∧ ((0 : Int) ≤ y.n (100043 : Nat) ∧ y.n (100043 : Nat) ≤ (3 : Int)) ∧ ((0 : Int) ≤ y.n (100044 :
      Nat) ∧ y.n (100044 : Nat) ≤ (15 : Int)) ∧ ((0 : Int) ≤ y.n (100044 : Nat) ∧ y.n (100044 : Nat) ≤ (15 : Int)) ∧ ((0 : Int) ≤ y.n (100050 : Nat) ∧ y.n (100050 : Nat) ≤ (7 :
      Int)) ∧ ((0 : Int) ≤ y.n (100086 : Nat) ∧ y.n (100086 : Nat) ≤ (1 : Int)) ∧ ((0 : Int) ≤ y.n (100088 : Nat) ∧ y.n (100088 : Nat) ≤ (4 : Int)) ∧ ((0 : Int) ≤
      IntKind.i64.wrap (bits BinOp.and IntKind.u16 (x.fdiv (16 : Int)) (15 : Int)) ∧ IntKind.i64.wrap (bits BinOp.and IntKind.u16 (x.fdiv (16 : Int)) (15 : Int)) ≤ (15 : Int)) ∧
      ((0 : Int) ≤ IntKind.i64.wrap (bits BinOp.and IntKind.u16 x (7 : Int)) ∧ IntKind.i64.wrap (bits BinOp.and IntKind.u16 x (7 : Int)) ≤ (7 : Int)) ∧ True) ∧ S = S) ∧ True) ∧
      ∀ (y_1 : PX), (((1 : Int) ≤ y_1.n (90000 : Nat) ∧ y_1.n (90000 : Nat) ≤ (16777216 : Int)) ∧ True) ∧ True → True ∧ (mpB = mpB ∧ (50 : Nat) = (50 : Nat) ∧ (((0 : Int) ≤ y.n
      (100000 : Nat) ∧ y.n (100000 : Nat) ≤ (2199023255552 : Int)) ∧ ((0 : Int) ≤ y.n (100004 : Nat) ∧ y.n (100004 : Nat) ≤ (2047 : Int)) ∧ ((0 : Int) ≤ y.n (100005 : Nat) ∧ y.n
      (100005 : Nat) ≤ (63 : Int)) ∧ ((0 : Int) ≤ y.n (100006 : Nat) ∧ y.n (100006 : Nat) ≤ (16777216 : Int)) ∧ ((0 : Int) ≤ y.n (100007 : Nat) ∧ y.n (100007 : Nat) ≤ (3 : Int))
      ∧ ((0 : Int) ≤ y.n (100008 : Nat) ∧ y.n (100008 : Nat) ≤ (15 : Int)) ∧ ((0 : Int) ≤ y.n (100011 : Nat) ∧ y.n (100011 : Nat) ≤ (15 : Int)) ∧ ((0 : Int) ≤ y.n (100016 : Nat)
      ∧ y.n (100016 : Nat) ≤ (2047 : Int)) ∧ ((0 : Int) ≤ y.n (100017 : Nat) ∧ y.n (100017 : Nat) ≤ (63 : Int)) ∧ ((0 : Int) ≤ y.n (100018 : Nat) ∧ y.n (100018 : Nat) ≤
      (16777216 : Int)) ∧ ((0 : Int) ≤ y.n (100019 : Nat) ∧ y.n (100019 : Nat) ≤ (3 : Int)) ∧ ((0 : Int) ≤ y.n (100020 : Nat) ∧ y.n (100020 : Nat) ≤ (15 : Int)) ∧ ((0 : Int) ≤
      y.n (100023 : Nat) ∧ y.n (100023 : Nat) ≤ (15 : Int)) ∧ ((0 : Int) ≤ y.n (100028 : Nat) ∧ y.n (100028 : Nat) ≤ (2047 : Int)) ∧ ((0 : Int) ≤ y.n (100029 : Nat) ∧ y.n
      (100029 : Nat) ≤ (63 : Int)) ∧ ((0 : Int) ≤ y.n (100030 : Nat) ∧ y.n (100030 : Nat) ≤ (16777216 : Int)) ∧ ((0 : Int) ≤ y.n (100031 : Nat) ∧ y.n (100031 : Nat) ≤ (3 : Int))
      ∧ ((0 : Int) ≤ y.n (100032 : Nat) ∧ y.n (100032 : Nat) ≤ (15 : Int)) ∧ ((0 : Int) ≤ y.n (100035 : Nat) ∧ y.n (100035 : Nat) ≤ (15 : Int)) ∧ ((0 : Int) ≤ y.n (100040 : Nat)
      ∧ y.n (100040 : Nat) ≤ (2047 : Int)) ∧ ((0 : Int) ≤ (0 : Int) ∧ (0 : Int) ≤ (63 : Int)) ∧ ((0 : Int) ≤ y_1.n (90000 : Nat) ∧ y_1.n (90000 : Nat) ≤ (16777216 : Int)) ∧ ((0
      : Int) ≤ y.n (100043 : Nat) ∧ y.n (100043 : Nat) ≤ (3 : Int)) ∧ ((0 : Int) ≤ y.n (100044 : Nat) ∧ y.n (100044 : Nat) ≤ (15 : Int)) ∧ ((0 : Int) ≤ y.n (100044 : Nat) ∧ y.n
      (100044 : Nat) ≤ (15 : Int)) ∧ ((0 : Int) ≤ y.n (100050 : Nat) ∧ y.n (100050 : Nat) ≤ (7 : Int)) ∧ ((0 : Int) ≤ y.n (100086 : Nat) ∧ y.n (100086 : Nat) ≤ (1 : Int)) ∧ ((0
      : Int) ≤ y.n (100088 : Nat) ∧ y.n (100088 : Nat) ≤ (4 : Int)) ∧ ((0 : Int) ≤ IntKind.i64.wrap (bits BinOp.and IntKind.u16 (x.fdiv (16 : Int)) (15 : Int)) ∧
      IntKind.i64.wrap (bits BinOp.and IntKind.u16 (x.fdiv (16 : Int)) (15 : Int)) ≤ (15 : Int)) ∧ ((0 : Int) ≤ IntKind.i64.wrap (bits BinOp.and IntKind.u16 x (7 : Int)) ∧
      IntKind.i64.wrap (bits BinOp.and IntKind.u16 x (7 : Int)) ≤ (7 : Int)) ∧ True) ∧ S = S) ∧ True) ∧ ((y.n (100038 : Nat) == (0 : Int)) = false → ((mpB = mpB ∧ (50 : Nat) =
      (50 : Nat) ∧ (((0 : Int) ≤ y.n (100000 : Nat) ∧ y.n (100000 : Nat) ≤ (2199023255552 : Int)) ∧ ((0 : Int) ≤ y.n (100004 : Nat) ∧ y.n (100004 : Nat) ≤ (2047 : Int)) ∧ ((0 :
      Int) ≤ y.n (100005 : Nat) ∧ y.n (100005 : Nat) ≤ (63 : Int)) ∧ ((0 : Int) ≤ y.n (100007 : Nat) ∧ y.n (100007 : Nat) ≤ (3 : Int)) ∧ ((0 : Int) ≤ y.n (100008 : Nat) ∧ y.n
      (100008 : Nat) ≤ (15 : Int)) ∧ ((0 : Int) ≤ y.n (100011 : Nat) ∧ y.n (100011 : Nat) ≤ (15 : Int)) ∧ ((0 : Int) ≤ y.n (100016 : Nat) ∧ y.n (100016 : Nat) ≤ (2047 : Int)) ∧
      ((0 : Int) ≤ y.n (100017 : Nat) ∧ y.n (100017 : Nat) ≤ (63 : Int)) ∧ ((0 : Int) ≤ y.n (100019 : Nat) ∧ y.n (100019 : Nat) ≤ (3 : Int)) ∧ ((0 : Int) ≤ y.n (100020 : Nat) ∧
      y.n (100020 : Nat) ≤ (15 : Int)) ∧ ((0 : Int) ≤ y.n (100023 : Nat) ∧ y.n (100023 : Nat) ≤ (15 : Int)) ∧ ((0 : Int) ≤ y.n (100028 : Nat) ∧ y.n (100028 : Nat) ≤ (2047 :
      Int)) ∧ ((0 : Int) ≤ y.n (100029 : Nat) ∧ y.n (100029 : Nat) ≤ (63 : Int)) ∧ ((0 : Int) ≤ y.n (100031 : Nat) ∧ y.n (100031 : Nat) ≤ (3 : Int)) ∧ ((0 : Int) ≤ y.n (100032 :
      Nat) ∧ y.n (100032 : Nat) ≤ (15 : Int)) ∧ ((0 : Int) ≤ y.n (100035 : Nat) ∧ y.n (100035 : Nat) ≤ (15 : Int)) ∧ ((0 : Int) ≤ y.n (100040 : Nat) ∧ y.n (100040 : Nat) ≤ (2047
      : Int)) ∧ ((0 : Int) ≤ (0 : Int) ∧ (0 : Int) ≤ (63 : Int)) ∧ ((0 : Int) ≤ y.n (100043 : Nat) ∧ y.n (100043 : Nat) ≤ (3 : Int)) ∧ ((0 : Int) ≤ y.n (100044 : Nat) ∧ y.n
      (100044 : Nat) ≤ (15 : Int)) ∧ ((0 : Int) ≤ y.n (100044 : Nat) ∧ y.n (100044 : Nat) ≤ (15 : Int)) ∧ ((0 : Int) ≤ y.n (100050 : Nat) ∧ y.n (100050 : Nat) ≤ (7 : Int)) ∧ ((0
      : Int) ≤ y.n (100086 : Nat) ∧ y.n (100086 : Nat) ≤ (1 : Int)) ∧ ((0 : Int) ≤ y.n (100088 : Nat) ∧ y.n (100088 : Nat) ≤ (4 : Int)) ∧ ((0 : Int) ≤ IntKind.i64.wrap (bits
      BinOp.and IntKind.u16 (x.fdiv (16 : Int)) (15 : Int)) ∧ IntKind.i64.wrap (bits BinOp.and IntKind.u16 (x.fdiv (16 : Int)) (15 : Int)) ≤ (15 : Int)) ∧ ((0 : Int) ≤
      IntKind.i64.wrap (bits BinOp.and IntKind.u16 x (7 : Int)) ∧ IntKind.i64.wrap (bits BinOp.and IntKind.u16 x (7 : Int)) ≤ (7 : Int)) ∧ True) ∧ S = S) ∧ True) ∧ ∀ (y_1 : PX),
      (((1 : Int) ≤ y_1.n (90000 : Nat) ∧ y_1.n (90000 : Nat) ≤ (16777216 : Int)) ∧ True) ∧ True → True ∧ (mpB = mpB ∧ (50 : Nat) = (50 : Nat) ∧ (((0 : Int) ≤ y.n (100000 : Nat)
      ∧ y.n (100000 : Nat) ≤ (2199023255552 : Int)) ∧ ((0 : Int) ≤ y.n (100004 : Nat) ∧ y.n (100004 : Nat) ≤ (2047 : Int)) ∧ ((0 : Int) ≤ y.n (100005 : Nat) ∧ y.n (100005 : Nat)
      ≤ (63 : Int)) ∧ ((0 : Int) ≤ y.n (100006 : Nat) ∧ y.n (100006 : Nat) ≤ (16777216 : Int)) ∧ ((0 : Int) ≤ y.n (100007 : Nat) ∧ y.n (100007 : Nat) ≤ (3 : Int)) ∧ ((0 : Int) ≤
      y.n (100008 : Nat) ∧ y.n (100008 : Nat) ≤ (15 : Int)) ∧ ((0 : Int) ≤ y.n (100011 : Nat) ∧ y.n (100011 : Nat) ≤ (15 : Int)) ∧ ((0 : Int) ≤ y.n (100016 : Nat) ∧ y.n (100016
      : Nat) ≤ (2047 : Int)) ∧ ((0 : Int) ≤ y.n (100017 : Nat) ∧ y.n (100017 : Nat) ≤ (63 : Int)) ∧ ((0 : Int) ≤ y.n (100018 : Nat) ∧ y.n (100018 : Nat) ≤ (16777216 : Int)) ∧
      ((0 : Int) ≤ y.n (100019 : Nat) ∧ y.n (100019 : Nat) ≤ (3 : Int)) ∧ ((0 : Int) ≤ y.n (100020 : Nat) ∧ y.n (100020 : Nat) ≤ (15 : Int)) ∧ ((0 : Int) ≤ y.n (100023 : Nat) ∧
      y.n (100023 : Nat) ≤ (15 : Int)) ∧ ((0 : Int) ≤ y.n (100028 : Nat) ∧ y.n (100028 : Nat) ≤ (2047 : Int)) ∧ ((0 : Int) ≤ y.n (100029 : Nat) ∧ y.n (100029 : Nat) ≤ (63 :
      Int)) ∧ ((0 : Int) ≤ y.n (100030 : Nat) ∧ y.n (100030 : Nat) ≤ (16777216 : Int)) ∧ ((0 : Int) ≤ y.n (100031 : Nat) ∧ y.n (100031 : Nat) ≤ (3 : Int)) ∧ ((0 : Int) ≤ y.n
      (100032 : Nat) ∧ y.n (100032 : Nat) ≤ (15 : Int)) ∧ ((0 : Int) ≤ y.n (100035 : Nat) ∧ y.n (100035 : Nat) ≤ (15 : Int)) ∧ ((0 : Int) ≤ y.n (100040 : Nat) ∧ y.n (100040 :
      Nat) ≤ (2047 : Int)) ∧ ((0 : Int) ≤ (0 : Int) ∧ (0 : Int) ≤ (63 : Int)) ∧ ((0 : Int) ≤ y_1.n (90000 : Nat) ∧ y_1.n (90000 : Nat) ≤ (16777216 : Int)) ∧ ((0 : Int) ≤ y.n
      (100043 : Nat) ∧ y.n (100043 : Nat) ≤ (3 : Int)) ∧ ((0 : Int) ≤ y.n (100044 : Nat) ∧ y.n (100044 : Nat) ≤ (15 : Int)) ∧ ((0 : Int) ≤ y.n (100044 : Nat) ∧ y.n (100044 :
      Nat) ≤ (15 : Int)) ∧ ((0 : Int) ≤ y.n (100050 : Nat) ∧ y.n (100050 : Nat) ≤ (7 : Int)) ∧ ((0 : Int) ≤ y.n (100086 : Nat) ∧ y.n (100086 : Nat) ≤ (1 : Int)) ∧ ((0 : Int) ≤
      y.n (100088 : Nat) ∧ y.n (100088 : Nat) ≤ (4 : Int)) ∧ ((0 : Int) ≤ IntKind.i64.wrap (bits BinOp.and IntKind.u16 (x.fdiv (16 : Int)) (15 : Int)) ∧ IntKind.i64.wrap (bits
      BinOp.and IntKind.u16 (x.fdiv (16 : Int)) (15 : Int)) ≤ (15 : Int)) ∧ ((0 : Int) ≤ IntKind.i64.wrap (bits BinOp.and IntKind.u16 x (7 : Int)) ∧ IntKind.i64.wrap (bits
      BinOp.and IntKind.u16 x (7 : Int)) ≤ (7 : Int)) ∧ True) ∧ S = S) ∧ True)) ∧ ((y.n (100044 : Nat) != (0 : Int)) = false → ((y.n (100038 : Nat) == (0 : Int)) = true → ((mpB
      = mpB ∧ (50 : Nat) = (50 : Nat) ∧ (((0 : Int) ≤ y.n (100000 : Nat) ∧ y.n (100000 : Nat) ≤ (2199023255552 : Int)) ∧ ((0 : Int) ≤ y.n (100004 : Nat) ∧ y.n (100004 : Nat) ≤
      (2047 : Int)) ∧ ((0 : Int) ≤ y.n (100005 : Nat) ∧ y.n (100005 : Nat) ≤ (63 : Int)) ∧ ((0 : Int) ≤ y.n (100007 : Nat) ∧ y.n (100007 : Nat) ≤ (3 : Int)) ∧ ((0 : Int) ≤ y.n
      (100008 : Nat) ∧ y.n (100008 : Nat) ≤ (15 : Int)) ∧ ((0 : Int) ≤ y.n (100011 : Nat) ∧ y.n (100011 : Nat) ≤ (15 : Int)) ∧ ((0 : Int) ≤ y.n (100016 : Nat) ∧ y.n (100016 :
      Nat) ≤ (2047 : Int)) ∧ ((0 : Int) ≤ y.n (100017 : Nat) ∧ y.n (100017 : Nat) ≤ (63 : Int)) ∧ ((0 : Int) ≤ y.n (100019 : Nat) ∧ y.n (100019 : Nat) ≤ (3 : Int)) ∧ ((0 : Int)
      ≤ y.n (100020 : Nat) ∧ y.n (100020 : Nat) ≤ (15 : Int)) ∧ ((0 : Int) ≤ y.n (100023 : Nat) ∧ y.n (100023 : Nat) ≤ (15 : Int)) ∧ ((0 : Int) ≤ y.n (100028 : Nat) ∧ y.n
      (100028 : Nat) ≤ (2047 : Int)) ∧ ((0 : Int) ≤ y.n (100029 : Nat) ∧ y.n (100029 : Nat) ≤ (63 : Int)) ∧ ((0 : Int) ≤ y.n (100031 : Nat) ∧ y.n (100031 : Nat) ≤ (3 : Int)) ∧
      ((0 : Int) ≤ y.n (100032 : Nat) ∧ y.n (100032 : Nat) ≤ (15 : Int)) ∧ ((0 : Int) ≤ y.n (100035 : Nat) ∧ y.n (100035 : Nat) ≤ (15 : Int)) ∧ ((0 : Int) ≤ y.n (100040 : Nat) ∧
      y.n (100040 : Nat) ≤ (2047 : Int)) ∧ ((0 : Int) ≤ (0 : Int) ∧ (0 : Int) ≤ (63 : Int)) ∧ ((0 : Int) ≤ y.n (100043 : Nat) ∧ y.n (100043 : Nat) ≤ (3 : Int)) ∧ ((0 : Int) ≤
      y.n (100044 : Nat) ∧ y.n (100044 : Nat) ≤ (15 : Int)) ∧ ((0 : Int) ≤ y.n (100044 : Nat) ∧ y.n (100044 : Nat) ≤ (15 : Int)) ∧ ((0 : Int) ≤ y.n (100050 : Nat) ∧ y.n (100050
      : Nat) ≤ (7 : Int)) ∧ ((0 : Int) ≤ y.n (100086 : Nat) ∧ y.n (100086 : Nat) ≤ (1 : Int)) ∧ ((0 : Int) ≤ y.n (100088 : Nat) ∧ y.n (100088 : Nat) ≤ (4 : Int)) ∧ ((0 : Int) ≤
      IntKind.i64.wrap (bits BinOp.and IntKind.u16 (x.fdiv (16 : Int)) (15 : Int)) ∧ IntKind.i64.wrap (bits BinOp.and IntKind.u16 (x.fdiv (16 : Int)) (15 : Int)) ≤ (15 : Int)) ∧
      ((0 : Int) ≤ IntKind.i64.wrap (bits BinOp.and IntKind.u16 x (7 : Int)) ∧ IntKind.i64.wrap (bits BinOp.and IntKind.u16 x (7 : Int)) ≤ (7 : Int)) ∧ True) ∧ S = S) ∧ True) ∧
      ∀ (y_1 : PX), (((1 : Int) ≤ y_1.n (90000 : Nat) ∧ y_1.n (90000 : Nat) ≤ (16777216 : Int)) ∧ True) ∧ True → True ∧ (mpB = mpB ∧ (50 : Nat) = (50 : Nat) ∧ (((0 : Int) ≤ y.n
      (100000 : Nat) ∧ y.n (100000 : Nat) ≤ (2199023255552 : Int)) ∧ ((0 : Int) ≤ y.n (100004 : Nat) ∧ y.n (100004 : Nat) ≤ (2047 : Int)) ∧ ((0 : Int) ≤ y.n (100005 : Nat) ∧ y.n
      (100005 : Nat) ≤ (63 : Int)) ∧ ((0 : Int) ≤ y.n (100006 : Nat) ∧ y.n (100006 : Nat) ≤ (16777216 : Int)) ∧ ((0 : Int) ≤ y.n (100007 : Nat) ∧ y.n (100007 : Nat) ≤ (3 : Int))
      ∧ ((0 : Int) ≤ y.n (100008 : Nat) ∧ y.n (100008 : Nat) ≤ (15 : Int)) ∧ ((0 : Int) ≤ y.n (100011 : Nat) ∧ y.n (100011 : Nat) ≤ (15 : Int)) ∧ ((0 : Int) ≤ y.n (100016 : Nat)
      ∧ y.n (100016 : Nat) ≤ (2047 : Int)) ∧ ((0 : Int) ≤ y.n (100017 : Nat) ∧ y.n (100017 : Nat) ≤ (63 : Int)) ∧ ((0 : Int) ≤ y.n (100018 : Nat) ∧ y.n (100018 : Nat) ≤
      (16777216 : Int)) ∧ ((0 : Int) ≤ y.n (100019 : Nat) ∧ y.n (100019 : Nat) ≤ (3 : Int)) ∧ ((0 : Int) ≤ y.n (100020 : Nat) ∧ y.n (100020 : Nat) ≤ (15 : Int)) ∧ ((0 : Int) ≤
      y.n (100023 : Nat) ∧ y.n (100023 : Nat) ≤ (15 : Int)) ∧ ((0 : Int) ≤ y.n (100028 : Nat) ∧ y.n (100028 : Nat) ≤ (2047 : Int)) ∧ ((0 : Int) ≤ y.n (100029 : Nat) ∧ y.n
      (100029 : Nat) ≤ (63 : Int)) ∧ ((0 : Int) ≤ y.n (100030 : Nat) ∧ y.n (100030 : Nat) ≤ (16777216 : Int)) ∧ ((0 : Int) ≤ y.n (100031 : Nat) ∧ y.n (100031 : Nat) ≤ (3 : Int))
      ∧ ((0 : Int) ≤ y.n (100032 : Nat) ∧ y.n (100032 : Nat) ≤ (15 : Int)) ∧ ((0 : Int) ≤ y.n (100035 : Nat) ∧ y.n (100035 : Nat) ≤ (15 : Int)) ∧ ((0 : Int) ≤ y.n (100040 : Nat)
      ∧ y.n (100040 : Nat) ≤ (2047 : Int)) ∧ ((0 : Int) ≤ (0 : Int) ∧ (0 : Int) ≤ (63 : Int)) ∧ ((0 : Int) ≤ y_1.n (90000 : Nat) ∧ y_1.n (90000 : Nat) ≤ (16777216 : Int)) ∧ ((0
      : Int) ≤ y.n (100043 : Nat) ∧ y.n (100043 : Nat) ≤ (3 : Int)) ∧ ((0 : Int) ≤ y.n (100044 : Nat) ∧ y.n (100044 : Nat) ≤ (15 : Int)) ∧ ((0 : Int) ≤ y.n (100044 : Nat) ∧ y.n
      (100044 : Nat) ≤ (15 : Int)) ∧ ((0 : Int) ≤ y.n (100050 : Nat) ∧ y.n (100050 : Nat) ≤ (7 : Int)) ∧ ((0 : Int) ≤ y.n (100086 : Nat) ∧ y.n (100086 : Nat) ≤ (1 : Int)) ∧ ((0
      : Int) ≤ y.n (100088 : Nat) ∧ y.n (100088 : Nat) ≤ (4 : Int)) ∧ ((0 : Int) ≤ IntKind.i64.wrap (bits BinOp.and IntKind.u16 (x.fdiv (16 : Int)) (15 : Int)) ∧
      IntKind.i64.wrap (bits BinOp.and IntKind.u16 (x.fdiv (16 : Int)) (15 : Int)) ≤ (15 : Int)) ∧ ((0 : Int) ≤ IntKind.i64.wrap (bits BinOp.and IntKind.u16 x (7 : Int)) ∧
      IntKind.i64.wrap (bits BinOp.and IntKind.u16 x (7 : Int)) ≤ (7 : Int)) ∧ True) ∧ S = S) ∧ True) ∧ ((y.n (100038 : Nat) == (0 : Int)) = false → ((mpB = mpB ∧ (50 : Nat) =
      (50 : Nat) ∧ (((0 : Int) ≤ y.n (100000 : Nat) ∧ y.n (100000 : Nat) ≤ (2199023255552 : Int)) ∧ ((0 : Int) ≤ y.n (100004 : Nat) ∧ y.n (100004 : Nat) ≤ (2047 : Int)) ∧ ((0 :
      Int) ≤ y.n (100005 : Nat) ∧ y.n (100005 : Nat) ≤ (63 : Int)) ∧ ((0 : Int) ≤ y.n (100007 : Nat) ∧ y.n (100007 : Nat) ≤ (3 : Int)) ∧ ((0 : Int) ≤ y.n (100008 : Nat) ∧ y.n
      (100008 : Nat) ≤ (15 : Int)) ∧ ((0 : Int) ≤ y.n (100011 : Nat) ∧ y.n (100011 : Nat) ≤ (15 : Int)) ∧ ((0 : Int) ≤ y.n (100016 : Nat) ∧ y.n (100016 : Nat) ≤ (2047 : Int)) ∧
      ((0 : Int) ≤ y.n (100017 : Nat) ∧ y.n (100017 : Nat) ≤ (63 : Int)) ∧ ((0 : Int) ≤ y.n (100019 : Nat) ∧ y.n (100019 : Nat) ≤ (3 : Int)) ∧ ((0 : Int) ≤ y.n (100020 : Nat) ∧
      y.n (100020 : Nat) ≤ (15 : Int)) ∧ ((0 : Int) ≤ y.n (100023 : Nat) ∧ y.n (100023 : Nat) ≤ (15 : Int)) ∧ ((0 : Int) ≤ y.n (100028 : Nat) ∧ y.n (100028 : Nat) ≤ (2047 :
      Int)) ∧ ((0 : Int) ≤ y.n (100029 : Nat) ∧ y.n (100029 : Nat) ≤ (63 : Int)) ∧ ((0 : Int) ≤ y.n (100031 : Nat) ∧ y.n (100031 : Nat) ≤ (3 : Int)) ∧ ((0 : Int) ≤ y.n (100032 :
      Nat) ∧ y.n (100032 : Nat) ≤ (15 : Int)) ∧ ((0 : Int) ≤ y.n (100035 : Nat) ∧ y.n (100035 : Nat) ≤ (15 : Int)) ∧ ((0 : Int) ≤ y.n (100040 : Nat) ∧ y.n (100040 : Nat) ≤ (2047
      : Int)) ∧ ((0 : Int) ≤ (0 : Int) ∧ (0 : Int) ≤ (63 : Int)) ∧ ((0 : Int) ≤ y.n (100043 : Nat) ∧ y.n (100043 : Nat) ≤ (3 : Int)) ∧ ((0 : Int) ≤ y.n (100044 : Nat) ∧ y.n
      (100044 : Nat) ≤ (15 : Int)) ∧ ((0 : Int) ≤ y.n (100044 : Nat) ∧ y.n (100044 : Nat) ≤ (15 : Int)) ∧ ((0 : Int) ≤ y.n (100050 : Nat) ∧ y.n (100050 : Nat) ≤ (7 : Int)) ∧ ((0
      : Int) ≤ y.n (100086 : Nat) ∧ y.n (100086 : Nat) ≤ (1 : Int)) ∧ ((0 : Int) ≤ y.n (100088 : Nat) ∧ y.n (100088 : Nat) ≤ (4 : Int)) ∧ ((0 : Int) ≤ IntKind.i64.wrap (bits
      BinOp.and IntKind.u16 (x.fdiv (16 : Int)) (15 : Int)) ∧ IntKind.i64.wrap (bits BinOp.and IntKind.u16 (x.fdiv (16 : Int)) (15 : Int)) ≤ (15 : Int)) ∧ ((0 : Int) ≤
      IntKind.i64.wrap (bits BinOp.and IntKind.u16 x (7 : Int)) ∧ IntKind.i64.wrap (bits BinOp.and IntKind.u16 x (7 : Int)) ≤ (7 : Int)) ∧ True) ∧ S = S) ∧ True) ∧ ∀ (y_1 : PX),
      (((1 : Int) ≤ y_1.n (90000 : Nat) ∧ y_1.n (90000 : Nat) ≤ (16777216 : Int)) ∧ True) ∧ True → True ∧ (mpB = mpB ∧ (50 : Nat) = (50 : Nat) ∧ (((0 : Int) ≤ y.n (100000 : Nat)
      ∧ y.n (100000 : Nat) ≤ (2199023255552 : Int)) ∧ ((0 : Int) ≤ y.n (100004 : Nat) ∧ y.n (100004 : Nat) ≤ (2047 : Int)) ∧ ((0 : Int) ≤ y.n (100005 : Nat) ∧ y.n (100005 : Nat)
      ≤ (63 : Int)) ∧ ((0 : Int) ≤ y.n (100006 : Nat) ∧ y.n (100006 : Nat) ≤ (16777216 : Int)) ∧ ((0 : Int) ≤ y.n (100007 : Nat) ∧ y.n (100007 : Nat) ≤ (3 : Int)) ∧ ((0 : Int) ≤
      y.n (100008 : Nat) ∧ y.n (100008 : Nat) ≤ (15 : Int)) ∧ ((0 : Int) ≤ y.n (100011 : Nat) ∧ y.n (100011 : Nat) ≤ (15 : Int)) ∧ ((0 : Int) ≤ y.n (100016 : Nat) ∧ y.n (100016
      : Nat) ≤ (2047 : Int)) ∧ ((0 : Int) ≤ y.n (100017 : Nat) ∧ y.n (100017 : Nat) ≤ (63 : Int)) ∧ ((0 : Int) ≤ y.n (100018 : Nat) ∧ y.n (100018 : Nat) ≤ (16777216 : Int)) ∧
      ((0 : Int) ≤ y.n (100019 : Nat) ∧ y.n (100019 : Nat) ≤ (3 : Int)) ∧ ((0 : Int) ≤ y.n (100020 : Nat) ∧ y.n (100020 : Nat) ≤ (15 : Int)) ∧ ((0 : Int) ≤ y.n (100023 : Nat) ∧
      y.n (100023 : Nat) ≤ (15 : Int)) ∧ ((0 : Int) ≤ y.n (100028 : Nat) ∧ y.n (100028 : Nat) ≤ (2047 : Int)) ∧ ((0 : Int) ≤ y.n (100029 : Nat) ∧ y.n (100029 : Nat) ≤ (63 :
      Int)) ∧ ((0 : Int) ≤ y.n (100030 : Nat) ∧ y.n (100030 : Nat) ≤ (16777216 : Int)) ∧ ((0 : Int) ≤ y.n (100031 : Nat) ∧ y.n (100031 : Nat) ≤ (3 : Int)) ∧ ((0 : Int) ≤ y.n
      (100032 : Nat) ∧ y.n (100032 : Nat) ≤ (15 : Int)) ∧ ((0 : Int) ≤ y.n (100035 : Nat) ∧ y.n (100035 : Nat) ≤ (15 : Int)) ∧ ((0 : Int) ≤ y.n (100040 : Nat) ∧ y.n (100040 :
      Nat) ≤ (2047 : Int)) ∧ ((0 : Int) ≤ (0 : Int) ∧ (0 : Int) ≤ (63 : Int)) ∧ ((0 : Int) ≤ y_1.n (90000 : Nat) ∧ y_1.n (90000 : Nat) ≤ (16777216 : Int)) ∧ ((0 : Int) ≤ y.n
      (100043 : Nat) ∧ y.n (100043 : Nat) ≤ (3 : Int)) ∧ ((0 : Int) ≤ y.n (100044 : Nat) ∧ y.n (100044 : Nat) ≤ (15 : Int)) ∧ ((0 : Int) ≤ y.n (100044 : Nat) ∧ y.n (100044 :
      Nat) ≤ (15 : Int)) ∧ ((0 : Int) ≤ y.n (100050 : Nat) ∧ y.n (100050 : Nat) ≤ (7 : Int)) ∧ ((0 : Int) ≤ y.n (100086 : Nat) ∧ y.n (100086 : Nat) ≤ (1 : Int)) ∧ ((0 : Int) ≤
      y.n (100088 : Nat) ∧ y.n (100088 : Nat) ≤ (4 : Int)) ∧ ((0 : Int) ≤ IntKind.i64.wrap (bits BinOp.and IntKind.u16 (x.fdiv (16 : Int)) (15 : Int)) ∧ IntKind.i64.wrap (bits
      BinOp.and IntKind.u16 (x.fdiv (16 : Int)) (15 : Int)) ≤ (15 : Int)) ∧ ((0 : Int) ≤ IntKind.i64.wrap (bits BinOp.and IntKind.u16 x (7 : Int)) ∧ IntKind.i64.wrap (bits
      BinOp.and IntKind.u16 x (7 : Int)) ≤ (7 : Int)) ∧ True) ∧ S = S) ∧ True)))) := by kernel_rfl
set_option maxHeartbeats 2000000 in
theorem wr8_c (E : World) (S : SW) (k : Int) (x : Int) (z : PX) (hz : rgM z (uM mpB) 0) (hp : (fun _ => 0 ≤ x ∧ x ≤ 65535) z) : HC (pe E) 8 [.c (.p 1 0), .c (.i false .i64 k), .c (.i true .i64 8), .c (.i false .u16 x)] (uM mpB) S (.t []) (fun _ _ => True) z := by
  refine HC.mk false (by rfl) (by rfl) (by rfl) (by rfl) (fnTree_sound (P := pe E) orcS_ok tab_ok tab_sz mixed 20000 Try.func8 (by decide) [.c (.p 1 0), .c (.i false .i64 k), .c (.i true .i64 8), .c (.i false .u16 x)] _) ⟨?_⟩
  rw [wr8_p]
  obtain ⟨h0, h4, h5, h6, h7, h8, h11, h16, h17, h18, h19, h20, h23, h28, h29, h30, h31, h32, h35, h40, h41, h42, h43, h44, h47, h50, h86, h88, h92, h93, _⟩ := rg_u hz
  obtain ⟨p1, p2⟩ := hp
  (repeat' (first | assumption | exact trivial | exact rfl | apply And.intro | (rintro y ⟨⟨⟨h0, h4, h5, h6, h7, h8, h11, h16, h17, h18, h19, h20, h23, h28, h29, h30, h31, h32, h35, h40, h41, h42, h43, h44, h47, h50, h86, h88, h92, h93, _⟩, _⟩, _, hq⟩; (try rw [hq])) | (rintro y ⟨⟨hr, _⟩, hq⟩) | intro _)) <;> ((try simp only [inB, f4096, f64, f2048, f16, f8, f32, f128, f256, f8192, a1, a3, a7, a15, a63, a2047, wi64, wu16, Bool.not_eq_true', Bool.not_eq_false', Bool.and_eq_true, Bool.or_eq_true, beq_iff_eq, bne_iff_ne, ne_eq, beq_eq_false_iff_ne, bne_eq_false_iff_eq, decide_eq_true_eq, decide_eq_false_iff_not] at *) <;> (repeat' split) <;> omega)
theorem wr9_p (E : World) (S : SW) (z : PX) (k : Int) (x : Int) :
    (hoP false (uM mpB) S (.t []) (fun _ _ => True) z (fnTree (pe E) (orcS E) (tabL fns) 20000 Try.f8 [.c (.p 1 0), .c (.i false .i64 k), .c (.i true .i64 9), .c (.i false .u16 x)] (mkM z S (uM mpB) 0))) =
    (((mpB = mpB ∧ (50 : Nat) = (50 : Nat) ∧ (RG z) ∧ S = S) ∧ True) ∧ ∀ (y : PX), ((RG y) ∧ True) ∧ True ∧ True → ((bits BinOp.and IntKind.u16 x (32768 : Int) == (0 : Int)) =
      true → True ∧ (mpB = mpB ∧ (50 : Nat) = (50 : Nat) ∧ (((0 : Int) ≤ y.n (100000 : Nat) ∧ y.n (100000 : Nat) ≤ (2199023255552 : Int)) ∧ ((0 : Int) ≤ y.n (100004 : Nat) ∧ y.n
      (100004 : Nat) ≤ (2047 : Int)) ∧ ((0 : Int) ≤ y.n (100005 : Nat) ∧ y.n (100005 : Nat) ≤ (63 : Int)) ∧ ((0 : Int) ≤ y.n (100006 : Nat) ∧ y.n (100006 : Nat) ≤ (16777216 :
      Int)) ∧ ((0 : Int) ≤ y.n (100007 : Nat) ∧ y.n (100007 : Nat) ≤ (3 : Int)) ∧ ((0 : Int) ≤ y.n (100008 : Nat) ∧ y.n (100008 : Nat) ≤ (15 : Int)) ∧ ((0 : Int) ≤ y.n (100011 :
      Nat) ∧ y.n (100011 : Nat) ≤ (15 : Int)) ∧ ((0 : Int) ≤ y.n (100016 : Nat) ∧ y.n (100016 : Nat) ≤ (2047 : Int)) ∧ ((0 : Int) ≤ y.n (100017 : Nat) ∧ y.n (100017 : Nat) ≤ (63
      : Int)) ∧ ((0 : Int) ≤ y.n (100018 : Nat) ∧ y.n (100018 : Nat) ≤ (16777216 : Int)) ∧ ((0 : Int) ≤ y.n (100019 : Nat) ∧ y.n (100019 : Nat) ≤ (3 : Int)) ∧ ((0 : Int) ≤ y.n
      (100020 : Nat) ∧ y.n (100020 : Nat) ≤ (15 : Int)) ∧ ((0 : Int) ≤ y.n (100023 : Nat) ∧ y.n (100023 : Nat) ≤ (15 : Int)) ∧ ((0 : Int) ≤ IntKind.i64.wrap (bits BinOp.and
      IntKind.u16 x (2047 : Int)) ∧ IntKind.i64.wrap (bits BinOp.and IntKind.u16 x (2047 : Int)) ≤ (2047 : Int)) ∧ ((0 : Int) ≤ y.n (100029 : Nat) ∧ y.n (100029 : Nat) ≤ (63 :
      Int)) ∧ ((0 : Int) ≤ y.n (100030 : Nat) ∧ y.n (100030 : Nat) ≤ (16777216 : Int)) ∧ ((0 : Int) ≤ y.n (100031 : Nat) ∧ y.n (100031 : Nat) ≤ (3 : Int)) ∧ ((0 : Int) ≤ y.n
      (100032 : Nat) ∧ y.n (100032 : Nat) ≤ (15 : Int)) ∧ ((0 : Int) ≤ y.n (100035 : Nat) ∧ y.n (100035 : Nat) ≤ (15 : Int)) ∧ ((0 : Int) ≤ y.n (100040 : Nat) ∧ y.n (100040 :
      Nat) ≤ (2047 : Int)) ∧ ((0 : Int) ≤ y.n (100041 : Nat) ∧ y.n (100041 : Nat) ≤ (63 : Int)) ∧ ((0 : Int) ≤ y.n (100042 : Nat) ∧ y.n (100042 : Nat) ≤ (16777216 : Int)) ∧ ((0
      : Int) ≤ y.n (100043 : Nat) ∧ y.n (100043 : Nat) ≤ (3 : Int)) ∧ ((0 : Int) ≤ y.n (100044 : Nat) ∧ y.n (100044 : Nat) ≤ (15 : Int)) ∧ ((0 : Int) ≤ y.n (100047 : Nat) ∧ y.n
      (100047 : Nat) ≤ (15 : Int)) ∧ ((0 : Int) ≤ y.n (100050 : Nat) ∧ y.n (100050 : Nat) ≤ (7 : Int)) ∧ ((0 : Int) ≤ y.n (100086 : Nat) ∧ y.n (100086 : Nat) ≤ (1 : Int)) ∧ ((0
      : Int) ≤ y.n (100088 : Nat) ∧ y.n (100088 : Nat) ≤ (4 : Int)) ∧ ((0 : Int) ≤ y.n (100092 : Nat) ∧ y.n (100092 : Nat) ≤ (15 : Int)) ∧ ((0 : Int) ≤ y.n (100093 : Nat) ∧ y.n
      (100093 : Nat) ≤ (7 : Int)) ∧ True) ∧ S = S) ∧ True) ∧ ((bits BinOp.and IntKind.u16 x (32768 : Int) == (0 : Int)) = false → ((y.n (100032 : Nat) != (0 : Int)) = true →
      ((y.n (100026 : Nat) == (0 : Int)) = true → ((mpB = mpB ∧ (50 : Nat) = (50 : Nat) ∧ (((0 : Int) ≤ y.n (100000 : Nat) ∧ y.n (100000 : Nat) ≤ (2199023255552 : Int)) ∧ ((0 :
      Int) ≤ y.n (100004 : Nat) ∧ y.n (100004 : Nat) ≤ (2047 : Int)) ∧ ((0 : Int) ≤ y.n (100005 : Nat) ∧ y.n (100005 : Nat) ≤ (63 : Int)) ∧ ((0 : Int) ≤ y.n (100007 : Nat) ∧ y.n
      (100007 : Nat) ≤ (3 : Int)) ∧ ((0 : Int) ≤ y.n (100008 : Nat) ∧ y.n (100008 : Nat) ≤ (15 : Int)) ∧ ((0 : Int) ≤ y.n (100011 : Nat) ∧ y.n (100011 : Nat) ≤ (15 : Int)) ∧ ((0
      : Int) ≤ y.n (100016 : Nat) ∧ y.n (100016 : Nat) ≤ (2047 : Int)) ∧ ((0 : Int) ≤ y.n (100017 : Nat) ∧ y.n (100017 : Nat) ≤ (63 : Int)) ∧ ((0 : Int) ≤ y.n (100019 : Nat) ∧
      y.n (100019 : Nat) ≤ (3 : Int)) ∧ ((0 : Int) ≤ y.n (100020 : Nat) ∧ y.n (100020 : Nat) ≤ (15 : Int)) ∧ ((0 : Int) ≤ y.n (100023 : Nat) ∧ y.n (100023 : Nat) ≤ (15 : Int)) ∧
      ((0 : Int) ≤ IntKind.i64.wrap (bits BinOp.and IntKind.u16 x (2047 : Int)) ∧ IntKind.i64.wrap (bits BinOp.and IntKind.u16 x (2047 : Int)) ≤ (2047 : Int)) ∧ ((0 : Int) ≤ (0
      : Int) ∧ (0 : Int) ≤ (63 : Int)) ∧ ((0 : Int) ≤ y.n (100031 : Nat) ∧ y.n (100031 : Nat) ≤ (3 : Int)) ∧ ((0 : Int) ≤ y.n (100032 : Nat) ∧ y.n (100032 : Nat) ≤ (15 : Int)) ∧
      ((0 : Int) ≤ y.n (100032 : Nat) ∧ y.n (100032 : Nat) ≤ (15 : Int)) ∧ ((0 : Int) ≤ y.n (100040 : Nat) ∧ y.n (100040 : Nat) ≤ (2047 : Int)) ∧ ((0 : Int) ≤ y.n (100041 : Nat)
      ∧ y.n (100041 : Nat) ≤ (63 : Int)) ∧ ((0 : Int) ≤ y.n (100043 : Nat) ∧ y.n (100043 : Nat) ≤ (3 : Int)) ∧ ((0 : Int) ≤ y.n (100044 : Nat) ∧ y.n (100044 : Nat) ≤ (15 : Int))
      ∧ ((0 : Int) ≤ y.n (100047 : Nat) ∧ y.n (100047 : Nat) ≤ (15 : Int)) ∧ ((0 : Int) ≤ y.n (100050 : Nat) ∧ y.n (100050 : Nat) ≤ (7 : Int)) ∧ ((0 : Int) ≤ y.n (100086 : Nat)
      ∧ y.n (100086 : Nat) ≤ (1 : Int)) ∧ ((0 : Int) ≤ y.n (100088 : Nat) ∧ y.n (100088 : Nat) ≤ (4 : Int)) ∧ ((0 : Int) ≤ y.n (100092 : Nat) ∧ y.n (100092 : Nat) ≤ (15 : Int))
      ∧ ((0 : Int) ≤ y.n (100093 : Nat) ∧ y.n (100093 : Nat) ≤ (7 : Int)) ∧ True) ∧ S = S) ∧ True) ∧ ∀ (y_1 : PX), (((1 : Int) ≤ y_1.n (90000 : Nat) ∧ y_1.n (90000 : Nat) ≤
      (16777216 : Int)) ∧ True) ∧ True → True ∧ (mpB = mpB ∧ (50 : Nat) = (50 : Nat) ∧ (((0 : Int) ≤ y.n (100000 : Nat) ∧ y.n (100000 : Nat) ≤ (2199023255552 : Int)) ∧ ((0 :
      Int) ≤ y.n (100004 : Nat) ∧ y.n (100004 : Nat) ≤ (2047 : Int)) ∧ ((0 : Int) ≤ y.n (100005 : Nat) ∧ y.n (100005 : Nat) ≤ (63 : Int)) ∧ ((0 : Int) ≤ y.n (100006 : Nat) ∧ y.n
      (100006 : Nat) ≤ (16777216 : Int)) ∧ ((0 : Int) ≤ y.n (100007 : Nat) ∧ y.n (100007 : Nat) ≤ (3 : Int)) ∧ ((0 : Int) ≤ y.n (100008 : Nat) ∧ y.n (100008 : Nat) ≤ (15 : Int))
      ∧ ((0 : Int) ≤ y.n (100011 : Nat) ∧ y.n (100011 : Nat) ≤ (15 : Int)) ∧ ((0 : Int) ≤ y.n (100016 : Nat) ∧ y.n (100016 : Nat) ≤ (2047 : Int)) ∧ ((0 : Int) ≤ y.n (100017 :
      Nat) ∧ y.n (100017 : Nat) ≤ (63 : Int)) ∧ ((0 : Int) ≤ y.n (100018 : Nat) ∧ y.n (100018 : Nat) ≤ (16777216 : Int)) ∧ ((0 : Int) ≤ y.n (100019 : Nat) ∧ y.n (100019 : Nat) ≤
      (3 : Int)) ∧ ((0 : Int) ≤ y.n (100020 : Nat) ∧ y.n (100020 : Nat) ≤ (15 : Int)) ∧ ((0 : Int) ≤ y.n (100023 : Nat) ∧ y.n (100023 : Nat) ≤ (15 : Int)) ∧ ((0 : Int) ≤
      IntKind.i64.wrap (bits BinOp.and IntKind.u16 x (2047 : Int)) ∧ IntKind.i64.wrap (bits BinOp.and IntKind.u16 x (2047 : Int)) ≤ (2047 : Int)) ∧ ((0 : Int) ≤ (0 : Int) ∧ (0 :
      Int) ≤ (63 : Int)) ∧ ((0 : Int) ≤ y_1.n (90000 : Nat) ∧ y_1.n (90000 : Nat) ≤ (16777216 : Int)) ∧ ((0 : Int) ≤ y.n (100031 : Nat) ∧ y.n (100031 : Nat) ≤ (3 : Int)) ∧ ((0 :
      Int) ≤ y.n (100032 : Nat) ∧ y.n (100032 : Nat) ≤ (15 : Int)) ∧ ((0 : Int) ≤ y.n (100032 : Nat) ∧ y.n (100032 : Nat) ≤ (15 : Int)) ∧ ((0 : Int) ≤ y.n (100040 : Nat) ∧ y.n
      (100040 : Nat) ≤ (2047 : Int)) ∧ ((0 : Int) ≤ y.n (100041 : Nat) ∧ y.n (100041 : Nat) ≤ (63 : Int)) ∧ ((0 : Int) ≤ y.n (100042 : Nat) ∧ y.n (100042 : Nat) ≤ (16777216 :
      Int)) ∧ ((0 : Int) ≤ y.n (100043 : Nat) ∧ y.n (100043 : Nat) ≤ (3 : Int)) ∧ ((0 : Int) ≤ y.n (100044 : Nat) ∧ y.n (100044 : Nat) ≤ (15 : Int)) ∧ ((0 : Int) ≤ y.n (100047 :
      Nat) ∧ y.n (100047 : Nat) ≤ (15 : Int)) ∧ ((0 : Int) ≤ y.n (100050 : Nat) ∧ y.n (100050 : Nat) ≤ (7 : Int)) ∧ ((0 : Int) ≤ y.n (100086 : Nat) ∧ y.n (100086 : Nat) ≤ (1 :
      Int)) ∧ ((0 : Int) ≤ y.n (100088 : Nat) ∧ y.n (100088 : Nat) ≤ (4 : Int)) ∧ ((0 : Int) ≤ y.n (100092 : Nat) ∧ y.n (100092 : Nat) ≤ (15 : Int)) ∧ ((0 : Int) ≤ y.n (100093 :
      Nat) ∧ y.n (100093 : Nat) ≤ (7 : Int)) ∧ True) ∧ S = S) ∧ True) ∧ ((y.n (100026 : Nat) == (0 : Int)) = false → ((mpB = mpB ∧ (50 : Nat) = (50 : Nat) ∧ (((0 : Int) ≤ y.n
      (100000 : Nat) ∧ y.n (100000 : Nat) ≤ (2199023255552 : Int)) ∧ ((0 : Int) ≤ y.n (100004 : Nat) ∧ y.n (100004 : Nat) ≤ (2047 : Int)) ∧ ((0 : Int) ≤ y.n (100005 : Nat) ∧ y.n
      (100005 : Nat) ≤ (63 : Int)) ∧ ((0 : Int) ≤ y.n (100007 : Nat) ∧ y.n (100007 : Nat) ≤ (3 : Int)) ∧ ((0 : Int) ≤ y.n (100008 : Nat) ∧ y.n (100008 : Nat) ≤ (15 : Int)) ∧ ((0
      : Int) ≤ y.n (100011 : Nat) ∧ y.n (100011 : Nat) ≤ (15 : Int)) ∧ ((0 : Int) ≤ y.n (100016 : Nat) ∧ y.n (100016 : Nat) ≤ (2047 : Int)) ∧ ((0 : Int) ≤ y.n (100017 : Nat) ∧
      y.n (100017 : Nat) ≤ (63 : Int)) ∧ ((0 : Int) ≤ y.n (100019 : Nat) ∧ y.n (100019 : Nat) ≤ (3 : Int)) ∧ ((0 : Int) ≤ y.n (100020 : Nat) ∧ y.n (100020 : Nat) ≤ (15 : Int)) ∧
      ((0 : Int) ≤ y.n (100023 : Nat) ∧ y.n (100023 : Nat) ≤ (15 : Int)) ∧ ((0 : Int) ≤ IntKind.i64.wrap (bits BinOp.and IntKind.u16 x (2047 : Int)) ∧ IntKind.i64.wrap (bits
      BinOp.and IntKind.u16 x (2047 : Int)) ≤ (2047 : Int)) ∧ ((0 : Int) ≤ (0 : Int) ∧ (0 : Int) ≤ (63 : Int)) ∧ ((0 : Int) ≤ y.n (100031 : Nat) ∧ y.n (100031 : Nat) ≤ (3 :
      Int)) ∧ ((0 : Int) ≤ y.n (100032 : Nat) ∧ y.n (100032 : Nat) ≤ (15 : Int)) ∧ ((0 : Int) ≤ y.n (100032 : Nat) ∧ y.n (100032 : Nat) ≤ (15 : Int)) ∧ ((0 : Int) ≤ y.n (100040
      : Nat) ∧ y.n (100040 : Nat) ≤ (2047 : Int)) ∧ ((0 : Int) ≤ y.n (100041 : Nat) ∧ y.n (100041 : Nat) ≤ (63 : Int)) ∧ ((0 : Int) ≤ y.n (100043 : Nat) ∧ y.n (100043 : Nat) ≤
      (3 : Int)) ∧ ((0 : Int) ≤ y.n (100044 : Nat) ∧ y.n (100044 : Nat) ≤ (15 : Int)) ∧ ((0 : Int) ≤ y.n (100047 : Nat) ∧ y.n (100047 : Nat) ≤ (15 : Int)) ∧ ((0 : Int) ≤ y.n
      (100050 : Nat) ∧ y.n (100050 : Nat) ≤ (7 : Int)) ∧ ((0 : Int) ≤ y.n (100086 : Nat) ∧ y.n (100086 : Nat) ≤ (1 : Int)) ∧ ((0 : Int) ≤ y.n (100088 : Nat) ∧ y.n (100088 : Nat)
      ≤ (4 : Int)) ∧ ((0 : Int) ≤ y.n (100092 : Nat) ∧ y.n (100092 : Nat) ≤ (15 : Int)) ∧ ((0 : Int) ≤ y.n (100093 : Nat) ∧ y.n (100093 : Nat) ≤ (7 : Int)) ∧ True) ∧ S = S) ∧
      True) ∧ ∀ (y_1 : PX), (((1 : Int) ≤ y_1.n (90000 : Nat) ∧ y_1.n (90000 : Nat) ≤ (16777216 : Int)) ∧ True) ∧ True → True ∧ (mpB = mpB ∧ (50 : Nat) = (50 : Nat) ∧ (((0 :
      Int) ≤ y.n (100000 : Nat) ∧ y.n (100000 : Nat) ≤ (2199023255552 : Int)) ∧ ((0 : Int) ≤ y.n (100004 : Nat) ∧ y.n (100004 : Nat) ≤ (2047 : Int)) ∧ ((0 : Int) ≤ y.n (100005 :
      Nat) ∧ y.n (100005 : Nat) ≤ (63 : Int)) ∧ ((0 : Int) ≤ y.n (100006 : Nat) ∧ y.n (100006 : Nat) ≤ (16777216 : Int)) ∧ ((0 : Int) ≤ y.n (100007 : Nat) ∧ y.n (100007 : Nat) ≤
      (3 : Int)) ∧ ((0 : Int) ≤ y.n (100008 : Nat) ∧ y.n (100008 : Nat) ≤ (15 : Int)) ∧ ((0 : Int) ≤ y.n (100011 : Nat) ∧ y.n (100011 : Nat) ≤ (15 : Int)) ∧ ((0 : Int) ≤ y.n
      (100016 : Nat) ∧ y.n (100016 : Nat) ≤ (2047 : Int)) ∧ ((0 : Int) ≤ y.n (100017 : Nat) ∧ y.n (100017 : Nat) ≤ (63 : Int)) ∧ ((0 : Int) ≤ y.n (100018 : Nat) ∧ y.n (100018 :
      Nat) ≤ (16777216 : Int)) ∧ ((0 : Int) ≤ y.n (100019 : Nat) ∧ y.n (100019 : Nat) ≤ (3 : Int)) ∧ ((0 : Int) ≤ y.n (100020 : Nat) ∧ y.n (100020 : Nat) ≤ (15 : Int)) ∧ ((0 :
      Int) ≤ y.n (100023 : Nat) ∧ y.n (100023 : Nat) ≤ (15 : Int)) ∧ ((0 : Int) ≤ IntKind.i64.wrap (bits BinOp.and IntKind.u16 x (2047 : Int)) ∧ IntKind.i64.wrap (bits BinOp.and
      IntKind.u16 x (2047 : Int)) ≤ (2047 : Int)) ∧ ((0 : Int) ≤ (0 : Int) ∧ (0 : Int) ≤ (63 : Int)) ∧ ((0 : Int) ≤ y_1.n (90000 : Nat) ∧ y_1.n (90000 : Nat) ≤ (16777216 : Int))
      ∧ ((0 : Int) ≤ y.n (100031 : Nat) ∧ y.n (100031 : Nat) ≤ (3 : Int)) ∧ ((0 : Int) ≤ y.n (100032 : Nat) ∧ y.n (100032 : Nat) ≤ (15 : Int)) ∧ ((0 : Int) ≤ y.n (100032 : Nat)
      ∧ y.n (100032 : Nat) ≤ (15 : Int)) ∧ ((0 : Int) ≤ y.n (100040 : Nat) ∧ y.n (100040 : Nat) ≤ (2047 : Int)) ∧ ((0 : Int) ≤ y.n (100041 : Nat) ∧ y.n (100041 : Nat) ≤ (63 :
      Int)) ∧ ((0 : Int) ≤ y.n (100042 : Nat) ∧ y.n (100042 : Nat) ≤ (16777216 : Int)) ∧ ((0 : Int) ≤ y.n (100043 : Nat) ∧ y.n (100043 : Nat) ≤ (3 : Int)) ∧ ((0 : Int) ≤ y.n
      (100044 : Nat) ∧ y.n (100044 : Nat) ≤ (15 : Int)) ∧ ((0 : Int) ≤ y.n (100047 : Nat) ∧ y.n (100047 : Nat) ≤ (15 : Int)) ∧ ((0 : Int) ≤ y.n (100050 : Nat) ∧ y.n (100050 :
      Nat) ≤ (7 : Int)) ∧ ((0 : Int) ≤ y.n (100086 : Nat) ∧ y.n (100086 : Nat) ≤ (1 : Int)) ∧ ((0 : Int) ≤ y.n (100088 : Nat) ∧ y.n (100088 : Nat) ≤ (4 : Int)) ∧ ((0 : Int) ≤
      y.n (100092 : Nat) ∧ y.n (100092 : Nat) ≤ (15 : Int)) ∧ ((0 : Int) ≤ y.n (100093 : Nat) ∧ y.n (100093 : Nat) ≤ (7 : Int)) ∧ True) ∧ S = S) ∧ True)) ∧ ((y.n (100032 : Nat)
      != (0 : Int)) = false → ((y.n (100026 : Nat) == (0 : Int)) = true → ((mpB = mpB ∧ (50 : Nat) = (50 : Nat) ∧ (((0 : Int) ≤ y.n (100000 : Nat) ∧ y.n (100000 : Nat) ≤
      (2199023255552 : Int)) ∧ ((0 : Int) ≤ y.n (100004 : Nat) ∧ y.n (100004 : Nat) ≤ (2047 : Int)) ∧ ((0 : Int) ≤ y.n (100005 : Nat) ∧ y.n (100005 : Nat) ≤ (63 : Int)) ∧ ((0 :
      Int) ≤ y.n (100007 : Nat) ∧ y.n (100007 : Nat) ≤ (3 : Int)) ∧ ((0 : Int) ≤ y.n (100008 : Nat) ∧ y.n (100008 : Nat) ≤ (15 : Int)) ∧ ((0 : Int) ≤ y.n (100011 : Nat) ∧ y.n
      (100011 : Nat) ≤ (15 : Int)) ∧ ((0 : Int) ≤ y.n (100016 : Nat) ∧ y.n (100016 : Nat) ≤ (2047 : Int)) ∧ ((0 : Int) ≤ y.n (100017 : Nat) ∧ y.n (100017 : Nat) ≤ (63 : Int)) ∧
      ((0 : Int) ≤ y.n (100019 : Nat) ∧ y.n (100019 : Nat) ≤ (3 : Int)) ∧ ((0 : Int) ≤ y.n (100020 : Nat) ∧ y.n (100020 : Nat) ≤ (15 : Int)) ∧ ((0 : Int) ≤ y.n (100023 : Nat) ∧
      y.n (100023 : Nat) ≤ (15 : Int)) ∧ ((0 : Int) ≤ IntKind.i64.wrap (bits BinOp.and IntKind.u16 x (2047 : Int)) ∧ IntKind.i64.wrap (bits BinOp.and IntKind.u16 x (2047 : Int))
      ≤ (2047 : Int)) ∧ ((0 : Int) ≤ (0 : Int) ∧ (0 : Int) ≤ (63 : Int)) ∧ ((0 : Int) ≤ y.n (100031 : Nat) ∧ y.n (100031 : Nat) ≤ (3 : Int)) ∧ ((0 : Int) ≤ y.n (100032 : Nat) ∧
      y.n (100032 : Nat) ≤ (15 : Int)) ∧ ((0 : Int) ≤ y.n (100032 : Nat) ∧ y.n (100032 : Nat) ≤ (15 : Int)) ∧ ((0 : Int) ≤ y.n (100040 : Nat) ∧ y.n (100040 : Nat) ≤ (2047 :
      Int)) ∧ ((0 : Int) ≤ y.n (100041 : Nat) ∧ y.n (100041 : Nat) ≤ (63 : Int)) ∧ ((0 : Int) ≤ y.n (100043 : Nat) ∧ y.n (100043 : Nat) ≤ (3 : Int)) ∧ ((0 : Int) ≤ y.n (100044 :
      Nat) ∧ y.n (100044 : Nat) ≤ (15 : Int)) ∧ ((0 : Int) ≤ y.n (100047 : Nat) ∧ y.n (100047 : Nat) ≤ (15 : Int)) ∧ ((0 : Int) ≤ y.n (100050 : Nat) ∧ y.n (100050 : Nat) ≤ (7 :
      Int)) ∧ ((0 : Int) ≤ y.n (100086 : Nat) ∧ y.n (100086 : Nat) ≤ (1 : Int)) ∧ ((0 : Int) ≤ y.n (100088 : Nat) ∧ y.n (100088 : Nat) ≤ (4 : Int)) ∧ ((0 : Int) ≤ y.n (100092 :
      Nat) ∧ y.n (100092 : Nat) ≤ (15 : Int)) ∧ ((0 : Int) ≤ y.n (100093 : Nat) ∧ y.n (100093 : Nat) ≤ (7 : Int)) ∧ True) ∧ S = S) ∧ True) ∧ ∀ (y_1 : PX), (((1 : Int) ≤ y_1.n
      (90000 : Nat) ∧ y_1.n (90000 : Nat) ≤ (16777216 : Int)) ∧ True) ∧ True → True ∧ (mpB = mpB ∧ (50 : Nat) = (50 : Nat) ∧ (((0 : Int) ≤ y.n (100000 : Nat) ∧ y.n (100000 :
      Nat) ≤ (2199023255552 : Int)) ∧ ((0 : Int) ≤ y.n (100004 : Nat) ∧ y.n (100004 : Nat) ≤ (2047 : Int)) ∧ ((0 : Int) ≤ y.n (100005 : Nat) ∧ y.n (100005 : Nat) ≤ (63 : Int)) ∧
      ((0 : Int) ≤ y.n (100006 : Nat) ∧ y.n (100006 : Nat) ≤ (16777216 : Int)) ∧ ((0 : Int) ≤ y.n (100007 : Nat) ∧ y.n (100007 : Nat) ≤ (3 : Int)) ∧ ((0 : Int) ≤ y.n (100008 :
      Nat) ∧ y.n (100008 : Nat) ≤ (15 : Int)) ∧ ((0 : Int) ≤ y.n (100011 : Nat) ∧ y.n (100011 : Nat) ≤ (15 : Int)) ∧ ((0 : Int) ≤ y.n (100016 : Nat) ∧ y.n (100016 : Nat) ≤ (2047
      : Int)) ∧ ((0 : Int) ≤ y.n (100017 : Nat) ∧ y.n (100017 : Nat) ≤ (63 : Int)) ∧ ((0 : Int) ≤ y.n (100018 : Nat) ∧ y.n (100018 : Nat) ≤ (16777216 : Int)) ∧ ((0 : Int) ≤ y.n
      (100019 : Nat) ∧ y.n (100019 : Nat) ≤ (3 : Int)) ∧ ((0 : Int) ≤ y.n (100020 : Nat) ∧ y.n (100020 : Nat) ≤ (15 : Int)) ∧ ((0 : Int) ≤ y.n (100023 : Nat) ∧ y.n (100023 :
      Nat) ≤ (15 : Int)) ∧ ((0 : Int) ≤ IntKind.i64.wrap (bits BinOp.and IntKind.u16 x (2047 : Int)) ∧ IntKind.i64.wrap (bits BinOp.and IntKind.u16 x (2047 : Int)) ≤ (2047 :
      Int)) ∧ ((0 : Int) ≤ (0 : Int) ∧ (0 : Int) ≤ (63 : Int)) ∧ ((0 : Int) ≤ y_1.n (90000 : Nat) ∧ y_1.n (90000 : Nat) ≤ (16777216 : Int)) ∧ ((0 : Int) ≤ y.n (100031 : Nat) ∧
      y.n (100031 : Nat) ≤ (3 : Int)) ∧ ((0 : Int) ≤ y.n (100032 : Nat) ∧ y.n (100032 : Nat) ≤ (15 : Int)) ∧ ((0 : Int) ≤ y.n (100032 : Nat) ∧ y.n (100032 : Nat) ≤ (15 : Int)) ∧
      ((0 : Int) ≤ y.n (100040 : Nat) ∧ y.n (100040 : Nat) ≤ (2047 : Int)) ∧ ((0 : Int) ≤ y.n (100041 : Nat) ∧ y.n (100041 : Nat) ≤ (63 : Int)) ∧ ((0 : Int) ≤ y.n (100042 : Nat)
      ∧ y.n (100042 : Nat) ≤ (16777216 : Int)) ∧ ((0 : Int) ≤ y.n (100043 : Nat) ∧ y.n (100043 : Nat) ≤ (3 : Int)) ∧ ((0 : Int) ≤ y.n (100044 : Nat) ∧ y.n (100044 : Nat) ≤ (15 :
      Int)) ∧ ((0 : Int) ≤ y.n (100047 : Nat) ∧ y.n (100047 : Nat) ≤ (15 : Int)) ∧ ((0 : Int) ≤ y.n (100050 : Nat) ∧ y.n (100050 : Nat) ≤ (7 : Int)) ∧ ((0 : Int) ≤ y.n (100086 :
      Nat) ∧ y.n (100086 : Nat) ≤ (1 : Int)) ∧ ((0 : Int) ≤ y.n (100088 : Nat) ∧ y.n (100088 : Nat) ≤ (4 : Int)) ∧ ((0 : Int) ≤ y.n (100092 : Nat) ∧ y.n (100092 : Nat) ≤ (15 :
      Int)) ∧ ((0 : Int) ≤ y.n (100093 : Nat) ∧ y.n (100093 : Nat) ≤ (7 : Int)) ∧ True) ∧ S = S) ∧ True) ∧ ((y.n (100026 : Nat) == (0 : Int)) = false → ((mpB = mpB ∧ (50 : Nat)
      = (50 : Nat) ∧ (((0 : Int) ≤ y.n (100000 : Nat) ∧ y.n (100000 : Nat) ≤ (2199023255552 : Int)) ∧ ((0 : Int) ≤ y.n (100004 : Nat) ∧ y.n (100004 : Nat) ≤ (2047 : Int)) ∧ ((0
      : Int) ≤ y.n (100005 : Nat) ∧ y.n (100005 : Nat) ≤ (63 : Int)) ∧ ((0 : Int) ≤ y.n (100007 : Nat) ∧ y.n (100007 : Nat) ≤ (3 : Int)) ∧ ((0 : Int) ≤ y.n (100008 : Nat) ∧ y.n
      (100008 : Nat) ≤ (15 : Int)) ∧ ((0 : Int) ≤ y.n (100011 : Nat) ∧ y.n (100011 : Nat) ≤ (15 : Int)) ∧ ((0 : Int) ≤ y.n (100016 : Nat) ∧ y.n (100016 : Nat) ≤ (2047 : Int)) ∧
      ((0 : Int) ≤ y.n (100017 : Nat) ∧ y.n (100017 : Nat) ≤ (63 : Int)) ∧ ((0 : Int) ≤ y.n (100019 : Nat) ∧ y.n (100019 : Nat) ≤ (3 : Int)) ∧ ((0 : Int) ≤ y.n (100020 : Nat) ∧
      y.n (100020 : Nat) ≤ (15 : Int)) ∧ ((0 : Int) ≤ y.n (100023 : Nat) ∧ y.n (100023 : Nat) ≤ (15 : Int)) ∧ ((0 : Int) ≤ IntKind.i64.wrap (bits BinOp.and IntKind.u16 x (2047 :
      Int)) ∧ IntKind.i64.wrap (bits BinOp.and IntKind.u16 x (2047 : Int)) ≤ (2047 : Int)) ∧ ((0 : Int) ≤ (0 : Int) ∧ (0 : Int) ≤ (63 : Int)) ∧ ((0 : Int) ≤ y.n (100031 : Nat) ∧
      y.n (100031 : Nat) ≤ (3 : Int)) ∧ ((0 : Int) ≤ y.n (100032 : Nat) ∧ y.n (100032 : Nat) ≤ (15 : Int)) ∧ ((0 : Int) ≤ y.n (100032 : Nat) ∧ y.n (100032 : Nat) ≤ (15 : Int)) ∧
      ((0 : Int) ≤ y.n (100040 : Nat) ∧ y.n (100040 : Nat) ≤ (2047 : Int)) ∧ ((0 : Int) ≤ y.n (100041 : Nat) ∧ y.n (100041 : Nat) ≤ (63 : Int)) ∧ ((0 : Int) ≤ y.n (100043 : Nat)
      ∧ y.n (100043 : Nat) ≤ (3 : Int)) ∧ ((0 : Int) ≤ y.n (100044 : Nat) ∧ y.n (100044 : Nat) ≤ (15 : Int)) ∧ ((0 : Int) ≤ y.n (100047 : Nat) ∧ y.n (100047 : Nat) ≤ (15 : Int))
      ∧ ((0 : Int) ≤ y.n (100050 : Nat) ∧ y.n (100050 : Nat) ≤ (7 : Int)) ∧ ((0 : Int) ≤ y.n (100086 : Nat) ∧ y.n (100086 : Nat) ≤ (1 : Int)) ∧ ((0 : Int) ≤ y.n (100088 : Nat) ∧
      y.n (100088 : Nat) ≤ (4 : Int)) ∧ ((0 : Int) ≤ y.n (100092 : Nat) ∧ y.n (100092 : Nat) ≤ (15 : Int)) ∧ ((0 : Int) ≤ y.n (100093 : Nat) ∧ y.n (100093 : Nat) ≤ (7 : Int)) ∧
      True) ∧ S = S) ∧ True) ∧ ∀ (y_1 : PX), (((1 : Int) ≤ y_1.n (90000 : Nat) ∧ y_1.n (90000 : Nat) ≤ (16777216 : Int)) ∧ True) ∧ True → True ∧ (mpB = mpB ∧ (50 : Nat) = (50 :
      Nat) ∧ (((0 : Int) ≤ y.n (100000 : Nat) ∧ y.n (100000 : Nat) ≤ (2199023255552 : Int)) ∧ ((0 : Int) ≤ y.n (100004 : Nat) ∧ y.n (100004 : Nat) ≤ (2047 : Int)) ∧ ((0 : Int) ≤
      y.n (100005 : Nat) ∧ y.n (100005 : Nat) ≤ (63 : Int)) ∧ ((0 : Int) ≤ y.n (100006 : Nat) ∧ y.n (100006 : Nat) ≤ (16777216 : Int)) ∧ ((0 : Int) ≤ y.n (100007 : Nat) ∧ y.n
      (100007 : Nat) ≤ (3 : Int)) ∧ ((0 : Int) ≤ y.n (100008 : Nat) ∧ y.n (100008 : Nat) ≤ (15 : Int)) ∧ ((0 : Int) ≤ y.n (100011 : Nat) ∧ y.n (100011 : Nat) ≤ (15 : Int)) ∧ ((0
      : Int) ≤ y.n (100016 : Nat) ∧ y.n (100016 : Nat) ≤ (2047 : Int)) ∧ ((0 : Int) ≤ y.n (100017 : Nat) ∧ y.n (100017 : Nat) ≤ (63 : Int)) ∧ ((0 : Int) ≤ y.n (100018 : Nat) ∧
      y.n (100018 : Nat) ≤ (16777216 : Int)) ∧ ((0 : Int) ≤ y.n (100019 : Nat) ∧ y.n (100019 : Nat) ≤ (3 : Int)) ∧ ((0 : Int) ≤ y.n (100020 : Nat) ∧ y.n (100020 : Nat) ≤ (15 :
      Int)) ∧ ((0 : Int) ≤ y.n (100023 : Nat) ∧ y.n (100023 : Nat) ≤ (15 : Int)) ∧ ((0 : Int) ≤ IntKind.i64.wrap (bits BinOp.and IntKind.u16 x (2047 : Int)) ∧ IntKind.i64.wrap
      (bits BinOp.and IntKind.u16 x (2047 : Int)) ≤ (2047 : Int)) ∧ ((0 : Int) ≤ (0 : Int) ∧ (0 : Int) ≤ (63 : Int)) ∧ ((0 : Int) ≤ y_1.n (90000 : Nat) ∧ y_1.n (90000 : Nat) ≤
      (16777216 : Int)) ∧ ((0 : Int) ≤ y.n (100031 : Nat) ∧ y.n (100031 : Nat) ≤ (3 : Int)) ∧ ((0 : Int) ≤ y.n (100032 : Nat) ∧ y.n (100032 : Nat) ≤ (15 : Int)) ∧ ((0 : Int) ≤
      y.n (100032 : Nat) ∧ y.n (100032 : Nat) ≤ (15 : Int)) ∧ ((0 : Int) ≤ y.n (100040 : Nat) ∧ y.n (100040 : Nat) ≤ (2047 : Int)) ∧ ((0 : Int) ≤ y.n (100041 : Nat) ∧ y.n
      (100041 : Nat) ≤ (63 : Int)) ∧ ((0 : Int) ≤ y.n (100042 : Nat) ∧ y.n (100042 : Nat) ≤ (16777216 : Int)) ∧ ((0 : Int) ≤ y.n (100043 : Nat) ∧ y.n (100043 : Nat) ≤ (3 : Int))
      ∧ ((0 : Int) ≤ y.n (100044 : Nat) ∧ y.n (100044 : Nat) ≤ (15 : Int)) ∧ ((0 : Int) ≤ y.n (100047 : Nat) ∧ y.n (100047 : Nat) ≤ (15 : Int)) ∧ ((0 : Int) ≤ y.n (100050 : Nat)
      ∧ y.n (100050 : Nat) ≤ (7 : Int)) ∧ ((0 : Int) ≤ y.n (100086 : Nat) ∧ y.n (100086 : Nat) ≤ (1 : Int)) ∧ ((0 : Int) ≤ y.n (100088 : Nat) ∧ y.n (100088 : Nat) ≤ (4 : Int)) ∧
      ((0 : Int) ≤ y.n (100092 : Nat) ∧ y.n (100092 : Nat) ≤ (15 : Int)) ∧ ((0 : Int) ≤ y.n (100093 : Nat) ∧ y.n (100093 : Nat) ≤ (7 : Int)) ∧ True) ∧ S = S) ∧ True)))) := by kernel_rfl
set_option maxHeartbeats 2000000 in
theorem wr9_c (E : World) (S : SW) (k : Int) (x : Int) (z : PX) (hz : rgM z (uM mpB) 0) (hp : (fun _ => 0 ≤ x ∧ x ≤ 65535) z) : HC (pe E) 8 [.c (.p 1 0), .c (.i false .i64 k), .c (.i true .i64 9), .c (.i false .u16 x)] (uM mpB) S (.t []) (fun _ _ => True) z := by
  refine HC.mk false (by rfl) (by rfl) (by rfl) (by rfl) (fnTree_sound (P := pe E) orcS_ok tab_ok tab_sz mixed 20000 Try.func8 (by decide) [.c (.p 1 0), .c (.i false .i64 k), .c (.i true .i64 9), .c (.i false .u16 x)] _) ⟨?_⟩
  rw [wr9_p]
  obtain ⟨h0, h4, h5, h6, h7, h8, h11, h16, h17, h18, h19, h20, h23, h28, h29, h30, h31, h32, h35, h40, h41, h42, h43, h44, h47, h50, h86, h88, h92, h93, _⟩ := rg_u hz
  obtain ⟨p1, p2⟩ := hp
  (repeat' (first | assumption | exact trivial | exact rfl | apply And.intro | (rintro y ⟨⟨⟨h0, h4, h5, h6, h7, h8, h11, h16, h17, h18, h19, h20, h23, h28, h29, h30, h31, h32, h35, h40, h41, h42, h43, h44, h47, h50, h86, h88, h92, h93, _⟩, _⟩, _, hq⟩; (try rw [hq])) | (rintro y ⟨⟨hr, _⟩, hq⟩) | intro _)) <;> ((try simp only [inB, f4096, f64, f2048, f16, f8, f32, f128, f256, f8192, a1, a3, a7, a15, a63, a2047, wi64, wu16, Bool.not_eq_true', Bool.not_eq_false', Bool.and_eq_true, Bool.or_eq_true, beq_iff_eq, bne_iff_ne, ne_eq, beq_eq_false_iff_ne, bne_eq_false_iff_eq, decide_eq_true_eq, decide_eq_false_iff_not] at *) <;> (repeat' split) <;> omega)
theorem wrE_p (E : World) (S : SW) (z : PX) (k : Int) (r : Int) (x : Int) :
    (hoW false [false, true] (uM mpB) S (.t []) (fun _ _ => True) z (fnTree (pe E) (orcS E) (tabL fns) 20000 Try.f8 [.c (.p 1 0), .c (.i false .i64 k), .c (.i false .i64 r), .c (.i false .u16 x)] (mkM z S (uM mpB) 0))) =
    (((mpB = mpB ∧ (50 : Nat) = (50 : Nat) ∧ (RG z) ∧ S = S) ∧ True) ∧ ∀ (y : PX), ((RG y) ∧ True) ∧ True ∧ True → (r == (0 : Int)) = false ∧ (!lookB (mapOf mpB.ty) r) = true ∧
      True ∧ (mpB = mpB ∧ (50 : Nat) = (50 : Nat) ∧ (RG y) ∧ S = S) ∧ True) := by kernel_rfl
theorem wrE_c (E : World) (S : SW) (k : Int) (r : Int) (x : Int) (z : PX) (hz : rgM z (uM mpB) 0) (hp : (fun _ => (r == 0) = false ∧ (!lookB (mapOf mpB.ty) r) = true) z) : HC (pe E) 8 [.c (.p 1 0), .c (.i false .i64 k), .c (.i false .i64 r), .c (.i false .u16 x)] (uM mpB) S (.t []) (fun _ _ => True) z := by
  refine HC.mkW false [false, true] (by rfl) (by rfl) (by rfl) (by rfl) (fnTree_sound (P := pe E) orcS_ok tab_ok tab_sz mixed 20000 Try.func8 (by decide) [.c (.p 1 0), .c (.i false .i64 k), .c (.i false .i64 r), .c (.i false .u16 x)] _) ⟨?_⟩
  rw [wrE_p]
  obtain ⟨h0, h4, h5, h6, h7, h8, h11, h16, h17, h18, h19, h20, h23, h28, h29, h30, h31, h32, h35, h40, h41, h42, h43, h44, h47, h50, h86, h88, h92, h93, _⟩ := rg_u hz
  obtain ⟨p1, p2⟩ := hp
  (repeat' (first | assumption | exact trivial | exact rfl | apply And.intro | (rintro y ⟨⟨⟨h0, h4, h5, h6, h7, h8, h11, h16, h17, h18, h19, h20, h23, h28, h29, h30, h31, h32, h35, h40, h41, h42, h43, h44, h47, h50, h86, h88, h92, h93, _⟩, _⟩, _, hq⟩; (try rw [hq])) | (rintro y ⟨⟨hr, _⟩, hq⟩) | intro _)) <;> ((try simp only [inB, f4096, f64, f2048, f16, f8, f32, f128, f256, f8192, a1, a3, a7, a15, a63, a2047, wi64, wu16, Bool.not_eq_true', Bool.not_eq_false', Bool.and_eq_true, Bool.or_eq_true, beq_iff_eq, bne_iff_ne, ne_eq, beq_eq_false_iff_ne, bne_eq_false_iff_eq, decide_eq_true_eq, decide_eq_false_iff_not] at *) <;> (repeat' split) <;> omega)
theorem bk_p (E : World) (S : SW) (z : PX) (k : Int) (r : Int) (x : Int) :
    (hoP false (uM mpB) S (.t []) (fun _ _ => True) z (fnTree (pe E) (orcS E) (tabL fns) 20000 Try.f9 [.c (.p 1 0), .c (.i false .i64 k), .c (.i false .i64 r), .c (.i false .u8 x)] (mkM z S (uM mpB) 0))) =
    (((mpB = mpB ∧ (50 : Nat) = (50 : Nat) ∧ (RG z) ∧ S = S) ∧ True) ∧ ∀ (y : PX), ((RG y) ∧ True) ∧ True ∧ True → (decide (r ≥ (0 : Int)) = true → (decide (r < (16 : Int)) =
      true → inB (IntKind.i64.wrap ((1 : Int) - y.n (100086 : Nat))) (2 : Nat) = true ∧ inB r (16 : Nat) = true ∧ True ∧ (mpB = mpB ∧ (50 : Nat) = (50 : Nat) ∧ (RG y) ∧ S = S) ∧
      True) ∧ (decide (r < (16 : Int)) = false → True ∧ (mpB = mpB ∧ (50 : Nat) = (50 : Nat) ∧ (RG y) ∧ S = S) ∧ True)) ∧ (decide (r ≥ (0 : Int)) = false → True ∧ (mpB = mpB ∧
      (50 : Nat) = (50 : Nat) ∧ (RG y) ∧ S = S) ∧ True)) := by kernel_rfl
theorem bk_c (E : World) (S : SW) (k : Int) (r : Int) (x : Int) (z : PX) (hz : rgM z (uM mpB) 0) (hp : (fun _ => True) z) : HC (pe E) 9 [.c (.p 1 0), .c (.i false .i64 k), .c (.i false .i64 r), .c (.i false .u8 x)] (uM mpB) S (.t []) (fun _ _ => True) z := by
  refine HC.mk false (by rfl) (by rfl) (by rfl) (by rfl) (fnTree_sound (P := pe E) orcS_ok tab_ok tab_sz mixed 20000 Try.func9 (by decide) [.c (.p 1 0), .c (.i false .i64 k), .c (.i false .i64 r), .c (.i false .u8 x)] _) ⟨?_⟩
  rw [bk_p]
  obtain ⟨h0, h4, h5, h6, h7, h8, h11, h16, h17, h18, h19, h20, h23, h28, h29, h30, h31, h32, h35, h40, h41, h42, h43, h44, h47, h50, h86, h88, h92, h93, _⟩ := rg_u hz
  (repeat' (first | assumption | exact trivial | exact rfl | apply And.intro | (rintro y ⟨⟨⟨h0, h4, h5, h6, h7, h8, h11, h16, h17, h18, h19, h20, h23, h28, h29, h30, h31, h32, h35, h40, h41, h42, h43, h44, h47, h50, h86, h88, h92, h93, _⟩, _⟩, _, hq⟩; (try rw [hq])) | (rintro y ⟨⟨hr, _⟩, hq⟩) | intro _)) <;> ((try simp only [inB, f4096, f64, f2048, f16, f8, f32, f128, f256, f8192, a1, a3, a7, a15, a63, a2047, wi64, wu16, Bool.not_eq_true', Bool.not_eq_false', Bool.and_eq_true, Bool.or_eq_true, beq_iff_eq, bne_iff_ne, ne_eq, beq_eq_false_iff_ne, bne_eq_false_iff_eq, decide_eq_true_eq, decide_eq_false_iff_not] at *) <;> (repeat' split) <;> omega)
theorem mp_eq : mapOf mpB.ty = [(1, 0), (2, 0), (3, 1), (4, 1), (5, 2), (6, 2), (9, 2), (7, 3), (8, 3)] := by decide +kernel
theorem wr_c (E : World) (S : SW) (k : Int) (r : Int) (x : Int) (z : PX) (hz : rgM z (uM mpB) 0) (hp : 0 ≤ x ∧ x ≤ 65535) : HC (pe E) 8 [.c (.p 1 0), .c (.i false .i64 k), .c (.i false .i64 r), .c (.i false .u16 x)] (uM mpB) S (.t []) (fun _ _ => True) z := by
  by_cases h0 : r = 0
  · subst h0; exact HC.args (by simp [simL, SV.sim, C.sim]) (wr0_c E S k x z hz hp)
  by_cases h1 : r = 1
  · subst h1; exact HC.args (by simp [simL, SV.sim, C.sim]) (wr1_c E S k x z hz hp)
  by_cases h2 : r = 2
  · subst h2; exact HC.args (by simp [simL, SV.sim, C.sim]) (wr2_c E S k x z hz hp)
  by_cases h3 : r = 3
  · subst h3; exact HC.args (by simp [simL, SV.sim, C.sim]) (wr3_c E S k x z hz hp)
  by_cases h4 : r = 4
  · subst h4; exact HC.args (by simp [simL, SV.sim, C.sim]) (wr4_c E S k x z hz hp)
  by_cases h5 : r = 5
  · subst h5; exact HC.args (by simp [simL, SV.sim, C.sim]) (wr5_c E S k x z hz hp)
  by_cases h6 : r = 6
  · subst h6; exact HC.args (by simp [simL, SV.sim, C.sim]) (wr6_c E S k x z hz hp)
  by_cases h7 : r = 7
  · subst h7; exact HC.args (by simp [simL, SV.sim, C.sim]) (wr7_c E S k x z hz hp)
  by_cases h8 : r = 8
  · subst h8; exact HC.args (by simp [simL, SV.sim, C.sim]) (wr8_c E S k x z hz hp)
  by_cases h9 : r = 9
  · subst h9; exact HC.args (by simp [simL, SV.sim, C.sim]) (wr9_c E S k x z hz hp)
  refine wrE_c E S k r x z hz ⟨by simp [h0], ?_⟩
  rw [mp_eq]
  simp only [lookB]
  simp
  omega
noncomputable def orcW (E : World) : Orc := fun g vs s => match g, vs, s with
  | 9, [.c (.p 1 0), .c (.i _ .i64 k), .c (.i _ .i64 r), .c (.i _ .u8 x)], M :: B :: S => some (hoT (pre := fun _ => True) (fun z => bk_c E S k r x z) (by rfl) (M :: B :: S))
  | 8, [.c (.p 1 0), .c (.i _ .i64 k), .c (.i _ .i64 r), .c (.i _ .u16 x)], M :: B :: S => some (hoT (pre := fun _ => 0 ≤ x ∧ x ≤ 65535) (fun z => wr_c E S k r x z) (by rfl) (M :: B :: S))
  | g, vs, s => (orcS E) g vs s
theorem orcW_ok {E : World} : OrcOK (pe E) (orcW E) := by
  intro g vs s t h
  unfold orcW at h
  split at h
  · cases h; refine CallTree.args ?_ (hoT_ok _ _ _ (by first | rfl | (simp only [List.length_cons, List.length_nil, uM]; omega))); simp [simL, SV.sim, C.sim]
  · cases h; refine CallTree.args ?_ (hoT_ok _ _ _ (by first | rfl | (simp only [List.length_cons, List.length_nil, uM]; omega))); simp [simL, SV.sim, C.sim]
  · exact orcS_ok _ _ _ _ h
end Go.Proofs.Ytcegofobcjimlaa

