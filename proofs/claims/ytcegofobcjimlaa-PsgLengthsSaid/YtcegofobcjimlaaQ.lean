import Derived.Test.YtcegofobcjimlaaP
set_option linter.unusedVariables false
set_option linter.unusedSimpArgs false
namespace Go.Proofs.Ytcegofobcjimlaa
open Go Go.Proofs Go.Proofs.Ytcegofobcjimlaa.Ev Go.Proofs.Ytcegofobcjimlaa.Ev.Ho
set_option maxRecDepth 100000

def mpB : Bl := ⟨[], 741991204937588471353107210173517385893522847741378461052633880361214601735917472982278721692919759636892846595991201096475255940853038949688016010326287086087990634635853824⟩
def uC : List MB := [.f mpB, .o usp 50]
theorem b15 (x : Int) : bits .and .u8 x 15 = x % 16 := and_mask .u8 x 4 (.inl (by decide))
theorem n15 (x : Int) : 0 ≤ IntKind.i64.wrap (bits .and .u8 x 15) ∧ IntKind.i64.wrap (bits .and .u8 x 15) ≤ 15 := by rw [b15, wi64]; omega
theorem w34 (n : Int) (h0 : 0 ≤ n) (h1 : n ≤ 15) : 0 ≤ IntKind.i64.wrap ((IntKind.i64.wrap (n * 3)).tdiv 4) ∧ IntKind.i64.wrap ((IntKind.i64.wrap (n * 3)).tdiv 4) ≤ 15 := by
  have e : IntKind.i64.wrap (n * 3) = n * 3 := by rw [wi64]; omega
  have e2 : IntKind.i64.wrap (n * 3 / 4) = n * 3 / 4 := by rw [wi64]; omega
  rw [e, Int.tdiv_eq_ediv_of_nonneg (by omega), e2]; omega
theorem wsh (n : Int) (k : Nat) (h0 : 0 ≤ n) (h1 : n ≤ 15) : 0 ≤ n.fdiv (2 ^ k) ∧ n.fdiv (2 ^ k) ≤ 15 := by have := fdiv_bd n k h0; omega
theorem rg_c {z : PX} (h : rgM z uC 0) : ((0 ≤ z.n 100000 ∧ z.n 100000 ≤ 2199023255552) ∧ (0 ≤ z.n 100004 ∧ z.n 100004 ≤ 2047) ∧ (0 ≤ z.n 100005 ∧ z.n 100005 ≤ 63) ∧ (0 ≤ z.n 100006 ∧ z.n 100006 ≤ 16777216) ∧ (0 ≤ z.n 100007 ∧ z.n 100007 ≤ 3) ∧ (0 ≤ z.n 100008 ∧ z.n 100008 ≤ 15) ∧ (0 ≤ z.n 100011 ∧ z.n 100011 ≤ 15) ∧ (0 ≤ z.n 100016 ∧ z.n 100016 ≤ 2047) ∧ (0 ≤ z.n 100017 ∧ z.n 100017 ≤ 63) ∧ (0 ≤ z.n 100018 ∧ z.n 100018 ≤ 16777216) ∧ (0 ≤ z.n 100019 ∧ z.n 100019 ≤ 3) ∧ (0 ≤ z.n 100020 ∧ z.n 100020 ≤ 15) ∧ (0 ≤ z.n 100023 ∧ z.n 100023 ≤ 15) ∧ (0 ≤ z.n 100028 ∧ z.n 100028 ≤ 2047) ∧ (0 ≤ z.n 100029 ∧ z.n 100029 ≤ 63) ∧ (0 ≤ z.n 100030 ∧ z.n 100030 ≤ 16777216) ∧ (0 ≤ z.n 100031 ∧ z.n 100031 ≤ 3) ∧ (0 ≤ z.n 100032 ∧ z.n 100032 ≤ 15) ∧ (0 ≤ z.n 100035 ∧ z.n 100035 ≤ 15) ∧ (0 ≤ z.n 100040 ∧ z.n 100040 ≤ 2047) ∧ (0 ≤ z.n 100041 ∧ z.n 100041 ≤ 63) ∧ (0 ≤ z.n 100042 ∧ z.n 100042 ≤ 16777216) ∧ (0 ≤ z.n 100043 ∧ z.n 100043 ≤ 3) ∧ (0 ≤ z.n 100044 ∧ z.n 100044 ≤ 15) ∧ (0 ≤ z.n 100047 ∧ z.n 100047 ≤ 15) ∧ (0 ≤ z.n 100050 ∧ z.n 100050 ≤ 7) ∧ (0 ≤ z.n 100086 ∧ z.n 100086 ≤ 1) ∧ (0 ≤ z.n 100088 ∧ z.n 100088 ≤ 4) ∧ (0 ≤ z.n 100092 ∧ z.n 100092 ≤ 15) ∧ (0 ≤ z.n 100093 ∧ z.n 100093 ≤ 7) ∧ True) ∧ True := ⟨h.1, trivial⟩
theorem squ0_p (E : World) (R : Bl) (z : PX)  :
    (hoPr true uC [R] (.c (.r .i64 0 15)) (fun z y => y.n 90000 = 0) z (fnTree (pe E) (orcR E) (tabL fns) 20000 Try.f17 [.c (.p 1 0), .c (.i true .i64 0)] (mkM z [R] uC 0))) =
    ((bif !z.b (100001 : Nat) then true else inB (z.n (100007 : Nat)) (4 : Nat)) = true ∧ ((bif !z.b (100001 : Nat) then true else decide (z.n (100005 : Nat) ≥ selI [(1 : Int),
      (2 : Int), (4 : Int), (6 : Int)] (z.n (100007 : Nat)))) = true → (((0 : Int) ≤ (0 : Int) ∧ (0 : Int) ≤ (15 : Int)) ∧ True) ∧ mkM z [R] uC (0 : Nat) = mkM z [R] uC (0 :
      Nat) ∧ (0 : Int) = (0 : Int)) ∧ ((bif !z.b (100001 : Nat) then true else decide (z.n (100005 : Nat) ≥ selI [(1 : Int), (2 : Int), (4 : Int), (6 : Int)] (z.n (100007 :
      Nat)))) = false → (((0 : Int) ≤ z.n (100011 : Nat) ∧ z.n (100011 : Nat) ≤ (15 : Int)) ∧ True) ∧ mkM z [R] uC (0 : Nat) = mkM z [R] uC (0 : Nat) ∧ z.n (100011 : Nat) = (0 :
      Int))) := by kernel_rfl
theorem squ0_c (E : World) (R : Bl)  (z : PX) (hz : rgM z uC 0) (hp : (fun z => z.b 100001 = false) z) : HR (pe E) 17 [.c (.p 1 0), .c (.i true .i64 0)] uC [R] (.c (.r .i64 0 15)) (fun z y => y.n 90000 = 0) z := by
  refine HR.mk true (by rfl) (by rfl) (fnTree_sound (P := pe E) orcR_ok tab_ok tab_sz mixed 20000 Try.func17 (by decide) [.c (.p 1 0), .c (.i true .i64 0)] _) ⟨?_⟩
  rw [squ0_p]
  obtain ⟨⟨h0, h4, h5, h6, h7, h8, h11, h16, h17, h18, h19, h20, h23, h28, h29, h30, h31, h32, h35, h40, h41, h42, h43, h44, h47, h50, h86, h88, h92, h93, _⟩, _⟩ := rg_c hz
  have hb : z.b 100001 = false := hp
  simp only [hb, Bool.not_true, Bool.not_false, cond_true, cond_false, Bool.false_eq_true, Bool.true_eq_false, false_implies, true_implies, forall_const, and_true, true_and]
  (repeat' (first | assumption | exact trivial | exact rfl | apply And.intro)) <;> omega
theorem squ1_p (E : World) (R : Bl) (z : PX)  :
    (hoPr true uC [R] (.c (.r .i64 0 15)) (fun z y => y.n 90000 = 0) z (fnTree (pe E) (orcR E) (tabL fns) 20000 Try.f17 [.c (.p 1 0), .c (.i true .i64 1)] (mkM z [R] uC 0))) =
    ((bif !z.b (100013 : Nat) then true else inB (z.n (100019 : Nat)) (4 : Nat)) = true ∧ ((bif !z.b (100013 : Nat) then true else decide (z.n (100017 : Nat) ≥ selI [(1 : Int),
      (2 : Int), (4 : Int), (6 : Int)] (z.n (100019 : Nat)))) = true → (((0 : Int) ≤ (0 : Int) ∧ (0 : Int) ≤ (15 : Int)) ∧ True) ∧ mkM z [R] uC (0 : Nat) = mkM z [R] uC (0 :
      Nat) ∧ (0 : Int) = (0 : Int)) ∧ ((bif !z.b (100013 : Nat) then true else decide (z.n (100017 : Nat) ≥ selI [(1 : Int), (2 : Int), (4 : Int), (6 : Int)] (z.n (100019 :
      Nat)))) = false → (((0 : Int) ≤ z.n (100023 : Nat) ∧ z.n (100023 : Nat) ≤ (15 : Int)) ∧ True) ∧ mkM z [R] uC (0 : Nat) = mkM z [R] uC (0 : Nat) ∧ z.n (100023 : Nat) = (0 :
      Int))) := by kernel_rfl
theorem squ1_c (E : World) (R : Bl)  (z : PX) (hz : rgM z uC 0) (hp : (fun z => z.b 100013 = false) z) : HR (pe E) 17 [.c (.p 1 0), .c (.i true .i64 1)] uC [R] (.c (.r .i64 0 15)) (fun z y => y.n 90000 = 0) z := by
  refine HR.mk true (by rfl) (by rfl) (fnTree_sound (P := pe E) orcR_ok tab_ok tab_sz mixed 20000 Try.func17 (by decide) [.c (.p 1 0), .c (.i true .i64 1)] _) ⟨?_⟩
  rw [squ1_p]
  obtain ⟨⟨h0, h4, h5, h6, h7, h8, h11, h16, h17, h18, h19, h20, h23, h28, h29, h30, h31, h32, h35, h40, h41, h42, h43, h44, h47, h50, h86, h88, h92, h93, _⟩, _⟩ := rg_c hz
  have hb : z.b 100013 = false := hp
  simp only [hb, Bool.not_true, Bool.not_false, cond_true, cond_false, Bool.false_eq_true, Bool.true_eq_false, false_implies, true_implies, forall_const, and_true, true_and]
  (repeat' (first | assumption | exact trivial | exact rfl | apply And.intro)) <;> omega
theorem mem_p (E : World) (R : Bl) (z : PX)  :
    (hoPr true uC [R] (.c (.r .i64 0 15)) (fun z y => y.n 90000 = 0) z (fnTree (pe E) (orcR E) (tabL fns) 20000 Try.f18 [.c (.p 1 0)] (mkM z [R] uC 0))) =
    (((!z.b (100025 : Nat)) = true → (((0 : Int) ≤ (0 : Int) ∧ (0 : Int) ≤ (15 : Int)) ∧ True) ∧ mkM z [R] uC (0 : Nat) = mkM z [R] uC (0 : Nat) ∧ (0 : Int) = (0 : Int)) ∧
      ((!z.b (100025 : Nat)) = false → inB (bif bif z.b (100087 : Nat) then decide (z.n (100029 : Nat) ≥ (32 : Int)) else false then IntKind.i64.wrap ((1 : Int) - z.n (100086 :
      Nat)) else z.n (100086 : Nat)) (2 : Nat) = true ∧ inB (IntKind.i64.wrap (((z.n (100029 : Nat)).tmod (32 : Int)).tdiv (2 : Int))) (16 : Nat) = true ∧ ((z.n (100088 : Nat)
      == (0 : Int)) = true → (((0 : Int) ≤ (0 : Int) ∧ (0 : Int) ≤ (15 : Int)) ∧ True) ∧ mkM z [R] uC (0 : Nat) = mkM z [R] uC (0 : Nat) ∧ (0 : Int) = (0 : Int)) ∧ ((z.n (100088
      : Nat) == (0 : Int)) = false → ((z.n (100088 : Nat) == (4 : Int)) = true → (((0 : Int) ≤ IntKind.i64.wrap ((IntKind.i64.wrap (IntKind.i64.wrap (bits BinOp.and IntKind.u8
      (bif ((z.n (100029 : Nat)).tmod (32 : Int)).tmod (2 : Int) == (0 : Int) then (selI [z.n (100054 : Nat), z.n (100055 : Nat), z.n (100056 : Nat), z.n (100057 : Nat), z.n
      (100058 : Nat), z.n (100059 : Nat), z.n (100060 : Nat), z.n (100061 : Nat), z.n (100062 : Nat), z.n (100063 : Nat), z.n (100064 : Nat), z.n (100065 : Nat), z.n (100066 :
      Nat), z.n (100067 : Nat), z.n (100068 : Nat), z.n (100069 : Nat), z.n (100070 : Nat), z.n (100071 : Nat), z.n (100072 : Nat), z.n (100073 : Nat), z.n (100074 : Nat), z.n
      (100075 : Nat), z.n (100076 : Nat), z.n (100077 : Nat), z.n (100078 : Nat), z.n (100079 : Nat), z.n (100080 : Nat), z.n (100081 : Nat), z.n (100082 : Nat), z.n (100083 :
      Nat), z.n (100084 : Nat), z.n (100085 : Nat)] ((bif bif z.b (100087 : Nat) then decide (z.n (100029 : Nat) ≥ (32 : Int)) else false then IntKind.i64.wrap ((1 : Int) - z.n
      (100086 : Nat)) else z.n (100086 : Nat)) * (16 : Int) + IntKind.i64.wrap (((z.n (100029 : Nat)).tmod (32 : Int)).tdiv (2 : Int)))).fdiv (16 : Int) else selI [z.n (100054 :
      Nat), z.n (100055 : Nat), z.n (100056 : Nat), z.n (100057 : Nat), z.n (100058 : Nat), z.n (100059 : Nat), z.n (100060 : Nat), z.n (100061 : Nat), z.n (100062 : Nat), z.n
      (100063 : Nat), z.n (100064 : Nat), z.n (100065 : Nat), z.n (100066 : Nat), z.n (100067 : Nat), z.n (100068 : Nat), z.n (100069 : Nat), z.n (100070 : Nat), z.n (100071 :
      Nat), z.n (100072 : Nat), z.n (100073 : Nat), z.n (100074 : Nat), z.n (100075 : Nat), z.n (100076 : Nat), z.n (100077 : Nat), z.n (100078 : Nat), z.n (100079 : Nat), z.n
      (100080 : Nat), z.n (100081 : Nat), z.n (100082 : Nat), z.n (100083 : Nat), z.n (100084 : Nat), z.n (100085 : Nat)] ((bif bif z.b (100087 : Nat) then decide (z.n (100029 :
      Nat) ≥ (32 : Int)) else false then IntKind.i64.wrap ((1 : Int) - z.n (100086 : Nat)) else z.n (100086 : Nat)) * (16 : Int) + IntKind.i64.wrap (((z.n (100029 : Nat)).tmod
      (32 : Int)).tdiv (2 : Int)))) (15 : Int)) * (3 : Int))).tdiv (4 : Int)) ∧ IntKind.i64.wrap ((IntKind.i64.wrap (IntKind.i64.wrap (bits BinOp.and IntKind.u8 (bif ((z.n
      (100029 : Nat)).tmod (32 : Int)).tmod (2 : Int) == (0 : Int) then (selI [z.n (100054 : Nat), z.n (100055 : Nat), z.n (100056 : Nat), z.n (100057 : Nat), z.n (100058 :
      Nat), z.n (100059 : Nat), z.n (100060 : Nat), z.n (100061 : Nat), z.n (100062 : Nat), z.n (100063 : Nat), z.n (100064 : Nat), z.n (100065 : Nat), z.n (100066 : Nat), z.n
      (100067 : Nat), z.n (100068 : Nat), z.n (100069 : Nat), z.n (100070 : Nat), z.n (100071 : Nat), z.n (100072 : Nat), z.n (100073 : Nat), z.n (100074 : Nat), z.n (100075 :
      Nat), z.n (100076 : Nat), z.n (100077 : Nat), z.n (100078 : Nat), z.n (100079 : Nat), z.n (100080 : Nat), z.n (100081 : Nat), z.n (100082 : Nat), z.n (100083 : Nat), z.n
      (100084 : Nat), z.n (100085 : Nat)] ((bif bif z.b (100087 : Nat) then decide (z.n (100029 : Nat) ≥ (32 : Int)) else false then IntKind.i64.wrap ((1 : Int) - z.n (100086 :
      Nat)) else z.n (100086 : Nat)) * (16 : Int) + IntKind.i64.wrap (((z.n (100029 : Nat)).tmod (32 : Int)).tdiv (2 : Int)))).fdiv (16 : Int) else selI [z.n (100054 : Nat), z.n
      (100055 : Nat), z.n (100056 : Nat), z.n (100057 : Nat), z.n (100058 : Nat), z.n (100059 : Nat), z.n (100060 : Nat), z.n (100061 : Nat), z.n (100062 : Nat), z.n (100063 :
      Nat), z.n (100064 : Nat), z.n (100065 : Nat), z.n (100066 : Nat), z.n (100067 : Nat), z.n (100068 : Nat), z.n (100069 : Nat), z.n (100070 : Nat), z.n (100071 : Nat), z.n
      (100072 : Nat), z.n (100073 : Nat), z.n (100074 : Nat), z.n (100075 : Nat), z.n (100076 : Nat), z.n (100077 : Nat), z.n (100078 : Nat), z.n (100079 : Nat), z.n (100080 :
      Nat), z.n (100081 : Nat), z.n (100082 : Nat), z.n (100083 : Nat), z.n (100084 : Nat), z.n (100085 : Nat)] ((bif bif z.b (100087 : Nat) then decide (z.n (100029 : Nat) ≥
      (32 : Int)) else false then IntKind.i64.wrap ((1 : Int) - z.n (100086 : Nat)) else z.n (100086 : Nat)) * (16 : Int) + IntKind.i64.wrap (((z.n (100029 : Nat)).tmod (32 :
      Int)).tdiv (2 : Int)))) (15 : Int)) * (3 : Int))).tdiv (4 : Int)) ≤ (15 : Int)) ∧ True) ∧ mkM z [R] uC (0 : Nat) = mkM z [R] uC (0 : Nat) ∧ IntKind.i64.wrap
      ((IntKind.i64.wrap (IntKind.i64.wrap (bits BinOp.and IntKind.u8 (bif ((z.n (100029 : Nat)).tmod (32 : Int)).tmod (2 : Int) == (0 : Int) then (selI [z.n (100054 : Nat), z.n
      (100055 : Nat), z.n (100056 : Nat), z.n (100057 : Nat), z.n (100058 : Nat), z.n (100059 : Nat), z.n (100060 : Nat), z.n (100061 : Nat), z.n (100062 : Nat), z.n (100063 :
      Nat), z.n (100064 : Nat), z.n (100065 : Nat), z.n (100066 : Nat), z.n (100067 : Nat), z.n (100068 : Nat), z.n (100069 : Nat), z.n (100070 : Nat), z.n (100071 : Nat), z.n
      (100072 : Nat), z.n (100073 : Nat), z.n (100074 : Nat), z.n (100075 : Nat), z.n (100076 : Nat), z.n (100077 : Nat), z.n (100078 : Nat), z.n (100079 : Nat), z.n (100080 :
      Nat), z.n (100081 : Nat), z.n (100082 : Nat), z.n (100083 : Nat), z.n (100084 : Nat), z.n (100085 : Nat)] ((bif bif z.b (100087 : Nat) then decide (z.n (100029 : Nat) ≥
      (32 : Int)) else false then IntKind.i64.wrap ((1 : Int) - z.n (100086 : Nat)) else z.n (100086 : Nat)) * (16 : Int) + IntKind.i64.wrap (((z.n (100029 : Nat)).tmod (32 :
      Int)).tdiv (2 : Int)))).fdiv (16 : Int) else selI [z.n (100054 : Nat), z.n (100055 : Nat), z.n (100056 : Nat), z.n (100057 : Nat), z.n (100058 : Nat), z.n (100059 : Nat),
      z.n (100060 : Nat), z.n (100061 : Nat), z.n (100062 : Nat), z.n (100063 : Nat), z.n (100064 : Nat), z.n (100065 : Nat), z.n (100066 : Nat), z.n (100067 : Nat), z.n (100068
      : Nat), z.n (100069 : Nat), z.n (100070 : Nat), z.n (100071 : Nat), z.n (100072 : Nat), z.n (100073 : Nat), z.n (100074 : Nat), z.n (100075 : Nat), z.n (100076 : Nat), z.n
      (100077 : Nat), z.n (100078 : Nat), z.n (100079 : Nat), z.n (100080 : Nat), z.n (100081 : Nat), z.n (100082 : Nat), z.n (100083 : Nat), z.n (100084 : Nat), z.n (100085 :
      Nat)] ((bif bif z.b (100087 : Nat) then decide (z.n (100029 : Nat) ≥ (32 : Int)) else false then IntKind.i64.wrap ((1 : Int) - z.n (100086 : Nat)) else z.n (100086 : Nat))
      * (16 : Int) + IntKind.i64.wrap (((z.n (100029 : Nat)).tmod (32 : Int)).tdiv (2 : Int)))) (15 : Int)) * (3 : Int))).tdiv (4 : Int)) = (0 : Int)) ∧ ((z.n (100088 : Nat) ==
      (4 : Int)) = false → decide ((0 : Int) ≤ IntKind.i64.wrap (z.n (100088 : Nat) - (1 : Int))) = true ∧ (((0 : Int) ≤ (IntKind.i64.wrap (bits BinOp.and IntKind.u8 (bif ((z.n
      (100029 : Nat)).tmod (32 : Int)).tmod (2 : Int) == (0 : Int) then (selI [z.n (100054 : Nat), z.n (100055 : Nat), z.n (100056 : Nat), z.n (100057 : Nat), z.n (100058 :
      Nat), z.n (100059 : Nat), z.n (100060 : Nat), z.n (100061 : Nat), z.n (100062 : Nat), z.n (100063 : Nat), z.n (100064 : Nat), z.n (100065 : Nat), z.n (100066 : Nat), z.n
      (100067 : Nat), z.n (100068 : Nat), z.n (100069 : Nat), z.n (100070 : Nat), z.n (100071 : Nat), z.n (100072 : Nat), z.n (100073 : Nat), z.n (100074 : Nat), z.n (100075 :
      Nat), z.n (100076 : Nat), z.n (100077 : Nat), z.n (100078 : Nat), z.n (100079 : Nat), z.n (100080 : Nat), z.n (100081 : Nat), z.n (100082 : Nat), z.n (100083 : Nat), z.n
      (100084 : Nat), z.n (100085 : Nat)] ((bif bif z.b (100087 : Nat) then decide (z.n (100029 : Nat) ≥ (32 : Int)) else false then IntKind.i64.wrap ((1 : Int) - z.n (100086 :
      Nat)) else z.n (100086 : Nat)) * (16 : Int) + IntKind.i64.wrap (((z.n (100029 : Nat)).tmod (32 : Int)).tdiv (2 : Int)))).fdiv (16 : Int) else selI [z.n (100054 : Nat), z.n
      (100055 : Nat), z.n (100056 : Nat), z.n (100057 : Nat), z.n (100058 : Nat), z.n (100059 : Nat), z.n (100060 : Nat), z.n (100061 : Nat), z.n (100062 : Nat), z.n (100063 :
      Nat), z.n (100064 : Nat), z.n (100065 : Nat), z.n (100066 : Nat), z.n (100067 : Nat), z.n (100068 : Nat), z.n (100069 : Nat), z.n (100070 : Nat), z.n (100071 : Nat), z.n
      (100072 : Nat), z.n (100073 : Nat), z.n (100074 : Nat), z.n (100075 : Nat), z.n (100076 : Nat), z.n (100077 : Nat), z.n (100078 : Nat), z.n (100079 : Nat), z.n (100080 :
      Nat), z.n (100081 : Nat), z.n (100082 : Nat), z.n (100083 : Nat), z.n (100084 : Nat), z.n (100085 : Nat)] ((bif bif z.b (100087 : Nat) then decide (z.n (100029 : Nat) ≥
      (32 : Int)) else false then IntKind.i64.wrap ((1 : Int) - z.n (100086 : Nat)) else z.n (100086 : Nat)) * (16 : Int) + IntKind.i64.wrap (((z.n (100029 : Nat)).tmod (32 :
      Int)).tdiv (2 : Int)))) (15 : Int))).fdiv ((2 : Int) ^ min (IntKind.i64.wrap (z.n (100088 : Nat) - (1 : Int))).toNat (64 : Nat)) ∧ (IntKind.i64.wrap (bits BinOp.and
      IntKind.u8 (bif ((z.n (100029 : Nat)).tmod (32 : Int)).tmod (2 : Int) == (0 : Int) then (selI [z.n (100054 : Nat), z.n (100055 : Nat), z.n (100056 : Nat), z.n (100057 :
      Nat), z.n (100058 : Nat), z.n (100059 : Nat), z.n (100060 : Nat), z.n (100061 : Nat), z.n (100062 : Nat), z.n (100063 : Nat), z.n (100064 : Nat), z.n (100065 : Nat), z.n
      (100066 : Nat), z.n (100067 : Nat), z.n (100068 : Nat), z.n (100069 : Nat), z.n (100070 : Nat), z.n (100071 : Nat), z.n (100072 : Nat), z.n (100073 : Nat), z.n (100074 :
      Nat), z.n (100075 : Nat), z.n (100076 : Nat), z.n (100077 : Nat), z.n (100078 : Nat), z.n (100079 : Nat), z.n (100080 : Nat), z.n (100081 : Nat), z.n (100082 : Nat), z.n
      (100083 : Nat), z.n (100084 : Nat), z.n (100085 : Nat)] ((bif bif z.b (100087 : Nat) then decide (z.n (100029 : Nat) ≥ (32 : Int)) else false then IntKind.i64.wrap ((1 :
      Int) - z.n (100086 : Nat)) else z.n (100086 : Nat)) * (16 : Int) + IntKind.i64.wrap (((z.n (100029 : Nat)).tmod (32 : Int)).tdiv (2 : Int)))).fdiv (16 : Int) else selI
      [z.n (100054 : Nat), z.n (100055 : Nat), z.n (100056 : Nat), z.n (100057 : Nat), z.n (100058 : Nat), z.n (100059 : Nat), z.n (100060 : Nat), z.n (100061 : Nat), z.n
      (100062 : Nat), z.n (100063 : Nat), z.n (100064 : Nat), z.n (100065 : Nat), z.n (100066 : Nat), z.n (100067 : Nat), z.n (100068 : Nat), z.n (100069 : Nat), z.n (100070 :
      Nat), z.n (100071 : Nat), z.n (100072 : Nat), z.n (100073 : Nat), z.n (100074 : Nat), z.n (100075 : Nat), z.n (100076 : Nat), z.n (100077 : Nat), z.n (100078 : Nat), z.n
      (100079 : Nat), z.n (100080 : Nat), z.n (100081 : Nat), z.n (100082 : Nat), z.n (100083 : Nat), z.n (100084 : Nat), z.n (100085 : Nat)] ((bif bif z.b (100087 : Nat) then
      decide (z.n (100029 : Nat) ≥ (32 : Int)) else false then IntKind.i64.wrap ((1 : Int) - z.n (100086 : Nat)) else z.n (100086 : Nat)) * (16 : Int) + IntKind.i64.wrap (((z.n
      (100029 : Nat)).tmod (32 : Int)).tdiv (2 : Int)))) (15 : Int))).fdiv ((2 : Int) ^ min (IntKind.i64.wrap (z.n (100088 : Nat) - (1 : Int))).toNat (64 : Nat)) ≤ (15 : Int)) ∧
      True) ∧ mkM z [R] uC (0 : Nat) = mkM z [R] uC (0 : Nat) ∧ (IntKind.i64.wrap (bits BinOp.and IntKind.u8 (bif ((z.n (100029 : Nat)).tmod (32 : Int)).tmod (2 : Int) == (0 :
      Int) then (selI [z.n (100054 : Nat), z.n (100055 : Nat), z.n (100056 : Nat), z.n (100057 : Nat), z.n (100058 : Nat), z.n (100059 : Nat), z.n (100060 : Nat), z.n (100061 :
      Nat), z.n (100062 : Nat), z.n (100063 : Nat), z.n (100064 : Nat), z.n (100065 : Nat), z.n (100066 : Nat), z.n (100067 : Nat), z.n (100068 : Nat), z.n (100069 : Nat), z.n
      (100070 : Nat), z.n (100071 : Nat), z.n (100072 : Nat), z.n (100073 : Nat), z.n (100074 : Nat), z.n (100075 : Nat), z.n (100076 : Nat), z.n (100077 : Nat), z.n (100078 :
      Nat), z.n (100079 : Nat), z.n (100080 : Nat), z.n (100081 : Nat), z.n (100082 : Nat), z.n (100083 : Nat), z.n (100084 : Nat), z.n (100085 : Nat)] ((bif bif z.b (100087 :
      Nat) then decide (z.n (100029 : Nat) ≥ (32 : Int)) else false then IntKind.i64.wrap ((1 : Int) - z.n (100086 : Nat)) else z.n (100086 : Nat)) * (16 : Int) +
      IntKind.i64.wrap (((z.n (100029 : Nat)).tmod (32 : Int)).tdiv (2 : Int)))).fdiv (16 : Int) else selI [z.n (100054 : Nat), z.n (100055 : Nat), z.n (100056 : Nat), z.n
      (100057 : Nat), z.n (100058 : Nat), z.n (100059 : Nat), z.n (100060 : Nat), z.n (100061 : Nat), z.n (100062 : Nat), z.n (100063 : Nat), z.n (100064 : Nat), z.n (100065 :
      Nat), z.n (100066 : Nat), z.n (100067 : Nat), z.n (100068 : Nat), z.n (100069 : Nat), z.n (100070 : Nat), z.n (100071 : Nat), z.n (100072 : Nat), z.n (100073 : Nat), z.n
      (100074 : Nat), z.n (100075 : Nat), z.n (100076 : Nat), z.n (100077 : Nat), z.n (100078 : Nat), z.n (100079 : Nat), z.n (100080 : Nat), z.n (100081 : Nat), z.n (100082 :
      Nat), z.n (100083 : Nat), z.n (100084 : Nat), z.n (100085 : Nat)] ((bif bif z.b (100087 : Nat) then decide (z.n (100029 : Nat) ≥ (32 : Int)) else false then
      IntKind.i64.wrap ((1 : Int) - z.n (100086 : Nat)) else z.n (100086 : Nat)) * (16 : Int) + IntKind.i64.wrap (((z.n (100029 : Nat)).tmod (32 : Int)).tdiv (2 : Int)))) (15 :
      Int))).fdiv ((2 : Int) ^ min (IntKind.i64.wrap (z.n (100088 : Nat) - (1 : Int))).toNat (64 : Nat)) = (0 : Int))))) := by kernel_rfl
theorem mem_c (E : World) (R : Bl)  (z : PX) (hz : rgM z uC 0) (hp : (fun z => z.b 100025 = false) z) : HR (pe E) 18 [.c (.p 1 0)] uC [R] (.c (.r .i64 0 15)) (fun z y => y.n 90000 = 0) z := by
  refine HR.mk true (by rfl) (by rfl) (fnTree_sound (P := pe E) orcR_ok tab_ok tab_sz mixed 20000 Try.func18 (by decide) [.c (.p 1 0)] _) ⟨?_⟩
  rw [mem_p]
  obtain ⟨⟨h0, h4, h5, h6, h7, h8, h11, h16, h17, h18, h19, h20, h23, h28, h29, h30, h31, h32, h35, h40, h41, h42, h43, h44, h47, h50, h86, h88, h92, h93, _⟩, _⟩ := rg_c hz
  have hb : z.b 100025 = false := hp
  simp only [hb, Bool.not_true, Bool.not_false, cond_true, cond_false, Bool.false_eq_true, Bool.true_eq_false, false_implies, true_implies, forall_const, and_true, true_and]
  (repeat' (first | assumption | exact trivial | exact rfl | apply And.intro)) <;> omega
theorem his_p (E : World) (R : Bl) (z : PX)  :
    (hoPr true uC [R] (.c (.r .i64 0 15)) (fun z y => y.n 90000 = 0) z (fnTree (pe E) (orcR E) (tabL fns) 20000 Try.f19 [.c (.p 1 0)] (mkM z [R] uC 0))) =
    (((bif !z.b (100037 : Nat) then true else bits BinOp.and IntKind.u16 (z.n (100090 : Nat)) (1 : Int) != (0 : Int)) = true → (((0 : Int) ≤ (0 : Int) ∧ (0 : Int) ≤ (15 : Int))
      ∧ True) ∧ mkM z [R] uC (0 : Nat) = mkM z [R] uC (0 : Nat) ∧ (0 : Int) = (0 : Int)) ∧ ((bif !z.b (100037 : Nat) then true else bits BinOp.and IntKind.u16 (z.n (100090 :
      Nat)) (1 : Int) != (0 : Int)) = false → (((0 : Int) ≤ z.n (100047 : Nat) ∧ z.n (100047 : Nat) ≤ (15 : Int)) ∧ True) ∧ mkM z [R] uC (0 : Nat) = mkM z [R] uC (0 : Nat) ∧ z.n
      (100047 : Nat) = (0 : Int))) := by kernel_rfl
theorem his_c (E : World) (R : Bl)  (z : PX) (hz : rgM z uC 0) (hp : (fun z => z.b 100037 = false) z) : HR (pe E) 19 [.c (.p 1 0)] uC [R] (.c (.r .i64 0 15)) (fun z y => y.n 90000 = 0) z := by
  refine HR.mk true (by rfl) (by rfl) (fnTree_sound (P := pe E) orcR_ok tab_ok tab_sz mixed 20000 Try.func19 (by decide) [.c (.p 1 0)] _) ⟨?_⟩
  rw [his_p]
  obtain ⟨⟨h0, h4, h5, h6, h7, h8, h11, h16, h17, h18, h19, h20, h23, h28, h29, h30, h31, h32, h35, h40, h41, h42, h43, h44, h47, h50, h86, h88, h92, h93, _⟩, _⟩ := rg_c hz
  have hb : z.b 100037 = false := hp
  simp only [hb, Bool.not_true, Bool.not_false, cond_true, cond_false, Bool.false_eq_true, Bool.true_eq_false, false_implies, true_implies, forall_const, and_true, true_and]
  (repeat' (first | assumption | exact trivial | exact rfl | apply And.intro)) <;> omega
noncomputable def orcO (E : World) : Orc := fun g vs s => match g, vs, s with
  | 17, [.c (.p 1 0), .c (.i true .i64 0)], [M, B, R] => some (hoTr (pre := fun z => z.b 100001 = false) (fun z => squ0_c E R  z) (by rfl) ([M, B, R]))
  | 17, [.c (.p 1 0), .c (.i true .i64 1)], [M, B, R] => some (hoTr (pre := fun z => z.b 100013 = false) (fun z => squ1_c E R  z) (by rfl) ([M, B, R]))
  | 18, [.c (.p 1 0)], [M, B, R] => some (hoTr (pre := fun z => z.b 100025 = false) (fun z => mem_c E R  z) (by rfl) ([M, B, R]))
  | 19, [.c (.p 1 0)], [M, B, R] => some (hoTr (pre := fun z => z.b 100037 = false) (fun z => his_c E R  z) (by rfl) ([M, B, R]))
  | g, vs, s => (orcR E) g vs s
theorem orcO_ok {E : World} : OrcOK (pe E) (orcO E) := by
  intro g vs s t h
  unfold orcO at h
  split at h
  · cases h; refine CallTree.args ?_ (hoTr_ok _ _ _ (by first | rfl | (simp only [List.length_cons, List.length_nil, uC]; omega)) (by rfl)); simp [simL, SV.sim, C.sim]
  · cases h; refine CallTree.args ?_ (hoTr_ok _ _ _ (by first | rfl | (simp only [List.length_cons, List.length_nil, uC]; omega)) (by rfl)); simp [simL, SV.sim, C.sim]
  · cases h; refine CallTree.args ?_ (hoTr_ok _ _ _ (by first | rfl | (simp only [List.length_cons, List.length_nil, uC]; omega)) (by rfl)); simp [simL, SV.sim, C.sim]
  · cases h; refine CallTree.args ?_ (hoTr_ok _ _ _ (by first | rfl | (simp only [List.length_cons, List.length_nil, uC]; omega)) (by rfl)); simp [simL, SV.sim, C.sim]
  · exact orcR_ok _ _ _ _ h
theorem out_p (E : World)  (z : PX)  :
    (hoPr true uC [] (.a [.r .i64 0 15, .r .i64 0 15, .r .i64 0 15, .r .i64 0 15]) (fun z y => y.n 90000 = 0 ∧ y.n 90001 = 0 ∧ y.n 90002 = 0 ∧ y.n 90003 = 0) z (fnTree (pe E) (orcO E) (tabL fns) 20000 Try.f10 [.c (.p 1 0)] (mkM z [] uC 0))) =
    (((mpB = mpB ∧ (50 : Nat) = (50 : Nat) ∧ (RG z) ∧ [Bl.mk [C.i true IntKind.i64 (0 : Int), C.i true IntKind.i64 (0 : Int), C.i true IntKind.i64 (0 : Int), C.i true
      IntKind.i64 (0 : Int)] (31 : Nat)] = [Bl.mk [C.i true IntKind.i64 (0 : Int), C.i true IntKind.i64 (0 : Int), C.i true IntKind.i64 (0 : Int), C.i true IntKind.i64 (0 :
      Int)] (31 : Nat)]) ∧ z.b (100001 : Nat) = false) ∧ ∀ (y : PX), (((0 : Int) ≤ y.n (90000 : Nat) ∧ y.n (90000 : Nat) ≤ (15 : Int)) ∧ True) ∧ y.n (90000 : Nat) = (0 : Int) →
      ((mpB = mpB ∧ (50 : Nat) = (50 : Nat) ∧ (RG z) ∧ [Bl.mk [C.i true IntKind.i64 (0 : Int), C.i true IntKind.i64 (0 : Int), C.i true IntKind.i64 (0 : Int), C.i true
      IntKind.i64 (0 : Int)] (31 : Nat)] = [Bl.mk [C.i true IntKind.i64 (0 : Int), C.i true IntKind.i64 (0 : Int), C.i true IntKind.i64 (0 : Int), C.i true IntKind.i64 (0 :
      Int)] (31 : Nat)]) ∧ z.b (100013 : Nat) = false) ∧ ∀ (y_1 : PX), (((0 : Int) ≤ y_1.n (90000 : Nat) ∧ y_1.n (90000 : Nat) ≤ (15 : Int)) ∧ True) ∧ y_1.n (90000 : Nat) = (0 :
      Int) → ((mpB = mpB ∧ (50 : Nat) = (50 : Nat) ∧ (RG z) ∧ [Bl.mk [C.i true IntKind.i64 (0 : Int), C.i true IntKind.i64 (0 : Int), C.i true IntKind.i64 (0 : Int), C.i true
      IntKind.i64 (0 : Int)] (31 : Nat)] = [Bl.mk [C.i true IntKind.i64 (0 : Int), C.i true IntKind.i64 (0 : Int), C.i true IntKind.i64 (0 : Int), C.i true IntKind.i64 (0 :
      Int)] (31 : Nat)]) ∧ z.b (100025 : Nat) = false) ∧ ∀ (y_2 : PX), (((0 : Int) ≤ y_2.n (90000 : Nat) ∧ y_2.n (90000 : Nat) ≤ (15 : Int)) ∧ True) ∧ y_2.n (90000 : Nat) = (0 :
      Int) → ((mpB = mpB ∧ (50 : Nat) = (50 : Nat) ∧ (RG z) ∧ [Bl.mk [C.i true IntKind.i64 (0 : Int), C.i true IntKind.i64 (0 : Int), C.i true IntKind.i64 (0 : Int), C.i true
      IntKind.i64 (0 : Int)] (31 : Nat)] = [Bl.mk [C.i true IntKind.i64 (0 : Int), C.i true IntKind.i64 (0 : Int), C.i true IntKind.i64 (0 : Int), C.i true IntKind.i64 (0 :
      Int)] (31 : Nat)]) ∧ z.b (100037 : Nat) = false) ∧ ∀ (y_3 : PX), (((0 : Int) ≤ y_3.n (90000 : Nat) ∧ y_3.n (90000 : Nat) ≤ (15 : Int)) ∧ True) ∧ y_3.n (90000 : Nat) = (0 :
      Int) → (((0 : Int) ≤ y.n (90000 : Nat) ∧ y.n (90000 : Nat) ≤ (15 : Int)) ∧ ((0 : Int) ≤ y_1.n (90000 : Nat) ∧ y_1.n (90000 : Nat) ≤ (15 : Int)) ∧ ((0 : Int) ≤ y_2.n (90000
      : Nat) ∧ y_2.n (90000 : Nat) ≤ (15 : Int)) ∧ ((0 : Int) ≤ y_3.n (90000 : Nat) ∧ y_3.n (90000 : Nat) ≤ (15 : Int)) ∧ True) ∧ mkM z [] uC (0 : Nat) = mkM z [] uC (0 : Nat) ∧
      y.n (90000 : Nat) = (0 : Int) ∧ y_1.n (90000 : Nat) = (0 : Int) ∧ y_2.n (90000 : Nat) = (0 : Int) ∧ y_3.n (90000 : Nat) = (0 : Int)) := by kernel_rfl
theorem out_c (E : World)   (z : PX) (hz : rgM z uC 0) (hp : (fun z => z.b 100001 = false ∧ z.b 100013 = false ∧ z.b 100025 = false ∧ z.b 100037 = false) z) : HR (pe E) 10 [.c (.p 1 0)] uC [] (.a [.r .i64 0 15, .r .i64 0 15, .r .i64 0 15, .r .i64 0 15]) (fun z y => y.n 90000 = 0 ∧ y.n 90001 = 0 ∧ y.n 90002 = 0 ∧ y.n 90003 = 0) z := by
  refine HR.mk true (by rfl) (by rfl) (fnTree_sound (P := pe E) orcO_ok tab_ok tab_sz mixed 20000 Try.func10 (by decide) [.c (.p 1 0)] _) ⟨?_⟩
  rw [out_p]
  obtain ⟨⟨h0, h4, h5, h6, h7, h8, h11, h16, h17, h18, h19, h20, h23, h28, h29, h30, h31, h32, h35, h40, h41, h42, h43, h44, h47, h50, h86, h88, h92, h93, _⟩, _⟩ := rg_c hz
  obtain ⟨p0, p1, p2, p3⟩ := hp
  (repeat' (first | assumption | exact trivial | exact rfl | apply And.intro | (rintro y ⟨⟨hr, _⟩, hq⟩) | intro _)) <;> simp_all
noncomputable def orcP (E : World) : Orc := fun g vs s => match g, vs, s with
  | 10, [.c (.p 1 0)], [M, B] => some (hoTr (pre := fun z => z.b 100001 = false ∧ z.b 100013 = false ∧ z.b 100025 = false ∧ z.b 100037 = false) (fun z => out_c E   z) (by rfl) ([M, B]))
  | g, vs, s => (orcO E) g vs s
theorem orcP_ok {E : World} : OrcOK (pe E) (orcP E) := by
  intro g vs s t h
  unfold orcP at h
  split at h
  · cases h; refine CallTree.args ?_ (hoTr_ok _ _ _ (by first | rfl | (simp only [List.length_cons, List.length_nil, uC]; omega)) (by rfl)); simp [simL, SV.sim, C.sim]
  · exact orcO_ok _ _ _ _ h
end Go.Proofs.Ytcegofobcjimlaa

