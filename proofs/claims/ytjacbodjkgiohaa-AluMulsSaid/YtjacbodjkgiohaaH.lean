import Derived.Test.YtjacbodjkgiohaaG
set_option linter.unusedVariables false
set_option linter.unusedSimpArgs false
namespace Go.Proofs.Ytjacbodjkgiohaa
open Go Go.Proofs Go.Proofs.Ytjacbodjkgiohaa.Ev
set_option maxRecDepth 100000 in
theorem mul_c (l1 l2 l3 l4 l5 l6 l7 : Bool) (a : Int) (b : Int) (c : Int) (n : Bool) (z : Bool) (fc : Bool) (v : Bool) (s : SW) (ha : (u32 a) = true) (hb : (u32 b) = true) (hc : (u32 c) = true) : CallTree Try.prog 16 [.c (.i l1 .u32 a), .c (.i l2 .u32 b), .c (.i l3 .u32 c), .a [.b l4 n, .b l5 z, .b l6 fc, .b l7 v]] s (.leaf (mulS a b c fc v, s)) := by
  refine CallTree.args (vs' := [.c (.i false .u32 a), .c (.i false .u32 b), .c (.i false .u32 c), .a [.b false n, .b false z, .b false fc, .b false v]]) ⟨⟨rfl, rfl⟩, ⟨rfl, rfl⟩, ⟨rfl, rfl⟩, ⟨rfl, rfl, rfl, rfl⟩⟩ ?_
  exact pure_contract (fnTree_sound orc1_ok tab_ok tab_sz mixed 1000 Try.func16 (by decide) [.c (.i false .u32 a), .c (.i false .u32 b), .c (.i false .u32 c), .a [.b false n, .b false z, .b false fc, .b false v]] []) (by simp [SV.ok, C.ok, okL]) (v := mulS a b c fc v) rfl (conP_OK _ (mul_ok a b c n z fc v ha hb hc)) s
set_option maxRecDepth 100000 in
theorem rmul_c (l1 l2 l3 l4 l5 l6 l7 : Bool) (a : Int) (b : Int) (c : Int) (n : Bool) (z : Bool) (fc : Bool) (v : Bool) (s : SW) (ha : (u32 a) = true) (hb : (u32 b) = true) (hc : (u32 c) = true) : CallTree Try.prog 17 [.c (.i l1 .u32 a), .c (.i l2 .u32 b), .c (.i l3 .u32 c), .a [.b l4 n, .b l5 z, .b l6 fc, .b l7 v]] s (.leaf (mulS a b c fc v, s)) := by
  refine CallTree.args (vs' := [.c (.i false .u32 a), .c (.i false .u32 b), .c (.i false .u32 c), .a [.b false n, .b false z, .b false fc, .b false v]]) ⟨⟨rfl, rfl⟩, ⟨rfl, rfl⟩, ⟨rfl, rfl⟩, ⟨rfl, rfl, rfl, rfl⟩⟩ ?_
  exact pure_contract (fnTree_sound orc1_ok tab_ok tab_sz mixed 1000 Try.func17 (by decide) [.c (.i false .u32 a), .c (.i false .u32 b), .c (.i false .u32 c), .a [.b false n, .b false z, .b false fc, .b false v]] []) (by simp [SV.ok, C.ok, okL]) (v := mulS a b c fc v) rfl (conP_OK _ (rmul_ok a b c n z fc v ha hb hc)) s
set_option maxRecDepth 100000 in
theorem long_c (l1 l2 l3 l4 l5 l6 l7 l8 : Bool) (a : Int) (b : Int) (s0 : Bool) (c : Int) (n : Bool) (z : Bool) (fc : Bool) (v : Bool) (s : SW) (ha : (u32 a) = true) (hb : (u32 b) = true) : CallTree Try.prog 18 [.c (.i l1 .u32 a), .c (.i l2 .u32 b), .c (.b l3 s0), .c (.i l4 .u64 c), .a [.b l5 n, .b l6 z, .b l7 fc, .b l8 v]] s (.leaf (longS a b c s0 fc v, s)) := by
  refine CallTree.args (vs' := [.c (.i false .u32 a), .c (.i false .u32 b), .c (.b false s0), .c (.i false .u64 c), .a [.b false n, .b false z, .b false fc, .b false v]]) ⟨⟨rfl, rfl⟩, ⟨rfl, rfl⟩, rfl, ⟨rfl, rfl⟩, ⟨rfl, rfl, rfl, rfl⟩⟩ ?_
  exact pure_contract (fnTree_sound orc1_ok tab_ok tab_sz mixed 1000 Try.func18 (by decide) [.c (.i false .u32 a), .c (.i false .u32 b), .c (.b false s0), .c (.i false .u64 c), .a [.b false n, .b false z, .b false fc, .b false v]] []) (by simp [SV.ok, C.ok, okL]) (v := longS a b c s0 fc v) rfl (conP_OK _ (long_ok a b c s0 n z fc v ha hb)) s
set_option maxRecDepth 100000 in
theorem rlong_c (l1 l2 l3 l4 l5 l6 l7 l8 : Bool) (a : Int) (b : Int) (s0 : Bool) (c : Int) (n : Bool) (z : Bool) (fc : Bool) (v : Bool) (s : SW) (ha : (u32 a) = true) (hb : (u32 b) = true) : CallTree Try.prog 19 [.c (.i l1 .u32 a), .c (.i l2 .u32 b), .c (.b l3 s0), .c (.i l4 .u64 c), .a [.b l5 n, .b l6 z, .b l7 fc, .b l8 v]] s (.leaf (longS a b c s0 fc v, s)) := by
  refine CallTree.args (vs' := [.c (.i false .u32 a), .c (.i false .u32 b), .c (.b false s0), .c (.i false .u64 c), .a [.b false n, .b false z, .b false fc, .b false v]]) ⟨⟨rfl, rfl⟩, ⟨rfl, rfl⟩, rfl, ⟨rfl, rfl⟩, ⟨rfl, rfl, rfl, rfl⟩⟩ ?_
  exact pure_contract (fnTree_sound orc1_ok tab_ok tab_sz mixed 1000 Try.func19 (by decide) [.c (.i false .u32 a), .c (.i false .u32 b), .c (.b false s0), .c (.i false .u64 c), .a [.b false n, .b false z, .b false fc, .b false v]] []) (by simp [SV.ok, C.ok, okL]) (v := longS a b c s0 fc v) rfl (conP_OK _ (rlong_ok a b c s0 n z fc v ha hb)) s
set_option maxRecDepth 100000 in
theorem cyc_c (l1 l2 : Bool) (b : Int) (s0 : Bool) (s : SW) (hb : (u32 b) = true) : CallTree Try.prog 20 [.c (.i l1 .u32 b), .c (.b l2 s0)] s (.leaf (.c (.i false .i64 (cyN (cyV b s0))), s)) := by
  refine CallTree.args (vs' := [.c (.i false .u32 b), .c (.b false s0)]) ⟨⟨rfl, rfl⟩, rfl⟩ ?_
  exact pure_contract (fnTree_sound orc1_ok tab_ok tab_sz mixed 1000 Try.func20 (by decide) [.c (.i false .u32 b), .c (.b false s0)] []) (by simp [SV.ok, C.ok, okL]) (v := .c (.i false .i64 (cyN (cyV b s0)))) rfl (conP_OK _ (cyc_ok b s0 hb)) s
set_option maxRecDepth 100000 in
theorem rcyc_c (l1 l2 : Bool) (b : Int) (s0 : Bool) (s : SW) (hb : (u32 b) = true) : CallTree Try.prog 21 [.c (.i l1 .u32 b), .c (.b l2 s0)] s (.leaf (.c (.i false .i64 (cyN (cyV b s0))), s)) := by
  refine CallTree.args (vs' := [.c (.i false .u32 b), .c (.b false s0)]) ⟨⟨rfl, rfl⟩, rfl⟩ ?_
  exact pure_contract (fnTree_sound orc1_ok tab_ok tab_sz mixed 60 Try.func21 (by decide) [.c (.i false .u32 b), .c (.b false s0)] []) (by simp [SV.ok, C.ok, okL]) (v := .c (.i false .i64 (cyN (cyV b s0)))) rfl (conP_OK _ (rcyc_ok b s0 hb)) s
def orc3 : Orc := fun g vs s => match g, vs with
  | 16, [.c (.i _ .u32 a), .c (.i _ .u32 b), .c (.i _ .u32 c), .a [.b _ n, .b _ z, .b _ fc, .b _ v]] => some (.need (u32 a) (.need (u32 b) (.need (u32 c) (.leaf (mulS a b c fc v, s)))))
  | 17, [.c (.i _ .u32 a), .c (.i _ .u32 b), .c (.i _ .u32 c), .a [.b _ n, .b _ z, .b _ fc, .b _ v]] => some (.need (u32 a) (.need (u32 b) (.need (u32 c) (.leaf (mulS a b c fc v, s)))))
  | 18, [.c (.i _ .u32 a), .c (.i _ .u32 b), .c (.b _ s0), .c (.i _ .u64 c), .a [.b _ n, .b _ z, .b _ fc, .b _ v]] => some (.need (u32 a) (.need (u32 b) (.leaf (longS a b c s0 fc v, s))))
  | 19, [.c (.i _ .u32 a), .c (.i _ .u32 b), .c (.b _ s0), .c (.i _ .u64 c), .a [.b _ n, .b _ z, .b _ fc, .b _ v]] => some (.need (u32 a) (.need (u32 b) (.leaf (longS a b c s0 fc v, s))))
  | 20, [.c (.i _ .u32 b), .c (.b _ s0)] => some (.need (u32 b) (.leaf (.c (.i false .i64 (cyN (cyV b s0))), s)))
  | 21, [.c (.i _ .u32 b), .c (.b _ s0)] => some (.need (u32 b) (.leaf (.c (.i false .i64 (cyN (cyV b s0))), s)))
  | g, vs => orc2 g vs s
theorem orc3_ok : OrcOK Try.prog orc3 := by
  intro g vs s t h
  unfold orc3 at h
  split at h
  · cases h
    exact CallTree.need fun ha => CallTree.need fun hb => CallTree.need fun hc => mul_c _ _ _ _ _ _ _ _ _ _ _ _ _ _ s ha hb hc
  · cases h
    exact CallTree.need fun ha => CallTree.need fun hb => CallTree.need fun hc => rmul_c _ _ _ _ _ _ _ _ _ _ _ _ _ _ s ha hb hc
  · cases h
    exact CallTree.need fun ha => CallTree.need fun hb => long_c _ _ _ _ _ _ _ _ _ _ _ _ _ _ _ _ s ha hb
  · cases h
    exact CallTree.need fun ha => CallTree.need fun hb => rlong_c _ _ _ _ _ _ _ _ _ _ _ _ _ _ _ _ s ha hb
  · cases h
    exact CallTree.need fun hb => cyc_c _ _ _ _ s hb
  · cases h
    exact CallTree.need fun hb => rcyc_c _ _ _ _ s hb
  · exact orc2_ok _ _ _ _ h
theorem muls_p (m a b : Int) (n z c v sh : Bool) (k : Int) :
    (lawP (fnTree Try.prog orc3 (tabL fns) 1000 Try.f5 [.a [.i false .i64 m, .i false .u32 a, .i false .u32 b, .b false n, .b false z, .b false c, .b false v, .b false sh], .c (.i false .u64 k)] [])) =
    (u32 a = true ∧
        u32 b = true ∧
          u32 (IntKind.u32.wrap k) = true ∧
            u32 a = true ∧
              u32 b = true ∧
                u32 (IntKind.u32.wrap k) = true ∧
                  u32 a = true ∧
                    u32 b = true ∧
                      u32 a = true ∧
                        u32 b = true ∧
                          (mX a b (IntKind.u32.wrap k) == mX a b (IntKind.u32.wrap k)) = true ∧
                            (false ^^
                                  decide ((2147483648 : Int) ≤ mX a b (IntKind.u32.wrap k)) ==
                                      decide ((2147483648 : Int) ≤ mX a b (IntKind.u32.wrap k)) &&
                                    (decide (mX a b (IntKind.u32.wrap k) = (0 : Int)) ==
                                        decide (mX a b (IntKind.u32.wrap k) = (0 : Int)) &&
                                      (c == c && (v == v && true)))) =
                                true ∧
                              (lX a b k sh == lX a b k sh) = true ∧
                                (false ^^
                                      decide ((9223372036854775808 : Int) ≤ lX a b k sh) ==
                                          decide ((9223372036854775808 : Int) ≤ lX a b k sh) &&
                                        (decide (lX a b k sh = (0 : Int)) == decide (lX a b k sh = (0 : Int)) &&
                                          (c == c && (v == v && true)))) =
                                    true ∧
                                  u32 b = true ∧ u32 b = true ∧ (cyN (cyV b sh) == cyN (cyV b sh)) = true) := by kernel_rfl
theorem signs_p (a b c : Int) :
    (lawP (fnTree Try.prog orc3 (tabL fns) 1000 Try.f8 [.c (.i false .u32 a), .c (.i false .u32 b), .c (.i false .u64 c)] [])) =
    (u32 a = true ∧
        u32 b = true ∧
          u32 a = true ∧
            u32 b = true ∧
              u32 a = true ∧
                u32 b = true ∧
                  u32 (0 : Int) = true ∧
                    u32 a = true ∧
                      u32 b = true ∧
                        (IntKind.i64.wrap (lX a b (0 : Int) true) ==
                              IntKind.i64.wrap
                                (IntKind.i64.wrap (IntKind.i32.wrap a) * IntKind.i64.wrap (IntKind.i32.wrap b))) =
                            true ∧
                          (lX a b (0 : Int) false == IntKind.u64.wrap (IntKind.u64.wrap a * IntKind.u64.wrap b)) = true ∧
                            (IntKind.u32.wrap (lX a b (0 : Int) true) == mX a b (0 : Int)) = true ∧
                              (IntKind.u32.wrap (lX a b (0 : Int) false) == mX a b (0 : Int)) = true ∧
                                (false ^^
                                      decide ((9223372036854775808 : Int) ≤ lX a b (0 : Int) true) ==
                                        decide (IntKind.i64.wrap (lX a b (0 : Int) true) < (0 : Int))) =
                                    true ∧
                                  (false ^^
                                        decide (lX a b (0 : Int) true = (0 : Int)) == (lX a b (0 : Int) true == (0 : Int))) =
                                      true ∧
                                    (lX a b c false == IntKind.u64.wrap (lX a b (0 : Int) false + c)) = true) := by kernel_rfl
end Go.Proofs.Ytjacbodjkgiohaa

