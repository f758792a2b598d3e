import Derived.Test.YtabklphoccicmaaA
set_option linter.unusedVariables false
set_option linter.unusedSimpArgs false
namespace Go.Proofs.Ytabklphoccicmaa
open Go Go.Proofs Go.Proofs.Ytabklphoccicmaa.Ev
def stp (b a k : Int) : Int := IntKind.i32.wrap ((IntKind.i32.wrap (b * a)).fdiv 16384 + k)
def arcB (a : Int) : Int := stp (stp (stp (stp (stp (stp (stp 169 a 912) a 2332) a 4022) a 5802) a 8321) a 13905) a 41721
def arc (t : Int) : Int := (IntKind.i32.wrap (t * arcB (IntKind.i32.wrap (0 - (IntKind.i32.wrap (t * t)).fdiv 16384)))).fdiv 65536
def am (x : Int) : Int := if x < 0 then IntKind.i32.wrap (0 - x) else x
def rat (a b : Int) : Int := IntKind.i32.wrap (IntKind.i64.wrap ((IntKind.i64.wrap (IntKind.i64.wrap a * 16384)).tdiv (IntKind.i64.wrap b)))
def nz (b : Int) : Bool := !decide (IntKind.i64.wrap b = 0)
def u32b (x : Int) : Bool := decide (0 ≤ x) && decide (x < 4294967296)
def i32b (x : Int) : Bool := decide (-2147483648 ≤ x) && decide (x < 2147483648)
def low7 (n : Int) : Bool := decide (0 ≤ n) && decide (n < 128)
def snW (m : Int) : Int := IntKind.i64.wrap ((IntKind.i64.wrap (IntKind.i64.wrap (IntKind.i64.wrap ((4 : Int) * m) * IntKind.i64.wrap ((128 : Int) - m)) * IntKind.i64.wrap ((12698 : Int) + IntKind.i64.wrap ((IntKind.i64.wrap ((3686 : Int) * IntKind.i64.wrap (IntKind.i64.wrap ((4 : Int) * m) * IntKind.i64.wrap ((128 : Int) - m)))).tdiv (16384 : Int))))).tdiv (16384 : Int))
def sn (n : Int) : Int := if n % 256 < 128 then snW (n % 256) else IntKind.i64.wrap (0 - snW (n % 256 - 128))
theorem low7_iff (n : Int) : low7 n = true ↔ 0 ≤ n ∧ n < 128 := by simp [low7]
theorem u32b_iff (n : Int) : u32b n = true ↔ 0 ≤ n ∧ n < 4294967296 := by simp [u32b]
theorem and8 (n : Int) : bits .and .i64 n 255 = n % 256 := and_m8 .i64 n (by decide)
def dq (a b : Int) : Int := if b = 0 then (if a < 0 then -1 else 1) else IntKind.i32.wrap (a.tdiv b)
def dr (a b : Int) : Int := if b = 0 then a else a.tmod b
def dx (a b : Int) : Int := if b = 0 then 1 else am (IntKind.i32.wrap (a.tdiv b))
def at2 (x y : Int) : Int := if y = 0 then (if x < 0 then 32768 else 0) else if x = 0 then (if 0 < y then 16384 else 49152) else
  if am y ≤ am x then (if x < 0 then IntKind.u16.wrap (IntKind.i32.wrap (arc (rat y x) + 32768)) else IntKind.u16.wrap (arc (rat y x))) else
  if 0 < y then IntKind.u16.wrap (IntKind.i32.wrap (16384 - arc (rat x y))) else IntKind.u16.wrap (IntKind.i32.wrap (49152 - arc (rat x y)))
def orcStop (E : World) : Orc := fun g vs s => match g, vs with
  | 19, [.c (.i _ .i64 n)] => some (.need false (.leaf (.c (.i false .i64 0), s)))
  | g, vs => none
theorem orcStop_ok {E : World} : OrcOK (pe E) (orcStop E) := by
  intro g vs s t h
  unfold orcStop at h
  split at h
  · cases h
    exact CallTree.need fun h => by cases h
  · cases h
theorem at_p (E : World) (t : Int) :
    (conP (.c (.i false .i32 (arc t))) (fnTree (pe E) orcNone (tabL fns) 20000 Try.f15 [.c (.i false .i32 t)] [])) =
    (IntKind.i32 = IntKind.i32 ∧ (IntKind.i32.wrap (t * IntKind.i32.wrap ((IntKind.i32.wrap (IntKind.i32.wrap ((IntKind.i32.wrap (IntKind.i32.wrap ((IntKind.i32.wrap
      (IntKind.i32.wrap ((IntKind.i32.wrap (IntKind.i32.wrap ((IntKind.i32.wrap (IntKind.i32.wrap ((IntKind.i32.wrap (IntKind.i32.wrap ((IntKind.i32.wrap ((169 : Int) *
      IntKind.i32.wrap ((0 : Int) - (IntKind.i32.wrap (t * t)).fdiv (16384 : Int)))).fdiv (16384 : Int) + (912 : Int)) * IntKind.i32.wrap ((0 : Int) - (IntKind.i32.wrap (t *
      t)).fdiv (16384 : Int)))).fdiv (16384 : Int) + (2332 : Int)) * IntKind.i32.wrap ((0 : Int) - (IntKind.i32.wrap (t * t)).fdiv (16384 : Int)))).fdiv (16384 : Int) + (4022 :
      Int)) * IntKind.i32.wrap ((0 : Int) - (IntKind.i32.wrap (t * t)).fdiv (16384 : Int)))).fdiv (16384 : Int) + (5802 : Int)) * IntKind.i32.wrap ((0 : Int) - (IntKind.i32.wrap
      (t * t)).fdiv (16384 : Int)))).fdiv (16384 : Int) + (8321 : Int)) * IntKind.i32.wrap ((0 : Int) - (IntKind.i32.wrap (t * t)).fdiv (16384 : Int)))).fdiv (16384 : Int) +
      (13905 : Int)) * IntKind.i32.wrap ((0 : Int) - (IntKind.i32.wrap (t * t)).fdiv (16384 : Int)))).fdiv (16384 : Int) + (41721 : Int)))).fdiv (65536 : Int) = arc t) := by kernel_rfl
set_option maxRecDepth 100000 in
theorem at_c (E : World) (l1 : Bool) (t : Int) (s : SW) : CallTree (pe E) 15 [.c (.i l1 .i32 t)] s (.leaf (.c (.i false .i32 (arc t)), s)) := by
  refine CallTree.args (vs' := [.c (.i false .i32 t)]) ⟨rfl, rfl⟩ ?_
  exact pure_contractH (fnTree_sound (P := pe E) orcNone_ok tab_ok tab_sz mixed 20000 Try.func15 (by decide) [.c (.i false .i32 t)] []) (by simp [SV.ok, C.ok, okL]) (v := .c (.i false .i32 (arc t))) rfl ⟨by rw [at_p]; exact ⟨rfl, rfl⟩⟩ s
theorem rat_p (E : World) (t : Int) :
    (conP (.c (.i false .i32 (arc t))) (fnTree (pe E) orcNone (tabL fns) 20000 Try.f16 [.c (.i false .i32 t)] [])) =
    (IntKind.i32 = IntKind.i32 ∧ (IntKind.i32.wrap (t * IntKind.i32.wrap ((IntKind.i32.wrap (IntKind.i32.wrap ((IntKind.i32.wrap (IntKind.i32.wrap ((IntKind.i32.wrap
      (IntKind.i32.wrap ((IntKind.i32.wrap (IntKind.i32.wrap ((IntKind.i32.wrap (IntKind.i32.wrap ((IntKind.i32.wrap (IntKind.i32.wrap ((IntKind.i32.wrap ((169 : Int) *
      IntKind.i32.wrap ((0 : Int) - (IntKind.i32.wrap (t * t)).fdiv (16384 : Int)))).fdiv (16384 : Int) + (912 : Int)) * IntKind.i32.wrap ((0 : Int) - (IntKind.i32.wrap (t *
      t)).fdiv (16384 : Int)))).fdiv (16384 : Int) + (2332 : Int)) * IntKind.i32.wrap ((0 : Int) - (IntKind.i32.wrap (t * t)).fdiv (16384 : Int)))).fdiv (16384 : Int) + (4022 :
      Int)) * IntKind.i32.wrap ((0 : Int) - (IntKind.i32.wrap (t * t)).fdiv (16384 : Int)))).fdiv (16384 : Int) + (5802 : Int)) * IntKind.i32.wrap ((0 : Int) - (IntKind.i32.wrap
      (t * t)).fdiv (16384 : Int)))).fdiv (16384 : Int) + (8321 : Int)) * IntKind.i32.wrap ((0 : Int) - (IntKind.i32.wrap (t * t)).fdiv (16384 : Int)))).fdiv (16384 : Int) +
      (13905 : Int)) * IntKind.i32.wrap ((0 : Int) - (IntKind.i32.wrap (t * t)).fdiv (16384 : Int)))).fdiv (16384 : Int) + (41721 : Int)))).fdiv (65536 : Int) = arc t) := by kernel_rfl
set_option maxRecDepth 100000 in
theorem rat_c (E : World) (l1 : Bool) (t : Int) (s : SW) : CallTree (pe E) 16 [.c (.i l1 .i32 t)] s (.leaf (.c (.i false .i32 (arc t)), s)) := by
  refine CallTree.args (vs' := [.c (.i false .i32 t)]) ⟨rfl, rfl⟩ ?_
  exact pure_contractH (fnTree_sound (P := pe E) orcNone_ok tab_ok tab_sz mixed 20000 Try.func16 (by decide) [.c (.i false .i32 t)] []) (by simp [SV.ok, C.ok, okL]) (v := .c (.i false .i32 (arc t))) rfl ⟨by rw [rat_p]; exact ⟨rfl, rfl⟩⟩ s
theorem am_p (E : World) (x : Int) :
    (conP (.c (.i false .i32 (am x))) (fnTree (pe E) orcNone (tabL fns) 20000 Try.f33 [.c (.i false .i32 x)] [])) =
    ((decide (x < (0 : Int)) = true → IntKind.i32 = IntKind.i32 ∧ IntKind.i32.wrap ((0 : Int) - x) = am x) ∧ (decide (x < (0 : Int)) = false → IntKind.i32 = IntKind.i32 ∧ x =
      am x)) := by kernel_rfl
set_option maxRecDepth 100000 in
theorem am_c (E : World) (l1 : Bool) (x : Int) (s : SW) : CallTree (pe E) 33 [.c (.i l1 .i32 x)] s (.leaf (.c (.i false .i32 (am x)), s)) := by
  refine CallTree.args (vs' := [.c (.i false .i32 x)]) ⟨rfl, rfl⟩ ?_
  exact pure_contractH (fnTree_sound (P := pe E) orcNone_ok tab_ok tab_sz mixed 20000 Try.func33 (by decide) [.c (.i false .i32 x)] []) (by simp [SV.ok, C.ok, okL]) (v := .c (.i false .i32 (am x))) rfl ⟨by rw [am_p]; refine ⟨fun h => ⟨rfl, by rw [am, if_pos (by simpa using h)]⟩, fun h => ⟨rfl, by rw [am, if_neg (by simpa using h)]⟩⟩⟩ s
theorem ram_p (E : World) (x : Int) :
    (conP (.c (.i false .i32 (am x))) (fnTree (pe E) orcNone (tabL fns) 20000 Try.f35 [.c (.i false .i32 x)] [])) =
    ((decide (x < (0 : Int)) = true → IntKind.i32 = IntKind.i32 ∧ IntKind.i32.wrap ((0 : Int) - x) = am x) ∧ (decide (x < (0 : Int)) = false → IntKind.i32 = IntKind.i32 ∧ x =
      am x)) := by kernel_rfl
set_option maxRecDepth 100000 in
theorem ram_c (E : World) (l1 : Bool) (x : Int) (s : SW) : CallTree (pe E) 35 [.c (.i l1 .i32 x)] s (.leaf (.c (.i false .i32 (am x)), s)) := by
  refine CallTree.args (vs' := [.c (.i false .i32 x)]) ⟨rfl, rfl⟩ ?_
  exact pure_contractH (fnTree_sound (P := pe E) orcNone_ok tab_ok tab_sz mixed 20000 Try.func35 (by decide) [.c (.i false .i32 x)] []) (by simp [SV.ok, C.ok, okL]) (v := .c (.i false .i32 (am x))) rfl ⟨by rw [ram_p]; refine ⟨fun h => ⟨rfl, by rw [am, if_pos (by simpa using h)]⟩, fun h => ⟨rfl, by rw [am, if_neg (by simpa using h)]⟩⟩⟩ s
theorem ra_p (E : World) (a : Int) (b : Int) :
    (conP (.c (.i false .i32 (rat a b))) (fnTree (pe E) orcNone (tabL fns) 20000 Try.f34 [.c (.i false .i32 a), .c (.i false .i32 b)] [])) =
    ((!decide (IntKind.i64.wrap b = (0 : Int))) = true ∧ IntKind.i32 = IntKind.i32 ∧ IntKind.i32.wrap (IntKind.i64.wrap ((IntKind.i64.wrap (IntKind.i64.wrap a * (16384 :
      Int))).tdiv (IntKind.i64.wrap b))) = rat a b) := by kernel_rfl
set_option maxRecDepth 100000 in
theorem ra_c (E : World) (l1 l2 : Bool) (a : Int) (b : Int) (s : SW) (h : (nz b) = true) : CallTree (pe E) 34 [.c (.i l1 .i32 a), .c (.i l2 .i32 b)] s (.leaf (.c (.i false .i32 (rat a b)), s)) := by
  refine CallTree.args (vs' := [.c (.i false .i32 a), .c (.i false .i32 b)]) ⟨⟨rfl, rfl⟩, ⟨rfl, rfl⟩⟩ ?_
  exact pure_contractH (fnTree_sound (P := pe E) orcNone_ok tab_ok tab_sz mixed 20000 Try.func34 (by decide) [.c (.i false .i32 a), .c (.i false .i32 b)] []) (by simp [SV.ok, C.ok, okL]) (v := .c (.i false .i32 (rat a b))) rfl ⟨by rw [ra_p]; exact ⟨h, rfl, rfl⟩⟩ s
theorem rra_p (E : World) (a : Int) (b : Int) :
    (conP (.c (.i false .i32 (rat a b))) (fnTree (pe E) orcNone (tabL fns) 20000 Try.f36 [.c (.i false .i32 a), .c (.i false .i32 b)] [])) =
    ((!decide (IntKind.i64.wrap b = (0 : Int))) = true ∧ IntKind.i32 = IntKind.i32 ∧ IntKind.i32.wrap (IntKind.i64.wrap ((IntKind.i64.wrap (IntKind.i64.wrap a * (16384 :
      Int))).tdiv (IntKind.i64.wrap b))) = rat a b) := by kernel_rfl
set_option maxRecDepth 100000 in
theorem rra_c (E : World) (l1 l2 : Bool) (a : Int) (b : Int) (s : SW) (h : (nz b) = true) : CallTree (pe E) 36 [.c (.i l1 .i32 a), .c (.i l2 .i32 b)] s (.leaf (.c (.i false .i32 (rat a b)), s)) := by
  refine CallTree.args (vs' := [.c (.i false .i32 a), .c (.i false .i32 b)]) ⟨⟨rfl, rfl⟩, ⟨rfl, rfl⟩⟩ ?_
  exact pure_contractH (fnTree_sound (P := pe E) orcNone_ok tab_ok tab_sz mixed 20000 Try.func36 (by decide) [.c (.i false .i32 a), .c (.i false .i32 b)] []) (by simp [SV.ok, C.ok, okL]) (v := .c (.i false .i32 (rat a b))) rfl ⟨by rw [rra_p]; exact ⟨h, rfl, rfl⟩⟩ s
theorem sl_p (E : World) (n : Int) :
    (conP (.c (.i false .i64 (snW n))) (fnTree (pe E) (orcStop E) (tabL fns) 20000 Try.f19 [.c (.i false .i64 n)] [])) =
    ((decide (bits BinOp.and IntKind.i64 n (255 : Int) ≥ (128 : Int)) = true → false = true ∧ IntKind.i64 = IntKind.i64 ∧ (0 : Int) = snW n) ∧ (decide (bits BinOp.and
      IntKind.i64 n (255 : Int) ≥ (128 : Int)) = false → IntKind.i64 = IntKind.i64 ∧ IntKind.i64.wrap ((IntKind.i64.wrap (IntKind.i64.wrap (IntKind.i64.wrap ((4 : Int) * bits
      BinOp.and IntKind.i64 n (255 : Int)) * IntKind.i64.wrap ((128 : Int) - bits BinOp.and IntKind.i64 n (255 : Int))) * IntKind.i64.wrap ((12698 : Int) + IntKind.i64.wrap
      ((IntKind.i64.wrap ((3686 : Int) * IntKind.i64.wrap (IntKind.i64.wrap ((4 : Int) * bits BinOp.and IntKind.i64 n (255 : Int)) * IntKind.i64.wrap ((128 : Int) - bits
      BinOp.and IntKind.i64 n (255 : Int))))).tdiv (16384 : Int))))).tdiv (16384 : Int)) = snW n)) := by kernel_rfl
set_option maxRecDepth 100000 in
theorem sl_c (E : World) (l1 : Bool) (n : Int) (s : SW) (h : (low7 n) = true) : CallTree (pe E) 19 [.c (.i l1 .i64 n)] s (.leaf (.c (.i false .i64 (snW n)), s)) := by
  refine CallTree.args (vs' := [.c (.i false .i64 n)]) ⟨rfl, rfl⟩ ?_
  exact pure_contractH (fnTree_sound (P := pe E) orcStop_ok tab_ok tab_sz mixed 20000 Try.func19 (by decide) [.c (.i false .i64 n)] []) (by simp [SV.ok, C.ok, okL]) (v := .c (.i false .i64 (snW n))) rfl ⟨by rw [sl_p, and8, show n % 256 = n by rw [low7_iff] at h; omega]; refine ⟨fun h' => ?_, fun _ => ⟨rfl, rfl⟩⟩; rw [low7_iff] at h; simp only [decide_eq_true_eq] at h'; omega⟩ s
theorem rsn_p (E : World) (n : Int) :
    (conP (.c (.i false .i64 (sn n))) (fnTree (pe E) orcNone (tabL fns) 20000 Try.f20 [.c (.i false .i64 n)] [])) =
    ((decide (bits BinOp.and IntKind.i64 n (255 : Int) > (127 : Int)) = true → IntKind.i64 = IntKind.i64 ∧ IntKind.i64.wrap ((-1 : Int) * IntKind.i64.wrap ((IntKind.i64.wrap
      (IntKind.i64.wrap (IntKind.i64.wrap ((4 : Int) * IntKind.i64.wrap (bits BinOp.and IntKind.i64 n (255 : Int) - (128 : Int))) * IntKind.i64.wrap ((128 : Int) -
      IntKind.i64.wrap (bits BinOp.and IntKind.i64 n (255 : Int) - (128 : Int)))) * IntKind.i64.wrap ((12698 : Int) + IntKind.i64.wrap ((IntKind.i64.wrap ((3686 : Int) *
      IntKind.i64.wrap (IntKind.i64.wrap ((4 : Int) * IntKind.i64.wrap (bits BinOp.and IntKind.i64 n (255 : Int) - (128 : Int))) * IntKind.i64.wrap ((128 : Int) -
      IntKind.i64.wrap (bits BinOp.and IntKind.i64 n (255 : Int) - (128 : Int)))))).tdiv (16384 : Int))))).tdiv (16384 : Int))) = sn n) ∧ (decide (bits BinOp.and IntKind.i64 n
      (255 : Int) > (127 : Int)) = false → IntKind.i64 = IntKind.i64 ∧ IntKind.i64.wrap ((1 : Int) * IntKind.i64.wrap ((IntKind.i64.wrap (IntKind.i64.wrap (IntKind.i64.wrap ((4
      : Int) * bits BinOp.and IntKind.i64 n (255 : Int)) * IntKind.i64.wrap ((128 : Int) - bits BinOp.and IntKind.i64 n (255 : Int))) * IntKind.i64.wrap ((12698 : Int) +
      IntKind.i64.wrap ((IntKind.i64.wrap ((3686 : Int) * IntKind.i64.wrap (IntKind.i64.wrap ((4 : Int) * bits BinOp.and IntKind.i64 n (255 : Int)) * IntKind.i64.wrap ((128 :
      Int) - bits BinOp.and IntKind.i64 n (255 : Int))))).tdiv (16384 : Int))))).tdiv (16384 : Int))) = sn n)) := by kernel_rfl
theorem wi64_idem (x : Int) : IntKind.i64.wrap (IntKind.i64.wrap x) = IntKind.i64.wrap x := by rw [wi64, wi64]; omega
theorem snW_fold (m : Int) : IntKind.i64.wrap ((IntKind.i64.wrap (IntKind.i64.wrap (IntKind.i64.wrap ((4 : Int) * m) * IntKind.i64.wrap ((128 : Int) - m)) * IntKind.i64.wrap ((12698 : Int) + IntKind.i64.wrap ((IntKind.i64.wrap ((3686 : Int) * IntKind.i64.wrap (IntKind.i64.wrap ((4 : Int) * m) * IntKind.i64.wrap ((128 : Int) - m)))).tdiv (16384 : Int))))).tdiv (16384 : Int)) = snW m := rfl
theorem rsn_h (E : World) (n : Int) : conP (.c (.i false .i64 (sn n))) (fnTree (pe E) orcNone (tabL fns) 20000 Try.f20 [.c (.i false .i64 n)] []) := by
  rw [rsn_p, and8]
  refine ⟨fun h => ⟨rfl, ?_⟩, fun h => ⟨rfl, ?_⟩⟩
  · rw [decide_eq_true_eq] at h
    rw [sn, if_neg (by omega), wi64_in (n % 256 - 128) (by omega) (by omega), snW_fold]
    congr 1; omega
  · rw [decide_eq_false_iff_not] at h
    rw [sn, if_pos (by omega), snW_fold, Int.one_mul]
    exact wi64_idem _
set_option maxRecDepth 100000 in
theorem rsn_c (E : World) (l1 : Bool) (n : Int) (s : SW) : CallTree (pe E) 20 [.c (.i l1 .i64 n)] s (.leaf (.c (.i false .i64 (sn n)), s)) := by
  refine CallTree.args (vs' := [.c (.i false .i64 n)]) ⟨rfl, rfl⟩ ?_
  exact pure_contractH (fnTree_sound (P := pe E) orcNone_ok tab_ok tab_sz mixed 20000 Try.func20 (by decide) [.c (.i false .i64 n)] []) (by simp [SV.ok, C.ok, okL]) (v := .c (.i false .i64 (sn n))) rfl ⟨rsn_h E n⟩ s
def orcB (E : World) : Orc := fun g vs s => match g, vs with
  | 15, [.c (.i _ .i32 t)] => some (.leaf (.c (.i false .i32 (arc t)), s))
  | 16, [.c (.i _ .i32 t)] => some (.leaf (.c (.i false .i32 (arc t)), s))
  | 33, [.c (.i _ .i32 x)] => some (.leaf (.c (.i false .i32 (am x)), s))
  | 35, [.c (.i _ .i32 x)] => some (.leaf (.c (.i false .i32 (am x)), s))
  | 34, [.c (.i _ .i32 a), .c (.i _ .i32 b)] => some (.need (nz b) (.leaf (.c (.i false .i32 (rat a b)), s)))
  | 36, [.c (.i _ .i32 a), .c (.i _ .i32 b)] => some (.need (nz b) (.leaf (.c (.i false .i32 (rat a b)), s)))
  | 19, [.c (.i _ .i64 n)] => some (.need (low7 n) (.leaf (.c (.i false .i64 (snW n)), s)))
  | 20, [.c (.i _ .i64 n)] => some (.leaf (.c (.i false .i64 (sn n)), s))
  | g, vs => (orcA E) g vs s
theorem orcB_ok {E : World} : OrcOK (pe E) (orcB E) := by
  intro g vs s t h
  unfold orcB at h
  split at h
  · cases h
    exact at_c E _ _ s
  · cases h
    exact rat_c E _ _ s
  · cases h
    exact am_c E _ _ s
  · cases h
    exact ram_c E _ _ s
  · cases h
    exact CallTree.need fun h => ra_c E _ _ _ _ s h
  · cases h
    exact CallTree.need fun h => rra_c E _ _ _ _ s h
  · cases h
    exact CallTree.need fun h => sl_c E _ _ s h
  · cases h
    exact rsn_c E _ _ s
  · exact orcA_ok _ _ _ _ h
theorem sine_p (E : World) (n : Int) :
    (conP (.c (.i false .i64 (sn n))) (fnTree (pe E) (orcB E) (tabL fns) 20000 Try.f19 [.c (.i false .i64 n)] [])) =
    ((decide (bits BinOp.and IntKind.i64 n (255 : Int) ≥ (128 : Int)) = true → low7 (IntKind.i64.wrap (bits BinOp.and IntKind.i64 n (255 : Int) - (128 : Int))) = true ∧
      IntKind.i64 = IntKind.i64 ∧ IntKind.i64.wrap ((0 : Int) - snW (IntKind.i64.wrap (bits BinOp.and IntKind.i64 n (255 : Int) - (128 : Int)))) = sn n) ∧ (decide (bits
      BinOp.and IntKind.i64 n (255 : Int) ≥ (128 : Int)) = false → IntKind.i64 = IntKind.i64 ∧ IntKind.i64.wrap ((IntKind.i64.wrap (IntKind.i64.wrap (IntKind.i64.wrap ((4 : Int)
      * bits BinOp.and IntKind.i64 n (255 : Int)) * IntKind.i64.wrap ((128 : Int) - bits BinOp.and IntKind.i64 n (255 : Int))) * IntKind.i64.wrap ((12698 : Int) +
      IntKind.i64.wrap ((IntKind.i64.wrap ((3686 : Int) * IntKind.i64.wrap (IntKind.i64.wrap ((4 : Int) * bits BinOp.and IntKind.i64 n (255 : Int)) * IntKind.i64.wrap ((128 :
      Int) - bits BinOp.and IntKind.i64 n (255 : Int))))).tdiv (16384 : Int))))).tdiv (16384 : Int)) = sn n)) := by kernel_rfl
theorem div_p (E : World) (a : Int) (b : Int) :
    (conP (.t [.c (.i false .i32 (dq a b)), .c (.i false .i32 (dr a b)), .c (.i false .i32 (dx a b))]) (fnTree (pe E) (orcB E) (tabL fns) 20000 Try.f11 [.c (.i false .i32 a), .c (.i false .i32 b)] [])) =
    (((b == (0 : Int)) = true → (decide (a < (0 : Int)) = true → (IntKind.i32 = IntKind.i32 ∧ (-1 : Int) = dq a b) ∧ (IntKind.i32 = IntKind.i32 ∧ a = dr a b) ∧ IntKind.i32 =
      IntKind.i32 ∧ (1 : Int) = dx a b) ∧ (decide (a < (0 : Int)) = false → (IntKind.i32 = IntKind.i32 ∧ (1 : Int) = dq a b) ∧ (IntKind.i32 = IntKind.i32 ∧ a = dr a b) ∧
      IntKind.i32 = IntKind.i32 ∧ (1 : Int) = dx a b)) ∧ ((b == (0 : Int)) = false → (!decide (b = (0 : Int))) = true ∧ (!decide (b = (0 : Int))) = true ∧ (IntKind.i32 =
      IntKind.i32 ∧ IntKind.i32.wrap (a.tdiv b) = dq a b) ∧ (IntKind.i32 = IntKind.i32 ∧ a.tmod b = dr a b) ∧ IntKind.i32 = IntKind.i32 ∧ am (IntKind.i32.wrap (a.tdiv b)) = dx a
      b)) := by kernel_rfl
theorem rdiv_p (E : World) (a : Int) (b : Int) :
    (conP (.t [.c (.i false .i32 (dq a b)), .c (.i false .i32 (dr a b)), .c (.i false .i32 (dx a b))]) (fnTree (pe E) (orcB E) (tabL fns) 20000 Try.f12 [.c (.i false .i32 a), .c (.i false .i32 b)] [])) =
    (((b == (0 : Int)) = true → (decide (a < (0 : Int)) = true → (IntKind.i32 = IntKind.i32 ∧ (-1 : Int) = dq a b) ∧ (IntKind.i32 = IntKind.i32 ∧ a = dr a b) ∧ IntKind.i32 =
      IntKind.i32 ∧ (1 : Int) = dx a b) ∧ (decide (a < (0 : Int)) = false → (IntKind.i32 = IntKind.i32 ∧ (1 : Int) = dq a b) ∧ (IntKind.i32 = IntKind.i32 ∧ a = dr a b) ∧
      IntKind.i32 = IntKind.i32 ∧ (1 : Int) = dx a b)) ∧ ((b == (0 : Int)) = false → (!decide (IntKind.i64.wrap b = (0 : Int))) = true ∧ (!decide (IntKind.i64.wrap b = (0 :
      Int))) = true ∧ (IntKind.i32 = IntKind.i32 ∧ IntKind.i32.wrap (IntKind.i64.wrap ((IntKind.i64.wrap a).tdiv (IntKind.i64.wrap b))) = dq a b) ∧ (IntKind.i32 = IntKind.i32 ∧
      IntKind.i32.wrap (IntKind.i64.wrap (IntKind.i64.wrap a - IntKind.i64.wrap (IntKind.i64.wrap b * IntKind.i64.wrap ((IntKind.i64.wrap a).tdiv (IntKind.i64.wrap b))))) = dr a
      b) ∧ IntKind.i32 = IntKind.i32 ∧ (if IntKind.i32.wrap ((0 : Int) - IntKind.i32.wrap (IntKind.i64.wrap ((IntKind.i64.wrap a).tdiv (IntKind.i64.wrap b)))) > IntKind.i32.wrap
      (IntKind.i64.wrap ((IntKind.i64.wrap a).tdiv (IntKind.i64.wrap b))) then IntKind.i32.wrap ((0 : Int) - IntKind.i32.wrap (IntKind.i64.wrap ((IntKind.i64.wrap a).tdiv
      (IntKind.i64.wrap b)))) else IntKind.i32.wrap (IntKind.i64.wrap ((IntKind.i64.wrap a).tdiv (IntKind.i64.wrap b)))) = dx a b)) := by kernel_rfl
theorem a2_p (E : World) (x : Int) (y : Int) :
    (conP (.c (.i false .u16 (at2 x y))) (fnTree (pe E) (orcB E) (tabL fns) 20000 Try.f17 [.c (.i false .i32 x), .c (.i false .i32 y)] [])) =
    (((y == (0 : Int)) = true → (decide (x ≥ (0 : Int)) = true → IntKind.u16 = IntKind.u16 ∧ (0 : Int) = at2 x y) ∧ (decide (x ≥ (0 : Int)) = false → ((y == (0 : Int)) = true →
      IntKind.u16 = IntKind.u16 ∧ (32768 : Int) = at2 x y) ∧ ((y == (0 : Int)) = false → ((x == (0 : Int)) = true → (decide (y > (0 : Int)) = true → IntKind.u16 = IntKind.u16 ∧
      (16384 : Int) = at2 x y) ∧ (decide (y > (0 : Int)) = false → ((x == (0 : Int)) = true → IntKind.u16 = IntKind.u16 ∧ (49152 : Int) = at2 x y) ∧ ((x == (0 : Int)) = false →
      (decide (am x ≥ am y) = true → (decide (x > (0 : Int)) = true → nz x = true ∧ IntKind.u16 = IntKind.u16 ∧ IntKind.u16.wrap (arc (rat y x)) = at2 x y) ∧ (decide (x > (0 :
      Int)) = false → (decide (am x ≥ am y) = true → nz x = true ∧ IntKind.u16 = IntKind.u16 ∧ IntKind.u16.wrap (IntKind.i32.wrap (arc (rat y x) + (32768 : Int))) = at2 x y) ∧
      (decide (am x ≥ am y) = false → (decide (y > (0 : Int)) = true → nz y = true ∧ IntKind.u16 = IntKind.u16 ∧ IntKind.u16.wrap (IntKind.i32.wrap ((16384 : Int) - arc (rat x
      y))) = at2 x y) ∧ (decide (y > (0 : Int)) = false → nz y = true ∧ IntKind.u16 = IntKind.u16 ∧ IntKind.u16.wrap (IntKind.i32.wrap ((49152 : Int) - arc (rat x y))) = at2 x
      y)))) ∧ (decide (am x ≥ am y) = false → (decide (am x ≥ am y) = true → nz x = true ∧ IntKind.u16 = IntKind.u16 ∧ IntKind.u16.wrap (IntKind.i32.wrap (arc (rat y x) + (32768
      : Int))) = at2 x y) ∧ (decide (am x ≥ am y) = false → (decide (y > (0 : Int)) = true → nz y = true ∧ IntKind.u16 = IntKind.u16 ∧ IntKind.u16.wrap (IntKind.i32.wrap ((16384
      : Int) - arc (rat x y))) = at2 x y) ∧ (decide (y > (0 : Int)) = false → nz y = true ∧ IntKind.u16 = IntKind.u16 ∧ IntKind.u16.wrap (IntKind.i32.wrap ((49152 : Int) - arc
      (rat x y))) = at2 x y)))))) ∧ ((x == (0 : Int)) = false → ((x == (0 : Int)) = true → IntKind.u16 = IntKind.u16 ∧ (49152 : Int) = at2 x y) ∧ ((x == (0 : Int)) = false →
      (decide (am x ≥ am y) = true → (decide (x > (0 : Int)) = true → nz x = true ∧ IntKind.u16 = IntKind.u16 ∧ IntKind.u16.wrap (arc (rat y x)) = at2 x y) ∧ (decide (x > (0 :
      Int)) = false → (decide (am x ≥ am y) = true → nz x = true ∧ IntKind.u16 = IntKind.u16 ∧ IntKind.u16.wrap (IntKind.i32.wrap (arc (rat y x) + (32768 : Int))) = at2 x y) ∧
      (decide (am x ≥ am y) = false → (decide (y > (0 : Int)) = true → nz y = true ∧ IntKind.u16 = IntKind.u16 ∧ IntKind.u16.wrap (IntKind.i32.wrap ((16384 : Int) - arc (rat x
      y))) = at2 x y) ∧ (decide (y > (0 : Int)) = false → nz y = true ∧ IntKind.u16 = IntKind.u16 ∧ IntKind.u16.wrap (IntKind.i32.wrap ((49152 : Int) - arc (rat x y))) = at2 x
      y)))) ∧ (decide (am x ≥ am y) = false → (decide (am x ≥ am y) = true → nz x = true ∧ IntKind.u16 = IntKind.u16 ∧ IntKind.u16.wrap (IntKind.i32.wrap (arc (rat y x) + (32768
      : Int))) = at2 x y) ∧ (decide (am x ≥ am y) = false → (decide (y > (0 : Int)) = true → nz y = true ∧ IntKind.u16 = IntKind.u16 ∧ IntKind.u16.wrap (IntKind.i32.wrap ((16384
      : Int) - arc (rat x y))) = at2 x y) ∧ (decide (y > (0 : Int)) = false → nz y = true ∧ IntKind.u16 = IntKind.u16 ∧ IntKind.u16.wrap (IntKind.i32.wrap ((49152 : Int) - arc
      (rat x y))) = at2 x y)))))))) ∧ ((y == (0 : Int)) = false → ((y == (0 : Int)) = true → IntKind.u16 = IntKind.u16 ∧ (32768 : Int) = at2 x y) ∧ ((y == (0 : Int)) = false →
      ((x == (0 : Int)) = true → (decide (y > (0 : Int)) = true → IntKind.u16 = IntKind.u16 ∧ (16384 : Int) = at2 x y) ∧ (decide (y > (0 : Int)) = false → ((x == (0 : Int)) =
      true → IntKind.u16 = IntKind.u16 ∧ (49152 : Int) = at2 x y) ∧ ((x == (0 : Int)) = false → (decide (am x ≥ am y) = true → (decide (x > (0 : Int)) = true → nz x = true ∧
      IntKind.u16 = IntKind.u16 ∧ IntKind.u16.wrap (arc (rat y x)) = at2 x y) ∧ (decide (x > (0 : Int)) = false → (decide (am x ≥ am y) = true → nz x = true ∧ IntKind.u16 =
      IntKind.u16 ∧ IntKind.u16.wrap (IntKind.i32.wrap (arc (rat y x) + (32768 : Int))) = at2 x y) ∧ (decide (am x ≥ am y) = false → (decide (y > (0 : Int)) = true → nz y = true
      ∧ IntKind.u16 = IntKind.u16 ∧ IntKind.u16.wrap (IntKind.i32.wrap ((16384 : Int) - arc (rat x y))) = at2 x y) ∧ (decide (y > (0 : Int)) = false → nz y = true ∧ IntKind.u16
      = IntKind.u16 ∧ IntKind.u16.wrap (IntKind.i32.wrap ((49152 : Int) - arc (rat x y))) = at2 x y)))) ∧ (decide (am x ≥ am y) = false → (decide (am x ≥ am y) = true → nz x =
      true ∧ IntKind.u16 = IntKind.u16 ∧ IntKind.u16.wrap (IntKind.i32.wrap (arc (rat y x) + (32768 : Int))) = at2 x y) ∧ (decide (am x ≥ am y) = false → (decide (y > (0 : Int))
      = true → nz y = true ∧ IntKind.u16 = IntKind.u16 ∧ IntKind.u16.wrap (IntKind.i32.wrap ((16384 : Int) - arc (rat x y))) = at2 x y) ∧ (decide (y > (0 : Int)) = false → nz y
      = true ∧ IntKind.u16 = IntKind.u16 ∧ IntKind.u16.wrap (IntKind.i32.wrap ((49152 : Int) - arc (rat x y))) = at2 x y)))))) ∧ ((x == (0 : Int)) = false → ((x == (0 : Int)) =
      true → IntKind.u16 = IntKind.u16 ∧ (49152 : Int) = at2 x y) ∧ ((x == (0 : Int)) = false → (decide (am x ≥ am y) = true → (decide (x > (0 : Int)) = true → nz x = true ∧
      IntKind.u16 = IntKind.u16 ∧ IntKind.u16.wrap (arc (rat y x)) = at2 x y) ∧ (decide (x > (0 : Int)) = false → (decide (am x ≥ am y) = true → nz x = true ∧ IntKind.u16 =
      IntKind.u16 ∧ IntKind.u16.wrap (IntKind.i32.wrap (arc (rat y x) + (32768 : Int))) = at2 x y) ∧ (decide (am x ≥ am y) = false → (decide (y > (0 : Int)) = true → nz y = true
      ∧ IntKind.u16 = IntKind.u16 ∧ IntKind.u16.wrap (IntKind.i32.wrap ((16384 : Int) - arc (rat x y))) = at2 x y) ∧ (decide (y > (0 : Int)) = false → nz y = true ∧ IntKind.u16
      = IntKind.u16 ∧ IntKind.u16.wrap (IntKind.i32.wrap ((49152 : Int) - arc (rat x y))) = at2 x y)))) ∧ (decide (am x ≥ am y) = false → (decide (am x ≥ am y) = true → nz x =
      true ∧ IntKind.u16 = IntKind.u16 ∧ IntKind.u16.wrap (IntKind.i32.wrap (arc (rat y x) + (32768 : Int))) = at2 x y) ∧ (decide (am x ≥ am y) = false → (decide (y > (0 : Int))
      = true → nz y = true ∧ IntKind.u16 = IntKind.u16 ∧ IntKind.u16.wrap (IntKind.i32.wrap ((16384 : Int) - arc (rat x y))) = at2 x y) ∧ (decide (y > (0 : Int)) = false → nz y
      = true ∧ IntKind.u16 = IntKind.u16 ∧ IntKind.u16.wrap (IntKind.i32.wrap ((49152 : Int) - arc (rat x y))) = at2 x y)))))))) := by kernel_rfl
theorem ra2_p (E : World) (x : Int) (y : Int) :
    (conP (.c (.i false .u16 (at2 x y))) (fnTree (pe E) (orcB E) (tabL fns) 20000 Try.f18 [.c (.i false .i32 x), .c (.i false .i32 y)] [])) =
    (((y == (0 : Int)) = true → (decide (x < (0 : Int)) = true → IntKind.u16 = IntKind.u16 ∧ (32768 : Int) = at2 x y) ∧ (decide (x < (0 : Int)) = false → IntKind.u16 =
      IntKind.u16 ∧ (0 : Int) = at2 x y)) ∧ ((y == (0 : Int)) = false → ((x == (0 : Int)) = true → (decide (y > (0 : Int)) = true → IntKind.u16 = IntKind.u16 ∧ (16384 : Int) =
      at2 x y) ∧ (decide (y > (0 : Int)) = false → IntKind.u16 = IntKind.u16 ∧ (49152 : Int) = at2 x y)) ∧ ((x == (0 : Int)) = false → (decide (am x ≥ am y) = true → nz x = true
      ∧ (decide (x < (0 : Int)) = true → IntKind.u16 = IntKind.u16 ∧ IntKind.u16.wrap (IntKind.i32.wrap (arc (rat y x) + (32768 : Int))) = at2 x y) ∧ (decide (x < (0 : Int)) =
      false → IntKind.u16 = IntKind.u16 ∧ IntKind.u16.wrap (arc (rat y x)) = at2 x y)) ∧ (decide (am x ≥ am y) = false → nz y = true ∧ (decide (y > (0 : Int)) = true → nz y =
      true ∧ IntKind.u16 = IntKind.u16 ∧ IntKind.u16.wrap (IntKind.i32.wrap ((16384 : Int) - arc (rat x y))) = at2 x y) ∧ (decide (y > (0 : Int)) = false → IntKind.u16 =
      IntKind.u16 ∧ IntKind.u16.wrap (IntKind.i32.wrap ((49152 : Int) - arc (rat x y))) = at2 x y))))) := by kernel_rfl
def pk (k : Nat) : Int := ((2 ^ k : Nat) : Int)
def bt : Nat → Int | 0 => 0 | k + 1 => pk k
def rb : Nat → Int → Int → Int
  | 0, r, _ => r
  | k + 1, r, x => if (r + pk k) * (r + pk k) ≤ x then rb k (r + pk k) x else rb k r x
def rt (x : Int) : Int := rb 16 0 x
def sqI (y : Int) (k : Nat) (r : Int) : Prop := k ≤ 16 ∧ 0 ≤ r ∧ r + pk k ≤ 65536 ∧ (∃ q : Nat, r = ((2 ^ k * q : Nat) : Int)) ∧ r * r ≤ y ∧ y < (r + pk k) * (r + pk k)
noncomputable def c13 : Code := Try.f13.body.getD .skip
noncomputable def hd13 (E : World) : List Item := headOf (run (pe E) orcNone (tabL fns) 20000 1606938044258990275541962092341162602522202993782792835301375 [.code c13] ⟨Try.f13.ntmps, mkFrGo (Tr.mk 12) 0 [.c (.i true .u32 0)]⟩ [])
def lv13 (E : World) (y : Int) (x : Nat × Int) : List (Nat × SV) := [(0, .c (.i false .u32 y)), (3, .c (.i false .u32 x.2)), (4, .c (.i false .u32 (bt x.1)))]
def sv13 (E : World) (y : Int) (x : Nat × Int) : SW := []
def hh13 (E : World) (y : Int) (x : Nat × Int) : Prop := sqI y x.1 x.2
def mu13 (E : World) (y : Int) (x : Nat × Int) : Nat := x.1
theorem sq_pro (E : World) (y : Int) :
    (loopP (pe E) Try.f13 (fun v _ => SV.sim v (.c (.i false .u32 (rt y)))) (fun todo fr s' => ∃ x : Nat × Int, hh13 E y x ∧ todo = hd13 E ∧ fr.nt = Try.f13.ntmps ∧ refP fr (lv13 E y x) ∧ refT s' (sv13 E y x)) (run (pe E) orcNone (tabL fns) 20000 1606938044258990275541962092341162602522202993782792835301375 [.code c13] ⟨Try.f13.ntmps, mkFrGo (Tr.mk 12) 0 [.c (.i false .u32 y)]⟩ [])) =
    (∃ (x : Nat × Int), (x.fst ≤ (16 : Nat) ∧ (0 : Int) ≤ x.snd ∧ x.snd + pk x.fst ≤ (65536 : Int) ∧ (∃ (q : Nat), x.snd = (↑((2 : Nat) ^ x.fst * q) : Int)) ∧ x.snd * x.snd ≤ y
      ∧ y < (x.snd + pk x.fst) * (x.snd + pk x.fst)) ∧ hd13 E = hd13 E ∧ (20 : Nat) = (20 : Nat) ∧ ((IntKind.u32 = IntKind.u32 ∧ y = y) ∧ (IntKind.u32 = IntKind.u32 ∧ (0 : Int)
      = x.snd) ∧ IntKind.u32 = IntKind.u32 ∧ (32768 : Int) = bt x.fst) ∧ True) := by kernel_rfl
theorem sq_round (E : World) (y : Int) (j : Nat × Int) :
    (loopP (pe E) Try.f13 (fun v _ => SV.sim v (.c (.i false .u32 (rt y)))) (fun todo fr s' => ∃ x : Nat × Int, hh13 E y x ∧ mu13 E y x < mu13 E y j ∧ todo = hd13 E ∧ fr.nt = Try.f13.ntmps ∧ refP fr (lv13 E y x) ∧ refT s' (sv13 E y x)) (run (pe E) orcNone (tabL fns) 20000 1606938044258990275541962092341162602522202993782792835301375 (hd13 E) (mkL Try.f13.ntmps (lv13 E y j)) (sv13 E y j))) =
    ((decide (bt j.fst > (0 : Int)) = true → (decide (IntKind.u32.wrap (bits BinOp.or IntKind.u32 j.snd (bt j.fst) * bits BinOp.or IntKind.u32 j.snd (bt j.fst)) ≤ y) = true → ∃
      (x : Nat × Int), (x.fst ≤ (16 : Nat) ∧ (0 : Int) ≤ x.snd ∧ x.snd + pk x.fst ≤ (65536 : Int) ∧ (∃ (q : Nat), x.snd = (↑((2 : Nat) ^ x.fst * q) : Int)) ∧ x.snd * x.snd ≤ y ∧
      y < (x.snd + pk x.fst) * (x.snd + pk x.fst)) ∧ mu13 E y x < mu13 E y j ∧ hd13 E = hd13 E ∧ (20 : Nat) = (20 : Nat) ∧ ((IntKind.u32 = IntKind.u32 ∧ y = y) ∧ (IntKind.u32 =
      IntKind.u32 ∧ bits BinOp.or IntKind.u32 j.snd (bt j.fst) = x.snd) ∧ IntKind.u32 = IntKind.u32 ∧ (bt j.fst).fdiv (2 : Int) = bt x.fst) ∧ True) ∧ (decide (IntKind.u32.wrap
      (bits BinOp.or IntKind.u32 j.snd (bt j.fst) * bits BinOp.or IntKind.u32 j.snd (bt j.fst)) ≤ y) = false → ∃ (x : Nat × Int), (x.fst ≤ (16 : Nat) ∧ (0 : Int) ≤ x.snd ∧ x.snd
      + pk x.fst ≤ (65536 : Int) ∧ (∃ (q : Nat), x.snd = (↑((2 : Nat) ^ x.fst * q) : Int)) ∧ x.snd * x.snd ≤ y ∧ y < (x.snd + pk x.fst) * (x.snd + pk x.fst)) ∧ mu13 E y x < mu13
      E y j ∧ hd13 E = hd13 E ∧ (20 : Nat) = (20 : Nat) ∧ ((IntKind.u32 = IntKind.u32 ∧ y = y) ∧ (IntKind.u32 = IntKind.u32 ∧ j.snd = x.snd) ∧ IntKind.u32 = IntKind.u32 ∧ (bt
      j.fst).fdiv (2 : Int) = bt x.fst) ∧ True)) ∧ (decide (bt j.fst > (0 : Int)) = false → IntKind.u32 = IntKind.u32 ∧ j.snd = rt y)) := by kernel_rfl
noncomputable def c14 : Code := Try.f14.body.getD .skip
noncomputable def hd14 (E : World) : List Item := headOf (run (pe E) orcNone (tabL fns) 20000 1606938044258990275541962092341162602522202993782792835301375 [.code c14] ⟨Try.f14.ntmps, mkFrGo (Tr.mk 12) 0 [.c (.i true .u32 0)]⟩ [])
def lv14 (E : World) (y : Int) (x : Int × Int) : List (Nat × SV) := [(0, .c (.i false .u32 y)), (3, .c (.i false .u64 x.1)), (4, .c (.i false .u64 x.2))]
def sv14 (E : World) (y : Int) (x : Int × Int) : SW := []
def hh14 (E : World) (y : Int) (x : Int × Int) : Prop := 0 ≤ x.1 ∧ x.1 < x.2 ∧ x.2 ≤ 65536 ∧ x.1 * x.1 ≤ y ∧ y < x.2 * x.2
def mu14 (E : World) (y : Int) (x : Int × Int) : Nat := (x.2 - x.1).toNat
theorem rsq_pro (E : World) (y : Int) :
    (loopP (pe E) Try.f14 (fun v _ => SV.sim v (.c (.i false .u32 (rt y)))) (fun todo fr s' => ∃ x : Int × Int, hh14 E y x ∧ todo = hd14 E ∧ fr.nt = Try.f14.ntmps ∧ refP fr (lv14 E y x) ∧ refT s' (sv14 E y x)) (run (pe E) orcNone (tabL fns) 20000 1606938044258990275541962092341162602522202993782792835301375 [.code c14] ⟨Try.f14.ntmps, mkFrGo (Tr.mk 12) 0 [.c (.i false .u32 y)]⟩ [])) =
    (∃ (x : Int × Int), ((0 : Int) ≤ x.fst ∧ x.fst < x.snd ∧ x.snd ≤ (65536 : Int) ∧ x.fst * x.fst ≤ y ∧ y < x.snd * x.snd) ∧ hd14 E = hd14 E ∧ (24 : Nat) = (24 : Nat) ∧
      ((IntKind.u32 = IntKind.u32 ∧ y = y) ∧ (IntKind.u64 = IntKind.u64 ∧ (0 : Int) = x.fst) ∧ IntKind.u64 = IntKind.u64 ∧ (65536 : Int) = x.snd) ∧ True) := by kernel_rfl
theorem rsq_round (E : World) (y : Int) (j : Int × Int) :
    (loopP (pe E) Try.f14 (fun v _ => SV.sim v (.c (.i false .u32 (rt y)))) (fun todo fr s' => ∃ x : Int × Int, hh14 E y x ∧ mu14 E y x < mu14 E y j ∧ todo = hd14 E ∧ fr.nt = Try.f14.ntmps ∧ refP fr (lv14 E y x) ∧ refT s' (sv14 E y x)) (run (pe E) orcNone (tabL fns) 20000 1606938044258990275541962092341162602522202993782792835301375 (hd14 E) (mkL Try.f14.ntmps (lv14 E y j)) (sv14 E y j))) =
    ((decide (IntKind.u64.wrap (j.snd - j.fst) > (1 : Int)) = true → (decide (IntKind.u64.wrap (IntKind.u64.wrap ((IntKind.u64.wrap (j.fst + j.snd)).tdiv (2 : Int)) *
      IntKind.u64.wrap ((IntKind.u64.wrap (j.fst + j.snd)).tdiv (2 : Int))) ≤ IntKind.u64.wrap y) = true → ∃ (x : Int × Int), ((0 : Int) ≤ x.fst ∧ x.fst < x.snd ∧ x.snd ≤ (65536
      : Int) ∧ x.fst * x.fst ≤ y ∧ y < x.snd * x.snd) ∧ mu14 E y x < mu14 E y j ∧ hd14 E = hd14 E ∧ (24 : Nat) = (24 : Nat) ∧ ((IntKind.u32 = IntKind.u32 ∧ y = y) ∧ (IntKind.u64
      = IntKind.u64 ∧ IntKind.u64.wrap ((IntKind.u64.wrap (j.fst + j.snd)).tdiv (2 : Int)) = x.fst) ∧ IntKind.u64 = IntKind.u64 ∧ j.snd = x.snd) ∧ True) ∧ (decide
      (IntKind.u64.wrap (IntKind.u64.wrap ((IntKind.u64.wrap (j.fst + j.snd)).tdiv (2 : Int)) * IntKind.u64.wrap ((IntKind.u64.wrap (j.fst + j.snd)).tdiv (2 : Int))) ≤
      IntKind.u64.wrap y) = false → ∃ (x : Int × Int), ((0 : Int) ≤ x.fst ∧ x.fst < x.snd ∧ x.snd ≤ (65536 : Int) ∧ x.fst * x.fst ≤ y ∧ y < x.snd * x.snd) ∧ mu14 E y x < mu14 E
      y j ∧ hd14 E = hd14 E ∧ (24 : Nat) = (24 : Nat) ∧ ((IntKind.u32 = IntKind.u32 ∧ y = y) ∧ (IntKind.u64 = IntKind.u64 ∧ j.fst = x.fst) ∧ IntKind.u64 = IntKind.u64 ∧
      IntKind.u64.wrap ((IntKind.u64.wrap (j.fst + j.snd)).tdiv (2 : Int)) = x.snd) ∧ True)) ∧ (decide (IntKind.u64.wrap (j.snd - j.fst) > (1 : Int)) = false → IntKind.u32 =
      IntKind.u32 ∧ IntKind.u32.wrap j.fst = rt y)) := by kernel_rfl
end Go.Proofs.Ytabklphoccicmaa

