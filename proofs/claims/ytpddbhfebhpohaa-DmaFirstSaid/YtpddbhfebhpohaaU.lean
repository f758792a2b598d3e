import Derived.Test.YtpddbhfebhpohaaR0
import Derived.Test.YtpddbhfebhpohaaR1
import Derived.Test.YtpddbhfebhpohaaR2
import Derived.Test.YtpddbhfebhpohaaR3
import Derived.Test.YtpddbhfebhpohaaT0
import Derived.Test.YtpddbhfebhpohaaT1
set_option linter.unusedVariables false
set_option linter.unusedSimpArgs false
namespace Go.Proofs.Ytpddbhfebhpohaa
open Go Go.Proofs Go.Proofs.Ytpddbhfebhpohaa.Ev Go.Proofs.Ytpddbhfebhpohaa.Ev.Ho
set_option maxRecDepth 100000

def getC (u : U4) (i : Int) : Ch := if i = 0 then u.c0 else if i = 1 then u.c1 else if i = 2 then u.c2 else u.c3
def mid (i : Int) (c : Ch) : Ch := advC (wd i c.control) i (carC (wd i c.control) c)
def lft (c : Ch) : Ch := ⟨c.src, c.dst, c.count, c.control, c.at_, c.to, IntKind.i64.wrap (c.left - 1), c.act, c.first, c.last⟩
def dn (c : Ch) : Bool := !decide (IntKind.i64.wrap (c.left - 1) > 0)
def stp (i : Int) (c : Ch) : Ch := if dn c = true then endC i (lft (mid i c)) else lft (mid i c)
def asks (c : Ch) : Bool := decide (c.control / 16384 % 2 = 1)
def stU (u : U4) : U4 := setC u (rdy u) (stp (rdy u))

theorem setC_congr {u : U4} {i : Int} {f g : Ch → Ch} (h0 : 0 ≤ i) (h3 : i ≤ 3) (h : f (getC u i) = g (getC u i)) : setC u i f = setC u i g := by
  have : i = 0 ∨ i = 1 ∨ i = 2 ∨ i = 3 := by omega
  rcases this with rfl | rfl | rfl | rfl
  · show U4.mk (f u.c0) u.c1 u.c2 u.c3 = U4.mk (g u.c0) u.c1 u.c2 u.c3
    rw [show f u.c0 = g u.c0 from h]
  · show U4.mk u.c0 (f u.c1) u.c2 u.c3 = U4.mk u.c0 (g u.c1) u.c2 u.c3
    rw [show f u.c1 = g u.c1 from h]
  · show U4.mk u.c0 u.c1 (f u.c2) u.c3 = U4.mk u.c0 u.c1 (g u.c2) u.c3
    rw [show f u.c2 = g u.c2 from h]
  · show U4.mk u.c0 u.c1 u.c2 (f u.c3) = U4.mk u.c0 u.c1 u.c2 (g u.c3)
    rw [show f u.c3 = g u.c3 from h]
theorem stU_f {u : U4} (h0 : 0 ≤ rdy u) (h3 : rdy u ≤ 3) (hd : dn (getC u (rdy u)) = false) : stU u = setC u (rdy u) (fun c => lft (mid (rdy u) c)) :=
  setC_congr h0 h3 (by show stp _ _ = _; unfold stp; rw [hd, if_neg (by decide)])
theorem stU_t {u : U4} (h0 : 0 ≤ rdy u) (h3 : rdy u ≤ 3) (hd : dn (getC u (rdy u)) = true) : stU u = setC u (rdy u) (fun c => endC (rdy u) (lft (mid (rdy u) c))) :=
  setC_congr h0 h3 (by show stp _ _ = _; unfold stp; rw [hd, if_pos rfl])
theorem wd_24 (i n : Int) : wd i n = 2 ∨ wd i n = 4 := by unfold wd; split <;> simp
theorem end_14 (i : Int) (c : Ch) : (endC i c).control / 16384 % 2 = c.control / 16384 % 2 := by
  unfold endC; split
  · rfl
  · show c.control % 32768 / 16384 % 2 = _; omega
noncomputable def orcS (E : World) : Orc := fun g vs s => match g, vs, s with
  | 11, [.c (.p 0 0), .c (.i _ .i64 i), .c (.i _ .i64 part), .c (.i _ .u16 x)], B :: S => some (hoS (pre := fun _ => 0 ≤ x ∧ x ≤ 65535) (fun z => wu_c E S i part x z) (by rfl) ([B]) (by first | trivial | exact ⟨rfl, trivial⟩))
  | 14, [.c (.p 0 0)], B :: S => some (hoSr (pre := fun _ => True) (fun z => rdu_c E S  z) (by rfl) ([B]) (by first | trivial | exact ⟨rfl, trivial⟩))
  | 16, [.c (.p 0 0), .c (.i _ .i64 w)], B :: S => some (hoS (pre := fun _ => True) (fun z => mu_c E S w z) (by rfl) ([B]) (by first | trivial | exact ⟨rfl, trivial⟩))
  | 17, [.c (.p 0 0), .c (.i _ .u32 w)], B :: S => some (hoS (pre := fun _ => True) (fun z => hu_c E S w z) (by rfl) ([B]) (by first | trivial | exact ⟨rfl, trivial⟩))
  | 28, [.c (.p 0 0)], B :: S => some (hoSr (pre := fun _ => True) (fun z => wd0_c E S  z) (by rfl) ([B]) (by first | trivial | exact ⟨rfl, trivial⟩))
  | 30, [.c (.p 0 0), .c (.i _ .i64 w)], B :: S => some (hoS (pre := fun _ => w = 2 ∨ w = 4) (fun z => ad0_c E S w z) (by rfl) ([B]) (by first | trivial | exact ⟨rfl, trivial⟩))
  | 31, [.c (.p 0 0)], B :: S => some (hoS (pre := fun _ => True) (fun z => en0_c E S  z) (by rfl) ([B]) (by first | trivial | exact ⟨rfl, trivial⟩))
  | 28, [.c (.p 0 11)], B :: S => some (hoSr (pre := fun _ => True) (fun z => wd1_c E S  z) (by rfl) ([B]) (by first | trivial | exact ⟨rfl, trivial⟩))
  | 30, [.c (.p 0 11), .c (.i _ .i64 w)], B :: S => some (hoS (pre := fun _ => w = 2 ∨ w = 4) (fun z => ad1_c E S w z) (by rfl) ([B]) (by first | trivial | exact ⟨rfl, trivial⟩))
  | 31, [.c (.p 0 11)], B :: S => some (hoS (pre := fun _ => True) (fun z => en1_c E S  z) (by rfl) ([B]) (by first | trivial | exact ⟨rfl, trivial⟩))
  | 28, [.c (.p 0 22)], B :: S => some (hoSr (pre := fun _ => True) (fun z => wd2_c E S  z) (by rfl) ([B]) (by first | trivial | exact ⟨rfl, trivial⟩))
  | 30, [.c (.p 0 22), .c (.i _ .i64 w)], B :: S => some (hoS (pre := fun _ => w = 2 ∨ w = 4) (fun z => ad2_c E S w z) (by rfl) ([B]) (by first | trivial | exact ⟨rfl, trivial⟩))
  | 31, [.c (.p 0 22)], B :: S => some (hoS (pre := fun _ => True) (fun z => en2_c E S  z) (by rfl) ([B]) (by first | trivial | exact ⟨rfl, trivial⟩))
  | 28, [.c (.p 0 33)], B :: S => some (hoSr (pre := fun _ => True) (fun z => wd3_c E S  z) (by rfl) ([B]) (by first | trivial | exact ⟨rfl, trivial⟩))
  | 30, [.c (.p 0 33), .c (.i _ .i64 w)], B :: S => some (hoS (pre := fun _ => w = 2 ∨ w = 4) (fun z => ad3_c E S w z) (by rfl) ([B]) (by first | trivial | exact ⟨rfl, trivial⟩))
  | 31, [.c (.p 0 33)], B :: S => some (hoS (pre := fun _ => True) (fun z => en3_c E S  z) (by rfl) ([B]) (by first | trivial | exact ⟨rfl, trivial⟩))
  | g, vs, s => (orcA E) g vs s
theorem orcS_ok {E : World} : OrcOK (pe E) (orcS E) := by
  intro g vs s t h
  unfold orcS at h
  split at h
  · cases h; refine CallTree.args ?_ (hoS1_ok _ _ _ (by first | trivial | exact ⟨rfl, trivial⟩) (by rfl)); simp [simL, SV.sim, C.sim]
  · cases h; refine CallTree.args ?_ (hoSr1_ok _ _ _ (by first | trivial | exact ⟨rfl, trivial⟩) (by rfl) (by rfl)); simp [simL, SV.sim, C.sim]
  · cases h; refine CallTree.args ?_ (hoS1_ok _ _ _ (by first | trivial | exact ⟨rfl, trivial⟩) (by rfl)); simp [simL, SV.sim, C.sim]
  · cases h; refine CallTree.args ?_ (hoS1_ok _ _ _ (by first | trivial | exact ⟨rfl, trivial⟩) (by rfl)); simp [simL, SV.sim, C.sim]
  · cases h; refine CallTree.args ?_ (hoSr1_ok _ _ _ (by first | trivial | exact ⟨rfl, trivial⟩) (by rfl) (by rfl)); simp [simL, SV.sim, C.sim]
  · cases h; refine CallTree.args ?_ (hoS1_ok _ _ _ (by first | trivial | exact ⟨rfl, trivial⟩) (by rfl)); simp [simL, SV.sim, C.sim]
  · cases h; refine CallTree.args ?_ (hoS1_ok _ _ _ (by first | trivial | exact ⟨rfl, trivial⟩) (by rfl)); simp [simL, SV.sim, C.sim]
  · cases h; refine CallTree.args ?_ (hoSr1_ok _ _ _ (by first | trivial | exact ⟨rfl, trivial⟩) (by rfl) (by rfl)); simp [simL, SV.sim, C.sim]
  · cases h; refine CallTree.args ?_ (hoS1_ok _ _ _ (by first | trivial | exact ⟨rfl, trivial⟩) (by rfl)); simp [simL, SV.sim, C.sim]
  · cases h; refine CallTree.args ?_ (hoS1_ok _ _ _ (by first | trivial | exact ⟨rfl, trivial⟩) (by rfl)); simp [simL, SV.sim, C.sim]
  · cases h; refine CallTree.args ?_ (hoSr1_ok _ _ _ (by first | trivial | exact ⟨rfl, trivial⟩) (by rfl) (by rfl)); simp [simL, SV.sim, C.sim]
  · cases h; refine CallTree.args ?_ (hoS1_ok _ _ _ (by first | trivial | exact ⟨rfl, trivial⟩) (by rfl)); simp [simL, SV.sim, C.sim]
  · cases h; refine CallTree.args ?_ (hoS1_ok _ _ _ (by first | trivial | exact ⟨rfl, trivial⟩) (by rfl)); simp [simL, SV.sim, C.sim]
  · cases h; refine CallTree.args ?_ (hoSr1_ok _ _ _ (by first | trivial | exact ⟨rfl, trivial⟩) (by rfl) (by rfl)); simp [simL, SV.sim, C.sim]
  · cases h; refine CallTree.args ?_ (hoS1_ok _ _ _ (by first | trivial | exact ⟨rfl, trivial⟩) (by rfl)); simp [simL, SV.sim, C.sim]
  · cases h; refine CallTree.args ?_ (hoS1_ok _ _ _ (by first | trivial | exact ⟨rfl, trivial⟩) (by rfl)); simp [simL, SV.sim, C.sim]
  · exact orcA_ok _ _ _ _ h
noncomputable def orcR (E : World) : Orc := fun g vs s => match g, vs, s with
  | 18, [.c (.p 1 0), .c (.i _ .i64 i), .c (.i _ .i64 part), .c (.i _ .u16 x)], X :: B :: S => some (hoS (pre := fun _ => 0 ≤ x ∧ x ≤ 65535) (fun z => wr_c E X S i part x z) (by rfl) ([X, B]) (by first | trivial | exact ⟨rfl, trivial⟩))
  | 21, [.c (.p 1 0)], X :: B :: S => some (hoSr (pre := fun _ => True) (fun z => rdr_c E X S  z) (by rfl) ([X, B]) (by first | trivial | exact ⟨rfl, trivial⟩))
  | 19, [.c (.p 1 0), .c (.i _ .i64 w)], X :: B :: S => some (hoS (pre := fun _ => True) (fun z => mr_c E X S w z) (by rfl) ([X, B]) (by first | trivial | exact ⟨rfl, trivial⟩))
  | 20, [.c (.p 1 0), .c (.i _ .u32 w)], X :: B :: S => some (hoS (pre := fun _ => True) (fun z => hr_c E X S w z) (by rfl) ([X, B]) (by first | trivial | exact ⟨rfl, trivial⟩))
  | g, vs, s => (orcS E) g vs s
theorem orcR_ok {E : World} : OrcOK (pe E) (orcR E) := by
  intro g vs s t h
  unfold orcR at h
  split at h
  · cases h; refine CallTree.args ?_ (hoS2_ok _ _ _ _ (by first | trivial | exact ⟨rfl, trivial⟩) (by rfl)); simp [simL, SV.sim, C.sim]
  · cases h; refine CallTree.args ?_ (hoSr2_ok _ _ _ _ (by first | trivial | exact ⟨rfl, trivial⟩) (by rfl) (by rfl)); simp [simL, SV.sim, C.sim]
  · cases h; refine CallTree.args ?_ (hoS2_ok _ _ _ _ (by first | trivial | exact ⟨rfl, trivial⟩) (by rfl)); simp [simL, SV.sim, C.sim]
  · cases h; refine CallTree.args ?_ (hoS2_ok _ _ _ _ (by first | trivial | exact ⟨rfl, trivial⟩) (by rfl)); simp [simL, SV.sim, C.sim]
  · exact orcS_ok _ _ _ _ h
noncomputable def orcC (E : World) : Orc := fun g vs s => match g with
  | 29 => (match frGo [uB, tN] vs s (fun vs0 π s0 => match vs0 with
      | [.c (.p 0 0), .c (.ifc 34 1 0), .c (.i l .i64 w)] => some (hdG (pre := fun _ => w = 2 ∨ w = 4) (fun z hz hp => HD.args (vs := [.c (.p 0 0), .c (.ifc 34 1 0), .c (.i l .i64 w)]) (by simp [simL, SV.sim, C.sim]) (can0_c E w z hz hp)) (by rfl) π s s0)
      | [.c (.p 0 11), .c (.ifc 34 1 0), .c (.i l .i64 w)] => some (hdG (pre := fun _ => w = 2 ∨ w = 4) (fun z hz hp => HD.args (vs := [.c (.p 0 11), .c (.ifc 34 1 0), .c (.i l .i64 w)]) (by simp [simL, SV.sim, C.sim]) (can1_c E w z hz hp)) (by rfl) π s s0)
      | [.c (.p 0 22), .c (.ifc 34 1 0), .c (.i l .i64 w)] => some (hdG (pre := fun _ => w = 2 ∨ w = 4) (fun z hz hp => HD.args (vs := [.c (.p 0 22), .c (.ifc 34 1 0), .c (.i l .i64 w)]) (by simp [simL, SV.sim, C.sim]) (can2_c E w z hz hp)) (by rfl) π s s0)
      | [.c (.p 0 33), .c (.ifc 34 1 0), .c (.i l .i64 w)] => some (hdG (pre := fun _ => w = 2 ∨ w = 4) (fun z hz hp => HD.args (vs := [.c (.p 0 33), .c (.ifc 34 1 0), .c (.i l .i64 w)]) (by simp [simL, SV.sim, C.sim]) (can3_c E w z hz hp)) (by rfl) π s s0)
      | _ => none) with
    | some t => some t
    | none => (match frGo [uB, tW 2 3, pR, wR] vs s (fun vs0 π s0 => match vs0 with
      | [.c (.p 0 0), .c (.ifc 34 1 0), .c (.i l .i64 w)] => some (hdG (pre := fun z => (w = 2 ∨ w = 4) ∧ TP (z.n 100000) (z.n 100001) (z.l 2) (z.l 3)) (fun z hz hp => HD.args (vs := [.c (.p 0 0), .c (.ifc 34 1 0), .c (.i l .i64 w)]) (by simp [simL, SV.sim, C.sim]) (caw0_c E w z hz hp)) (by rfl) π s s0)
      | [.c (.p 0 11), .c (.ifc 34 1 0), .c (.i l .i64 w)] => some (hdG (pre := fun z => (w = 2 ∨ w = 4) ∧ TP (z.n 100000) (z.n 100001) (z.l 2) (z.l 3)) (fun z hz hp => HD.args (vs := [.c (.p 0 11), .c (.ifc 34 1 0), .c (.i l .i64 w)]) (by simp [simL, SV.sim, C.sim]) (caw1_c E w z hz hp)) (by rfl) π s s0)
      | [.c (.p 0 22), .c (.ifc 34 1 0), .c (.i l .i64 w)] => some (hdG (pre := fun z => (w = 2 ∨ w = 4) ∧ TP (z.n 100000) (z.n 100001) (z.l 2) (z.l 3)) (fun z hz hp => HD.args (vs := [.c (.p 0 22), .c (.ifc 34 1 0), .c (.i l .i64 w)]) (by simp [simL, SV.sim, C.sim]) (caw2_c E w z hz hp)) (by rfl) π s s0)
      | [.c (.p 0 33), .c (.ifc 34 1 0), .c (.i l .i64 w)] => some (hdG (pre := fun z => (w = 2 ∨ w = 4) ∧ TP (z.n 100000) (z.n 100001) (z.l 2) (z.l 3)) (fun z hz hp => HD.args (vs := [.c (.p 0 33), .c (.ifc 34 1 0), .c (.i l .i64 w)]) (by simp [simL, SV.sim, C.sim]) (caw3_c E w z hz hp)) (by rfl) π s s0)
      | _ => none) with
    | some t => some t
    | none => (orcR E) g vs s))
  | g => (orcR E) g vs s
theorem orcC_ok {E : World} : OrcOK (pe E) (orcC E) := by
  intro g vs s t h
  unfold orcC at h
  split at h
  · split at h
    · rename_i hfr; cases h
      obtain ⟨π, hq, hK, hv, hok⟩ := frGo_spec hfr
      split at hK
      · rename_i heq; cases hK
        rw [heq] at hv hok
        exact hdG_ok _ _ π s hq hv hok
      · rename_i heq; cases hK
        rw [heq] at hv hok
        exact hdG_ok _ _ π s hq hv hok
      · rename_i heq; cases hK
        rw [heq] at hv hok
        exact hdG_ok _ _ π s hq hv hok
      · rename_i heq; cases hK
        rw [heq] at hv hok
        exact hdG_ok _ _ π s hq hv hok
      · cases hK
    · split at h
      · rename_i hfr; cases h
        obtain ⟨π, hq, hK, hv, hok⟩ := frGo_spec hfr
        split at hK
        · rename_i heq; cases hK
          rw [heq] at hv hok
          exact hdG_ok _ _ π s hq hv hok
        · rename_i heq; cases hK
          rw [heq] at hv hok
          exact hdG_ok _ _ π s hq hv hok
        · rename_i heq; cases hK
          rw [heq] at hv hok
          exact hdG_ok _ _ π s hq hv hok
        · rename_i heq; cases hK
          rw [heq] at hv hok
          exact hdG_ok _ _ π s hq hv hok
        · cases hK
      · exact orcR_ok _ _ _ _ h
  · exact orcR_ok _ _ _ _ h
end Go.Proofs.Ytpddbhfebhpohaa

