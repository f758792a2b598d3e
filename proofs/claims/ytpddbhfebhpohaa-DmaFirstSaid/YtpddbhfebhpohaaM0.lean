import Derived.Test.YtpddbhfebhpohaaK
set_option linter.unusedVariables false
set_option linter.unusedSimpArgs false
namespace Go.Proofs.Ytpddbhfebhpohaa
open Go Go.Proofs Go.Proofs.Ytpddbhfebhpohaa.Ev Go.Proofs.Ytpddbhfebhpohaa.Ev.Ho
set_option maxRecDepth 100000
noncomputable def mu_td (E : World) : List Item := headOf (run (pe E) (orcA E) (tabL fns) 20000 (2 ^ 200 - 1) [.code (Try.f16.body.getD .skip)] ⟨Try.f16.ntmps, mkFrGo (Tr.mk 12) 0 [.c (.p 0 0), .c (.i true .i64 1)]⟩ (mkM default [] uMs 0))
noncomputable def mu_hs (E : World) (S : SW) (z : PX) (w : Int) : List Head := [⟨3, (litK 16 0), (mu_td E), [(0, .c (.p 0 0)), (1, .i .i64), (16, .c (.i true .i64 0))], uMs, fun y => y.n 91001 = w ∧ (w = 1 ∨ w = 2) ∧ (U4.mk (Ch.mk (y.n 1) (y.n 2) (y.n 3) (y.n 4) (y.n 5) (y.n 6) (y.n 7) (y.b 8) (y.b 9) (y.n 10)) (Ch.mk (y.n 12) (y.n 13) (y.n 14) (y.n 15) (y.n 16) (y.n 17) (y.n 18) (y.b 19) (y.b 20) (y.n 21)) (Ch.mk (y.n 23) (y.n 24) (y.n 25) (y.n 26) (y.n 27) (y.n 28) (y.n 29) (y.b 30) (y.b 31) (y.n 32)) (Ch.mk (y.n 34) (y.n 35) (y.n 36) (y.n 37) (y.n 38) (y.n 39) (y.n 40) (y.b 41) (y.b 42) (y.n 43))) = up0 (moC w) (TU z), fun _ => 4⟩, ⟨3, (litK 16 1), (mu_td E), [(0, .c (.p 0 0)), (1, .i .i64), (16, .c (.i true .i64 1))], uMs, fun y => y.n 91001 = w ∧ (w = 1 ∨ w = 2) ∧ (U4.mk (Ch.mk (y.n 1) (y.n 2) (y.n 3) (y.n 4) (y.n 5) (y.n 6) (y.n 7) (y.b 8) (y.b 9) (y.n 10)) (Ch.mk (y.n 12) (y.n 13) (y.n 14) (y.n 15) (y.n 16) (y.n 17) (y.n 18) (y.b 19) (y.b 20) (y.n 21)) (Ch.mk (y.n 23) (y.n 24) (y.n 25) (y.n 26) (y.n 27) (y.n 28) (y.n 29) (y.b 30) (y.b 31) (y.n 32)) (Ch.mk (y.n 34) (y.n 35) (y.n 36) (y.n 37) (y.n 38) (y.n 39) (y.n 40) (y.b 41) (y.b 42) (y.n 43))) = up1 (moC w) (TU z), fun _ => 3⟩, ⟨3, (litK 16 2), (mu_td E), [(0, .c (.p 0 0)), (1, .i .i64), (16, .c (.i true .i64 2))], uMs, fun y => y.n 91001 = w ∧ (w = 1 ∨ w = 2) ∧ (U4.mk (Ch.mk (y.n 1) (y.n 2) (y.n 3) (y.n 4) (y.n 5) (y.n 6) (y.n 7) (y.b 8) (y.b 9) (y.n 10)) (Ch.mk (y.n 12) (y.n 13) (y.n 14) (y.n 15) (y.n 16) (y.n 17) (y.n 18) (y.b 19) (y.b 20) (y.n 21)) (Ch.mk (y.n 23) (y.n 24) (y.n 25) (y.n 26) (y.n 27) (y.n 28) (y.n 29) (y.b 30) (y.b 31) (y.n 32)) (Ch.mk (y.n 34) (y.n 35) (y.n 36) (y.n 37) (y.n 38) (y.n 39) (y.n 40) (y.b 41) (y.b 42) (y.n 43))) = up2 (moC w) (TU z), fun _ => 2⟩, ⟨3, (litK 16 3), (mu_td E), [(0, .c (.p 0 0)), (1, .i .i64), (16, .c (.i true .i64 3))], uMs, fun y => y.n 91001 = w ∧ (w = 1 ∨ w = 2) ∧ (U4.mk (Ch.mk (y.n 1) (y.n 2) (y.n 3) (y.n 4) (y.n 5) (y.n 6) (y.n 7) (y.b 8) (y.b 9) (y.n 10)) (Ch.mk (y.n 12) (y.n 13) (y.n 14) (y.n 15) (y.n 16) (y.n 17) (y.n 18) (y.b 19) (y.b 20) (y.n 21)) (Ch.mk (y.n 23) (y.n 24) (y.n 25) (y.n 26) (y.n 27) (y.n 28) (y.n 29) (y.b 30) (y.b 31) (y.n 32)) (Ch.mk (y.n 34) (y.n 35) (y.n 36) (y.n 37) (y.n 38) (y.n 39) (y.n 40) (y.b 41) (y.b 42) (y.n 43))) = up3 (moC w) (TU z), fun _ => 1⟩, ⟨3, (litK 16 4), (mu_td E), [(0, .c (.p 0 0)), (1, .i .i64), (16, .c (.i true .i64 4))], uMs, fun y => y.n 91001 = w ∧ (w = 1 ∨ w = 2) ∧ (U4.mk (Ch.mk (y.n 1) (y.n 2) (y.n 3) (y.n 4) (y.n 5) (y.n 6) (y.n 7) (y.b 8) (y.b 9) (y.n 10)) (Ch.mk (y.n 12) (y.n 13) (y.n 14) (y.n 15) (y.n 16) (y.n 17) (y.n 18) (y.b 19) (y.b 20) (y.n 21)) (Ch.mk (y.n 23) (y.n 24) (y.n 25) (y.n 26) (y.n 27) (y.n 28) (y.n 29) (y.b 30) (y.b 31) (y.n 32)) (Ch.mk (y.n 34) (y.n 35) (y.n 36) (y.n 37) (y.n 38) (y.n 39) (y.n 40) (y.b 41) (y.b 42) (y.n 43))) = up4 (moC w) (TU z), fun _ => 0⟩]
theorem mu_pro (E : World) (S : SW) (z : PX) (w : Int) :
    (loopP (pe E) Try.f16 (endP false uMs S (.t []) (fun z y => (U4.mk (Ch.mk (y.n 1) (y.n 2) (y.n 3) (y.n 4) (y.n 5) (y.n 6) (y.n 7) (y.b 8) (y.b 9) (y.n 10)) (Ch.mk (y.n 12) (y.n 13) (y.n 14) (y.n 15) (y.n 16) (y.n 17) (y.n 18) (y.b 19) (y.b 20) (y.n 21)) (Ch.mk (y.n 23) (y.n 24) (y.n 25) (y.n 26) (y.n 27) (y.n 28) (y.n 29) (y.b 30) (y.b 31) (y.n 32)) (Ch.mk (y.n 34) (y.n 35) (y.n 36) (y.n 37) (y.n 38) (y.n 39) (y.n 40) (y.b 41) (y.b 42) (y.n 43))) = up4 (moC w) (U4.mk (Ch.mk (z.n 1) (z.n 2) (z.n 3) (z.n 4) (z.n 5) (z.n 6) (z.n 7) (z.b 8) (z.b 9) (z.n 10)) (Ch.mk (z.n 12) (z.n 13) (z.n 14) (z.n 15) (z.n 16) (z.n 17) (z.n 18) (z.b 19) (z.b 20) (z.n 21)) (Ch.mk (z.n 23) (z.n 24) (z.n 25) (z.n 26) (z.n 27) (z.n 28) (z.n 29) (z.b 30) (z.b 31) (z.n 32)) (Ch.mk (z.n 34) (z.n 35) (z.n 36) (z.n 37) (z.n 38) (z.n 39) (z.n 40) (z.b 41) (z.b 42) (z.n 43)))) z) (headP false S Try.f16.ntmps none (mu_hs E S z w)) (run (pe E) (orcA E) (tabL fns) 20000 (2 ^ 200 - 1) [.code (Try.f16.body.getD .skip)] ⟨Try.f16.ntmps, mkFrGo (Tr.mk 12) 0 [.c (.p 0 0), .c (.i false .i64 w)]⟩ (mkM z S uMs 0))) =
    (((w != (1 : Int)) = true → ((w != (2 : Int)) = true → True ∧ ((62 : Nat) = (62 : Nat) ∧ (RGu z) ∧ S = S) ∧ TU z = up4 (moC w) (TU z)) ∧ ((w != (2 : Int)) = false → mu_td E
      = mu_td E ∧ (36 : Nat) = (36 : Nat) ∧ (True ∧ True ∧ True ∧ True) ∧ ((62 : Nat) = (62 : Nat) ∧ (RGu z) ∧ S = S) ∧ (w = w ∧ (w = (1 : Int) ∨ w = (2 : Int)) ∧ TU z = up0
      (moC w) (TU z)) ∧ True)) ∧ ((w != (1 : Int)) = false → mu_td E = mu_td E ∧ (36 : Nat) = (36 : Nat) ∧ (True ∧ True ∧ True ∧ True) ∧ ((62 : Nat) = (62 : Nat) ∧ (RGu z) ∧ S =
      S) ∧ (w = w ∧ (w = (1 : Int) ∨ w = (2 : Int)) ∧ TU z = up0 (moC w) (TU z)) ∧ True)) := by kernel_rfl
theorem mu_r0 (E : World) (S : SW) (z : PX) (w : Int) (y : PX) :
    (loopP (pe E) Try.f16 (endP false uMs S (.t []) (fun z y => (U4.mk (Ch.mk (y.n 1) (y.n 2) (y.n 3) (y.n 4) (y.n 5) (y.n 6) (y.n 7) (y.b 8) (y.b 9) (y.n 10)) (Ch.mk (y.n 12) (y.n 13) (y.n 14) (y.n 15) (y.n 16) (y.n 17) (y.n 18) (y.b 19) (y.b 20) (y.n 21)) (Ch.mk (y.n 23) (y.n 24) (y.n 25) (y.n 26) (y.n 27) (y.n 28) (y.n 29) (y.b 30) (y.b 31) (y.n 32)) (Ch.mk (y.n 34) (y.n 35) (y.n 36) (y.n 37) (y.n 38) (y.n 39) (y.n 40) (y.b 41) (y.b 42) (y.n 43))) = up4 (moC w) (U4.mk (Ch.mk (z.n 1) (z.n 2) (z.n 3) (z.n 4) (z.n 5) (z.n 6) (z.n 7) (z.b 8) (z.b 9) (z.n 10)) (Ch.mk (z.n 12) (z.n 13) (z.n 14) (z.n 15) (z.n 16) (z.n 17) (z.n 18) (z.b 19) (z.b 20) (z.n 21)) (Ch.mk (z.n 23) (z.n 24) (z.n 25) (z.n 26) (z.n 27) (z.n 28) (z.n 29) (z.b 30) (z.b 31) (z.n 32)) (Ch.mk (z.n 34) (z.n 35) (z.n 36) (z.n 37) (z.n 38) (z.n 39) (z.n 40) (z.b 41) (z.b 42) (z.n 43)))) z) (headP false S Try.f16.ntmps (some ((fun _ => 4) y)) (mu_hs E S z w))  (run (pe E) (orcA E) (tabL fns) 20000 (2 ^ 200 - 1) (mu_td E) (mkL Try.f16.ntmps (slC y [(0, .c (.p 0 0)), (1, .i .i64), (16, .c (.i true .i64 0))])) (mkM y S uMs 0))) =
    (((wo (y.n 4)) = true → ((w3 (y.n 4) 4096 == y.n 91001) = true → mu_td E = mu_td E ∧ (36 : Nat) = (36 : Nat) ∧ (True ∧ True ∧ True ∧ True) ∧ ((62 : Nat) = (62 : Nat) ∧ (RGu
      y) ∧ S = S) ∧ (y.n 91001 = w ∧ (w = (1 : Int) ∨ w = (2 : Int)) ∧ U4.mk (Ch.mk (y.n 1) (y.n 2) (y.n 3) (y.n 4) (y.n 5) (y.n 6) (y.n 7) true (y.b 9) (y.n 10)) (cu1 y) (cu2
      y) (cu3 y) = up1 (moC w) (TU z)) ∧ (3 : Nat) < (4 : Nat) ∧ True) ∧ ((w3 (y.n 4) 4096 == y.n 91001) = false → mu_td E = mu_td E ∧ (36 : Nat) = (36 : Nat) ∧ (True ∧ True ∧
      True ∧ True) ∧ ((62 : Nat) = (62 : Nat) ∧ (RGu y) ∧ S = S) ∧ (y.n 91001 = w ∧ (w = (1 : Int) ∨ w = (2 : Int)) ∧ TU y = up1 (moC w) (TU z)) ∧ (3 : Nat) < (4 : Nat) ∧ True))
      ∧ ((wo (y.n 4)) = false → mu_td E = mu_td E ∧ (36 : Nat) = (36 : Nat) ∧ (True ∧ True ∧ True ∧ True) ∧ ((62 : Nat) = (62 : Nat) ∧ (RGu y) ∧ S = S) ∧ (y.n 91001 = w ∧ (w =
      (1 : Int) ∨ w = (2 : Int)) ∧ TU y = up1 (moC w) (TU z)) ∧ (3 : Nat) < (4 : Nat) ∧ True)) := by kernel_rfl
theorem mu_r1 (E : World) (S : SW) (z : PX) (w : Int) (y : PX) :
    (loopP (pe E) Try.f16 (endP false uMs S (.t []) (fun z y => (U4.mk (Ch.mk (y.n 1) (y.n 2) (y.n 3) (y.n 4) (y.n 5) (y.n 6) (y.n 7) (y.b 8) (y.b 9) (y.n 10)) (Ch.mk (y.n 12) (y.n 13) (y.n 14) (y.n 15) (y.n 16) (y.n 17) (y.n 18) (y.b 19) (y.b 20) (y.n 21)) (Ch.mk (y.n 23) (y.n 24) (y.n 25) (y.n 26) (y.n 27) (y.n 28) (y.n 29) (y.b 30) (y.b 31) (y.n 32)) (Ch.mk (y.n 34) (y.n 35) (y.n 36) (y.n 37) (y.n 38) (y.n 39) (y.n 40) (y.b 41) (y.b 42) (y.n 43))) = up4 (moC w) (U4.mk (Ch.mk (z.n 1) (z.n 2) (z.n 3) (z.n 4) (z.n 5) (z.n 6) (z.n 7) (z.b 8) (z.b 9) (z.n 10)) (Ch.mk (z.n 12) (z.n 13) (z.n 14) (z.n 15) (z.n 16) (z.n 17) (z.n 18) (z.b 19) (z.b 20) (z.n 21)) (Ch.mk (z.n 23) (z.n 24) (z.n 25) (z.n 26) (z.n 27) (z.n 28) (z.n 29) (z.b 30) (z.b 31) (z.n 32)) (Ch.mk (z.n 34) (z.n 35) (z.n 36) (z.n 37) (z.n 38) (z.n 39) (z.n 40) (z.b 41) (z.b 42) (z.n 43)))) z) (headP false S Try.f16.ntmps (some ((fun _ => 3) y)) (mu_hs E S z w))  (run (pe E) (orcA E) (tabL fns) 20000 (2 ^ 200 - 1) (mu_td E) (mkL Try.f16.ntmps (slC y [(0, .c (.p 0 0)), (1, .i .i64), (16, .c (.i true .i64 1))])) (mkM y S uMs 0))) =
    (((wo (y.n 15)) = true → ((w3 (y.n 15) 4096 == y.n 91001) = true → mu_td E = mu_td E ∧ (36 : Nat) = (36 : Nat) ∧ (True ∧ True ∧ True ∧ True) ∧ ((62 : Nat) = (62 : Nat) ∧
      (RGu y) ∧ S = S) ∧ (y.n 91001 = w ∧ (w = (1 : Int) ∨ w = (2 : Int)) ∧ U4.mk (cu0 y) (Ch.mk (y.n 12) (y.n 13) (y.n 14) (y.n 15) (y.n 16) (y.n 17) (y.n 18) true (y.b 20)
      (y.n 21)) (cu2 y) (cu3 y) = up2 (moC w) (TU z)) ∧ (2 : Nat) < (3 : Nat) ∧ True) ∧ ((w3 (y.n 15) 4096 == y.n 91001) = false → mu_td E = mu_td E ∧ (36 : Nat) = (36 : Nat) ∧
      (True ∧ True ∧ True ∧ True) ∧ ((62 : Nat) = (62 : Nat) ∧ (RGu y) ∧ S = S) ∧ (y.n 91001 = w ∧ (w = (1 : Int) ∨ w = (2 : Int)) ∧ TU y = up2 (moC w) (TU z)) ∧ (2 : Nat) < (3
      : Nat) ∧ True)) ∧ ((wo (y.n 15)) = false → mu_td E = mu_td E ∧ (36 : Nat) = (36 : Nat) ∧ (True ∧ True ∧ True ∧ True) ∧ ((62 : Nat) = (62 : Nat) ∧ (RGu y) ∧ S = S) ∧ (y.n
      91001 = w ∧ (w = (1 : Int) ∨ w = (2 : Int)) ∧ TU y = up2 (moC w) (TU z)) ∧ (2 : Nat) < (3 : Nat) ∧ True)) := by kernel_rfl
theorem mu_r2 (E : World) (S : SW) (z : PX) (w : Int) (y : PX) :
    (loopP (pe E) Try.f16 (endP false uMs S (.t []) (fun z y => (U4.mk (Ch.mk (y.n 1) (y.n 2) (y.n 3) (y.n 4) (y.n 5) (y.n 6) (y.n 7) (y.b 8) (y.b 9) (y.n 10)) (Ch.mk (y.n 12) (y.n 13) (y.n 14) (y.n 15) (y.n 16) (y.n 17) (y.n 18) (y.b 19) (y.b 20) (y.n 21)) (Ch.mk (y.n 23) (y.n 24) (y.n 25) (y.n 26) (y.n 27) (y.n 28) (y.n 29) (y.b 30) (y.b 31) (y.n 32)) (Ch.mk (y.n 34) (y.n 35) (y.n 36) (y.n 37) (y.n 38) (y.n 39) (y.n 40) (y.b 41) (y.b 42) (y.n 43))) = up4 (moC w) (U4.mk (Ch.mk (z.n 1) (z.n 2) (z.n 3) (z.n 4) (z.n 5) (z.n 6) (z.n 7) (z.b 8) (z.b 9) (z.n 10)) (Ch.mk (z.n 12) (z.n 13) (z.n 14) (z.n 15) (z.n 16) (z.n 17) (z.n 18) (z.b 19) (z.b 20) (z.n 21)) (Ch.mk (z.n 23) (z.n 24) (z.n 25) (z.n 26) (z.n 27) (z.n 28) (z.n 29) (z.b 30) (z.b 31) (z.n 32)) (Ch.mk (z.n 34) (z.n 35) (z.n 36) (z.n 37) (z.n 38) (z.n 39) (z.n 40) (z.b 41) (z.b 42) (z.n 43)))) z) (headP false S Try.f16.ntmps (some ((fun _ => 2) y)) (mu_hs E S z w))  (run (pe E) (orcA E) (tabL fns) 20000 (2 ^ 200 - 1) (mu_td E) (mkL Try.f16.ntmps (slC y [(0, .c (.p 0 0)), (1, .i .i64), (16, .c (.i true .i64 2))])) (mkM y S uMs 0))) =
    (((wo (y.n 26)) = true → ((w3 (y.n 26) 4096 == y.n 91001) = true → mu_td E = mu_td E ∧ (36 : Nat) = (36 : Nat) ∧ (True ∧ True ∧ True ∧ True) ∧ ((62 : Nat) = (62 : Nat) ∧
      (RGu y) ∧ S = S) ∧ (y.n 91001 = w ∧ (w = (1 : Int) ∨ w = (2 : Int)) ∧ U4.mk (cu0 y) (cu1 y) (Ch.mk (y.n 23) (y.n 24) (y.n 25) (y.n 26) (y.n 27) (y.n 28) (y.n 29) true (y.b
      31) (y.n 32)) (cu3 y) = up3 (moC w) (TU z)) ∧ (1 : Nat) < (2 : Nat) ∧ True) ∧ ((w3 (y.n 26) 4096 == y.n 91001) = false → mu_td E = mu_td E ∧ (36 : Nat) = (36 : Nat) ∧
      (True ∧ True ∧ True ∧ True) ∧ ((62 : Nat) = (62 : Nat) ∧ (RGu y) ∧ S = S) ∧ (y.n 91001 = w ∧ (w = (1 : Int) ∨ w = (2 : Int)) ∧ TU y = up3 (moC w) (TU z)) ∧ (1 : Nat) < (2
      : Nat) ∧ True)) ∧ ((wo (y.n 26)) = false → mu_td E = mu_td E ∧ (36 : Nat) = (36 : Nat) ∧ (True ∧ True ∧ True ∧ True) ∧ ((62 : Nat) = (62 : Nat) ∧ (RGu y) ∧ S = S) ∧ (y.n
      91001 = w ∧ (w = (1 : Int) ∨ w = (2 : Int)) ∧ TU y = up3 (moC w) (TU z)) ∧ (1 : Nat) < (2 : Nat) ∧ True)) := by kernel_rfl
theorem mu_r3 (E : World) (S : SW) (z : PX) (w : Int) (y : PX) :
    (loopP (pe E) Try.f16 (endP false uMs S (.t []) (fun z y => (U4.mk (Ch.mk (y.n 1) (y.n 2) (y.n 3) (y.n 4) (y.n 5) (y.n 6) (y.n 7) (y.b 8) (y.b 9) (y.n 10)) (Ch.mk (y.n 12) (y.n 13) (y.n 14) (y.n 15) (y.n 16) (y.n 17) (y.n 18) (y.b 19) (y.b 20) (y.n 21)) (Ch.mk (y.n 23) (y.n 24) (y.n 25) (y.n 26) (y.n 27) (y.n 28) (y.n 29) (y.b 30) (y.b 31) (y.n 32)) (Ch.mk (y.n 34) (y.n 35) (y.n 36) (y.n 37) (y.n 38) (y.n 39) (y.n 40) (y.b 41) (y.b 42) (y.n 43))) = up4 (moC w) (U4.mk (Ch.mk (z.n 1) (z.n 2) (z.n 3) (z.n 4) (z.n 5) (z.n 6) (z.n 7) (z.b 8) (z.b 9) (z.n 10)) (Ch.mk (z.n 12) (z.n 13) (z.n 14) (z.n 15) (z.n 16) (z.n 17) (z.n 18) (z.b 19) (z.b 20) (z.n 21)) (Ch.mk (z.n 23) (z.n 24) (z.n 25) (z.n 26) (z.n 27) (z.n 28) (z.n 29) (z.b 30) (z.b 31) (z.n 32)) (Ch.mk (z.n 34) (z.n 35) (z.n 36) (z.n 37) (z.n 38) (z.n 39) (z.n 40) (z.b 41) (z.b 42) (z.n 43)))) z) (headP false S Try.f16.ntmps (some ((fun _ => 1) y)) (mu_hs E S z w))  (run (pe E) (orcA E) (tabL fns) 20000 (2 ^ 200 - 1) (mu_td E) (mkL Try.f16.ntmps (slC y [(0, .c (.p 0 0)), (1, .i .i64), (16, .c (.i true .i64 3))])) (mkM y S uMs 0))) =
    (((wo (y.n 37)) = true → ((w3 (y.n 37) 4096 == y.n 91001) = true → mu_td E = mu_td E ∧ (36 : Nat) = (36 : Nat) ∧ (True ∧ True ∧ True ∧ True) ∧ ((62 : Nat) = (62 : Nat) ∧
      (RGu y) ∧ S = S) ∧ (y.n 91001 = w ∧ (w = (1 : Int) ∨ w = (2 : Int)) ∧ U4.mk (cu0 y) (cu1 y) (cu2 y) (Ch.mk (y.n 34) (y.n 35) (y.n 36) (y.n 37) (y.n 38) (y.n 39) (y.n 40)
      true (y.b 42) (y.n 43)) = up4 (moC w) (TU z)) ∧ (0 : Nat) < (1 : Nat) ∧ True) ∧ ((w3 (y.n 37) 4096 == y.n 91001) = false → mu_td E = mu_td E ∧ (36 : Nat) = (36 : Nat) ∧
      (True ∧ True ∧ True ∧ True) ∧ ((62 : Nat) = (62 : Nat) ∧ (RGu y) ∧ S = S) ∧ (y.n 91001 = w ∧ (w = (1 : Int) ∨ w = (2 : Int)) ∧ TU y = up4 (moC w) (TU z)) ∧ (0 : Nat) < (1
      : Nat) ∧ True)) ∧ ((wo (y.n 37)) = false → mu_td E = mu_td E ∧ (36 : Nat) = (36 : Nat) ∧ (True ∧ True ∧ True ∧ True) ∧ ((62 : Nat) = (62 : Nat) ∧ (RGu y) ∧ S = S) ∧ (y.n
      91001 = w ∧ (w = (1 : Int) ∨ w = (2 : Int)) ∧ TU y = up4 (moC w) (TU z)) ∧ (0 : Nat) < (1 : Nat) ∧ True)) := by kernel_rfl
theorem mu_r4 (E : World) (S : SW) (z : PX) (w : Int) (y : PX) :
    (loopP (pe E) Try.f16 (endP false uMs S (.t []) (fun z y => (U4.mk (Ch.mk (y.n 1) (y.n 2) (y.n 3) (y.n 4) (y.n 5) (y.n 6) (y.n 7) (y.b 8) (y.b 9) (y.n 10)) (Ch.mk (y.n 12) (y.n 13) (y.n 14) (y.n 15) (y.n 16) (y.n 17) (y.n 18) (y.b 19) (y.b 20) (y.n 21)) (Ch.mk (y.n 23) (y.n 24) (y.n 25) (y.n 26) (y.n 27) (y.n 28) (y.n 29) (y.b 30) (y.b 31) (y.n 32)) (Ch.mk (y.n 34) (y.n 35) (y.n 36) (y.n 37) (y.n 38) (y.n 39) (y.n 40) (y.b 41) (y.b 42) (y.n 43))) = up4 (moC w) (U4.mk (Ch.mk (z.n 1) (z.n 2) (z.n 3) (z.n 4) (z.n 5) (z.n 6) (z.n 7) (z.b 8) (z.b 9) (z.n 10)) (Ch.mk (z.n 12) (z.n 13) (z.n 14) (z.n 15) (z.n 16) (z.n 17) (z.n 18) (z.b 19) (z.b 20) (z.n 21)) (Ch.mk (z.n 23) (z.n 24) (z.n 25) (z.n 26) (z.n 27) (z.n 28) (z.n 29) (z.b 30) (z.b 31) (z.n 32)) (Ch.mk (z.n 34) (z.n 35) (z.n 36) (z.n 37) (z.n 38) (z.n 39) (z.n 40) (z.b 41) (z.b 42) (z.n 43)))) z) (headP false S Try.f16.ntmps (some ((fun _ => 0) y)) (mu_hs E S z w))  (run (pe E) (orcA E) (tabL fns) 20000 (2 ^ 200 - 1) (mu_td E) (mkL Try.f16.ntmps (slC y [(0, .c (.p 0 0)), (1, .i .i64), (16, .c (.i true .i64 4))])) (mkM y S uMs 0))) =
    (True ∧ ((62 : Nat) = (62 : Nat) ∧ (RGu y) ∧ S = S) ∧ TU y = up4 (moC w) (TU z)) := by kernel_rfl
set_option maxHeartbeats 8000000 in
theorem mu_c (E : World) (S : SW) (w : Int) (z : PX) (hz : rgM z uMs 0) (hp : (fun _ => True) z) : HC (pe E) 16 [.c (.p 0 0), .c (.i false .i64 w)] uMs S (.t []) (fun z y => (U4.mk (Ch.mk (y.n 1) (y.n 2) (y.n 3) (y.n 4) (y.n 5) (y.n 6) (y.n 7) (y.b 8) (y.b 9) (y.n 10)) (Ch.mk (y.n 12) (y.n 13) (y.n 14) (y.n 15) (y.n 16) (y.n 17) (y.n 18) (y.b 19) (y.b 20) (y.n 21)) (Ch.mk (y.n 23) (y.n 24) (y.n 25) (y.n 26) (y.n 27) (y.n 28) (y.n 29) (y.b 30) (y.b 31) (y.n 32)) (Ch.mk (y.n 34) (y.n 35) (y.n 36) (y.n 37) (y.n 38) (y.n 39) (y.n 40) (y.b 41) (y.b 42) (y.n 43))) = up4 (moC w) (U4.mk (Ch.mk (z.n 1) (z.n 2) (z.n 3) (z.n 4) (z.n 5) (z.n 6) (z.n 7) (z.b 8) (z.b 9) (z.n 10)) (Ch.mk (z.n 12) (z.n 13) (z.n 14) (z.n 15) (z.n 16) (z.n 17) (z.n 18) (z.b 19) (z.b 20) (z.n 21)) (Ch.mk (z.n 23) (z.n 24) (z.n 25) (z.n 26) (z.n 27) (z.n 28) (z.n 29) (z.b 30) (z.b 31) (z.n 32)) (Ch.mk (z.n 34) (z.n 35) (z.n 36) (z.n 37) (z.n 38) (z.n 39) (z.n 40) (z.b 41) (z.b 42) (z.n 43)))) z := by
  refine HC.loop (P := pe E) orcA_ok tab_ok tab_sz mixed Try.func16 (c := Try.f16.body.getD .skip) rfl (by decide) (Nat.le_of_ble_eq_true rfl) false (by rfl) (by rfl) (by rfl) (by rfl) 20000 (2 ^ 200 - 1) (mu_hs E S z w) (by rfl) ?_ (loopP_lfH ⟨?_⟩) ?_
  · intro h hmem
    simp only [mu_hs, List.mem_cons, List.not_mem_nil, or_false] at hmem
    rcases hmem with hmem | hmem | hmem | hmem | hmem
    all_goals (subst hmem; exact ⟨by rfl, Nat.le_of_ble_eq_true rfl, fun y hk => okSW_M (by rfl) hk⟩)
  · rw [mu_pro]
    obtain ⟨h1, h2, h3, h4, h5, h6, h10, h12, h13, h14, h15, h16, h17, h21, h23, h24, h25, h26, h27, h28, h32, h34, h35, h36, h37, h38, h39, h43, _⟩ := rg_u hz
    have hz4 : w ≠ 1 → w ≠ 2 → (TU z) = up4 (moC w) (TU z) := fun a b => by
      have hm : ∀ i c, moC w i c = c := fun i c => by unfold moC; rw [if_neg (by simp [a, b])]
      simp only [up4, hm]
    refine ⟨fun a => ⟨fun b => ?_, fun b => ?_⟩, fun a => ?_⟩
    · have hz4 := hz4 (by simpa using a) (by simpa using b)
      (repeat' (first | exact trivial | with_reducible rfl | assumption | apply And.intro)) <;> omega
    · have hw : w = 1 ∨ w = 2 := .inr (by simpa using b)
      have hz0 : (TU z) = up0 (moC w) (TU z) := rfl
      (repeat' (first | exact trivial | with_reducible rfl | assumption | apply And.intro)) <;> omega
    · have hw : w = 1 ∨ w = 2 := .inl (by simpa using a)
      have hz0 : (TU z) = up0 (moC w) (TU z) := rfl
      (repeat' (first | exact trivial | with_reducible rfl | assumption | apply And.intro)) <;> omega
  · intro h hmem y hy1 hy2 hy3
    simp only [mu_hs, List.mem_cons, List.not_mem_nil, or_false] at hmem
    rcases hmem with hmem | hmem | hmem | hmem | hmem
    · have e1 : h.td = (mu_td E) := by rw [hmem]
      have e2 : h.fs = [(0, .c (.p 0 0)), (1, .i .i64), (16, .c (.i true .i64 0))] := by rw [hmem]
      have e3 : h.ms = uMs := by rw [hmem]
      have e4 : h.mu = (fun _ => 4) := by rw [hmem]
      rw [e3] at hy1
      rw [e2] at hy2
      replace hy3 : (fun y => y.n 91001 = w ∧ (w = 1 ∨ w = 2) ∧ (TU y) = up0 (moC w) (TU z)) y := by rw [hmem] at hy3; exact hy3
      rw [e1, e2, e3, e4]
      refine loopP_lfH ⟨?_⟩
      rw [mu_r0]
      clear e1 e2 e3 e4 hmem
      have hf : True ∧ True ∧ True ∧ True := hy2
      obtain ⟨_, _, _, _⟩ := hf
      obtain ⟨h1, h2, h3, h4, h5, h6, h10, h12, h13, h14, h15, h16, h17, h21, h23, h24, h25, h26, h27, h28, h32, h34, h35, h36, h37, h38, h39, h43, _⟩ := rg_u hy1
      obtain ⟨e1, hw, hq⟩ := hy3
      replace hq : (TU y) = up0 (moC w) (TU z) := hq
      have hs : ap0 (moC w) (TU y) = up1 (moC w) (TU z) := by rw [hq]; rfl
      have o1 := and15 _ h4.1 h4.2
      have o2 := tmu (y.n 4)
      rw [← hs]
      simp only [fw, lw, vsr, px, w3, wo, ro, r3, o1, o2]
      clear o1 o2 hs hq
      subst e1
      (repeat' (first | exact trivial | with_reducible rfl | assumption | apply And.intro | intro h)) <;> first | omega | (simp_all [ap0, ap1, ap2, ap3, moC, huC, fds, TU, TR, cu0, cu1, cu2, cu3, cr0, cr1, cr2, cr3]; done)
    · have e1 : h.td = (mu_td E) := by rw [hmem]
      have e2 : h.fs = [(0, .c (.p 0 0)), (1, .i .i64), (16, .c (.i true .i64 1))] := by rw [hmem]
      have e3 : h.ms = uMs := by rw [hmem]
      have e4 : h.mu = (fun _ => 3) := by rw [hmem]
      rw [e3] at hy1
      rw [e2] at hy2
      replace hy3 : (fun y => y.n 91001 = w ∧ (w = 1 ∨ w = 2) ∧ (TU y) = up1 (moC w) (TU z)) y := by rw [hmem] at hy3; exact hy3
      rw [e1, e2, e3, e4]
      refine loopP_lfH ⟨?_⟩
      rw [mu_r1]
      clear e1 e2 e3 e4 hmem
      have hf : True ∧ True ∧ True ∧ True := hy2
      obtain ⟨_, _, _, _⟩ := hf
      obtain ⟨h1, h2, h3, h4, h5, h6, h10, h12, h13, h14, h15, h16, h17, h21, h23, h24, h25, h26, h27, h28, h32, h34, h35, h36, h37, h38, h39, h43, _⟩ := rg_u hy1
      obtain ⟨e1, hw, hq⟩ := hy3
      replace hq : (TU y) = up1 (moC w) (TU z) := hq
      have hs : ap1 (moC w) (TU y) = up2 (moC w) (TU z) := by rw [hq]; rfl
      have o1 := and15 _ h15.1 h15.2
      have o2 := tmu (y.n 15)
      rw [← hs]
      simp only [fw, lw, vsr, px, w3, wo, ro, r3, o1, o2]
      clear o1 o2 hs hq
      subst e1
      (repeat' (first | exact trivial | with_reducible rfl | assumption | apply And.intro | intro h)) <;> first | omega | (simp_all [ap0, ap1, ap2, ap3, moC, huC, fds, TU, TR, cu0, cu1, cu2, cu3, cr0, cr1, cr2, cr3]; done)
    · have e1 : h.td = (mu_td E) := by rw [hmem]
      have e2 : h.fs = [(0, .c (.p 0 0)), (1, .i .i64), (16, .c (.i true .i64 2))] := by rw [hmem]
      have e3 : h.ms = uMs := by rw [hmem]
      have e4 : h.mu = (fun _ => 2) := by rw [hmem]
      rw [e3] at hy1
      rw [e2] at hy2
      replace hy3 : (fun y => y.n 91001 = w ∧ (w = 1 ∨ w = 2) ∧ (TU y) = up2 (moC w) (TU z)) y := by rw [hmem] at hy3; exact hy3
      rw [e1, e2, e3, e4]
      refine loopP_lfH ⟨?_⟩
      rw [mu_r2]
      clear e1 e2 e3 e4 hmem
      have hf : True ∧ True ∧ True ∧ True := hy2
      obtain ⟨_, _, _, _⟩ := hf
      obtain ⟨h1, h2, h3, h4, h5, h6, h10, h12, h13, h14, h15, h16, h17, h21, h23, h24, h25, h26, h27, h28, h32, h34, h35, h36, h37, h38, h39, h43, _⟩ := rg_u hy1
      obtain ⟨e1, hw, hq⟩ := hy3
      replace hq : (TU y) = up2 (moC w) (TU z) := hq
      have hs : ap2 (moC w) (TU y) = up3 (moC w) (TU z) := by rw [hq]; rfl
      have o1 := and15 _ h26.1 h26.2
      have o2 := tmu (y.n 26)
      rw [← hs]
      simp only [fw, lw, vsr, px, w3, wo, ro, r3, o1, o2]
      clear o1 o2 hs hq
      subst e1
      (repeat' (first | exact trivial | with_reducible rfl | assumption | apply And.intro | intro h)) <;> first | omega | (simp_all [ap0, ap1, ap2, ap3, moC, huC, fds, TU, TR, cu0, cu1, cu2, cu3, cr0, cr1, cr2, cr3]; done)
    · have e1 : h.td = (mu_td E) := by rw [hmem]
      have e2 : h.fs = [(0, .c (.p 0 0)), (1, .i .i64), (16, .c (.i true .i64 3))] := by rw [hmem]
      have e3 : h.ms = uMs := by rw [hmem]
      have e4 : h.mu = (fun _ => 1) := by rw [hmem]
      rw [e3] at hy1
      rw [e2] at hy2
      replace hy3 : (fun y => y.n 91001 = w ∧ (w = 1 ∨ w = 2) ∧ (TU y) = up3 (moC w) (TU z)) y := by rw [hmem] at hy3; exact hy3
      rw [e1, e2, e3, e4]
      refine loopP_lfH ⟨?_⟩
      rw [mu_r3]
      clear e1 e2 e3 e4 hmem
      have hf : True ∧ True ∧ True ∧ True := hy2
      obtain ⟨_, _, _, _⟩ := hf
      obtain ⟨h1, h2, h3, h4, h5, h6, h10, h12, h13, h14, h15, h16, h17, h21, h23, h24, h25, h26, h27, h28, h32, h34, h35, h36, h37, h38, h39, h43, _⟩ := rg_u hy1
      obtain ⟨e1, hw, hq⟩ := hy3
      replace hq : (TU y) = up3 (moC w) (TU z) := hq
      have hs : ap3 (moC w) (TU y) = up4 (moC w) (TU z) := by rw [hq]; rfl
      have o1 := and15 _ h37.1 h37.2
      have o2 := tmu (y.n 37)
      rw [← hs]
      simp only [fw, lw, vsr, px, w3, wo, ro, r3, o1, o2]
      clear o1 o2 hs hq
      subst e1
      (repeat' (first | exact trivial | with_reducible rfl | assumption | apply And.intro | intro h)) <;> first | omega | (simp_all [ap0, ap1, ap2, ap3, moC, huC, fds, TU, TR, cu0, cu1, cu2, cu3, cr0, cr1, cr2, cr3]; done)
    · have e1 : h.td = (mu_td E) := by rw [hmem]
      have e2 : h.fs = [(0, .c (.p 0 0)), (1, .i .i64), (16, .c (.i true .i64 4))] := by rw [hmem]
      have e3 : h.ms = uMs := by rw [hmem]
      have e4 : h.mu = (fun _ => 0) := by rw [hmem]
      rw [e3] at hy1
      rw [e2] at hy2
      replace hy3 : (fun y => y.n 91001 = w ∧ (w = 1 ∨ w = 2) ∧ (TU y) = up4 (moC w) (TU z)) y := by rw [hmem] at hy3; exact hy3
      rw [e1, e2, e3, e4]
      refine loopP_lfH ⟨?_⟩
      rw [mu_r4]
      clear e1 e2 e3 e4 hmem
      have hf : True ∧ True ∧ True ∧ True := hy2
      obtain ⟨_, _, _, _⟩ := hf
      obtain ⟨h1, h2, h3, h4, h5, h6, h10, h12, h13, h14, h15, h16, h17, h21, h23, h24, h25, h26, h27, h28, h32, h34, h35, h36, h37, h38, h39, h43, _⟩ := rg_u hy1
      obtain ⟨e1, hw, hq⟩ := hy3
      replace hq : (TU y) = up4 (moC w) (TU z) := hq
      (repeat' (first | exact trivial | with_reducible rfl | assumption | apply And.intro)) <;> omega
noncomputable def hu_td (E : World) : List Item := headOf (run (pe E) (orcA E) (tabL fns) 20000 (2 ^ 200 - 1) [.code (Try.f17.body.getD .skip)] ⟨Try.f17.ntmps, mkFrGo (Tr.mk 12) 0 [.c (.p 0 0), .c (.i true .u32 5)]⟩ (mkM default [] uMs 0))
noncomputable def hu_hs (E : World) (S : SW) (z : PX) (w : Int) : List Head := [⟨3, (litK 8 0), (hu_td E), [(0, .c (.p 0 0)), (1, .i .u32), (8, .c (.i true .i64 0))], uMs, fun y => y.n 91001 = w ∧ (U4.mk (Ch.mk (y.n 1) (y.n 2) (y.n 3) (y.n 4) (y.n 5) (y.n 6) (y.n 7) (y.b 8) (y.b 9) (y.n 10)) (Ch.mk (y.n 12) (y.n 13) (y.n 14) (y.n 15) (y.n 16) (y.n 17) (y.n 18) (y.b 19) (y.b 20) (y.n 21)) (Ch.mk (y.n 23) (y.n 24) (y.n 25) (y.n 26) (y.n 27) (y.n 28) (y.n 29) (y.b 30) (y.b 31) (y.n 32)) (Ch.mk (y.n 34) (y.n 35) (y.n 36) (y.n 37) (y.n 38) (y.n 39) (y.n 40) (y.b 41) (y.b 42) (y.n 43))) = up0 (huC w) (TU z), fun _ => 4⟩, ⟨3, (litK 8 1), (hu_td E), [(0, .c (.p 0 0)), (1, .i .u32), (8, .c (.i true .i64 1))], uMs, fun y => y.n 91001 = w ∧ (U4.mk (Ch.mk (y.n 1) (y.n 2) (y.n 3) (y.n 4) (y.n 5) (y.n 6) (y.n 7) (y.b 8) (y.b 9) (y.n 10)) (Ch.mk (y.n 12) (y.n 13) (y.n 14) (y.n 15) (y.n 16) (y.n 17) (y.n 18) (y.b 19) (y.b 20) (y.n 21)) (Ch.mk (y.n 23) (y.n 24) (y.n 25) (y.n 26) (y.n 27) (y.n 28) (y.n 29) (y.b 30) (y.b 31) (y.n 32)) (Ch.mk (y.n 34) (y.n 35) (y.n 36) (y.n 37) (y.n 38) (y.n 39) (y.n 40) (y.b 41) (y.b 42) (y.n 43))) = up1 (huC w) (TU z), fun _ => 3⟩, ⟨3, (litK 8 2), (hu_td E), [(0, .c (.p 0 0)), (1, .i .u32), (8, .c (.i true .i64 2))], uMs, fun y => y.n 91001 = w ∧ (U4.mk (Ch.mk (y.n 1) (y.n 2) (y.n 3) (y.n 4) (y.n 5) (y.n 6) (y.n 7) (y.b 8) (y.b 9) (y.n 10)) (Ch.mk (y.n 12) (y.n 13) (y.n 14) (y.n 15) (y.n 16) (y.n 17) (y.n 18) (y.b 19) (y.b 20) (y.n 21)) (Ch.mk (y.n 23) (y.n 24) (y.n 25) (y.n 26) (y.n 27) (y.n 28) (y.n 29) (y.b 30) (y.b 31) (y.n 32)) (Ch.mk (y.n 34) (y.n 35) (y.n 36) (y.n 37) (y.n 38) (y.n 39) (y.n 40) (y.b 41) (y.b 42) (y.n 43))) = up2 (huC w) (TU z), fun _ => 2⟩, ⟨3, (litK 8 3), (hu_td E), [(0, .c (.p 0 0)), (1, .i .u32), (8, .c (.i true .i64 3))], uMs, fun y => y.n 91001 = w ∧ (U4.mk (Ch.mk (y.n 1) (y.n 2) (y.n 3) (y.n 4) (y.n 5) (y.n 6) (y.n 7) (y.b 8) (y.b 9) (y.n 10)) (Ch.mk (y.n 12) (y.n 13) (y.n 14) (y.n 15) (y.n 16) (y.n 17) (y.n 18) (y.b 19) (y.b 20) (y.n 21)) (Ch.mk (y.n 23) (y.n 24) (y.n 25) (y.n 26) (y.n 27) (y.n 28) (y.n 29) (y.b 30) (y.b 31) (y.n 32)) (Ch.mk (y.n 34) (y.n 35) (y.n 36) (y.n 37) (y.n 38) (y.n 39) (y.n 40) (y.b 41) (y.b 42) (y.n 43))) = up3 (huC w) (TU z), fun _ => 1⟩, ⟨3, (litK 8 4), (hu_td E), [(0, .c (.p 0 0)), (1, .i .u32), (8, .c (.i true .i64 4))], uMs, fun y => y.n 91001 = w ∧ (U4.mk (Ch.mk (y.n 1) (y.n 2) (y.n 3) (y.n 4) (y.n 5) (y.n 6) (y.n 7) (y.b 8) (y.b 9) (y.n 10)) (Ch.mk (y.n 12) (y.n 13) (y.n 14) (y.n 15) (y.n 16) (y.n 17) (y.n 18) (y.b 19) (y.b 20) (y.n 21)) (Ch.mk (y.n 23) (y.n 24) (y.n 25) (y.n 26) (y.n 27) (y.n 28) (y.n 29) (y.b 30) (y.b 31) (y.n 32)) (Ch.mk (y.n 34) (y.n 35) (y.n 36) (y.n 37) (y.n 38) (y.n 39) (y.n 40) (y.b 41) (y.b 42) (y.n 43))) = up4 (huC w) (TU z), fun _ => 0⟩]
theorem hu_pro (E : World) (S : SW) (z : PX) (w : Int) :
    (loopP (pe E) Try.f17 (endP false uMs S (.t []) (fun z y => (U4.mk (Ch.mk (y.n 1) (y.n 2) (y.n 3) (y.n 4) (y.n 5) (y.n 6) (y.n 7) (y.b 8) (y.b 9) (y.n 10)) (Ch.mk (y.n 12) (y.n 13) (y.n 14) (y.n 15) (y.n 16) (y.n 17) (y.n 18) (y.b 19) (y.b 20) (y.n 21)) (Ch.mk (y.n 23) (y.n 24) (y.n 25) (y.n 26) (y.n 27) (y.n 28) (y.n 29) (y.b 30) (y.b 31) (y.n 32)) (Ch.mk (y.n 34) (y.n 35) (y.n 36) (y.n 37) (y.n 38) (y.n 39) (y.n 40) (y.b 41) (y.b 42) (y.n 43))) = up4 (huC w) (U4.mk (Ch.mk (z.n 1) (z.n 2) (z.n 3) (z.n 4) (z.n 5) (z.n 6) (z.n 7) (z.b 8) (z.b 9) (z.n 10)) (Ch.mk (z.n 12) (z.n 13) (z.n 14) (z.n 15) (z.n 16) (z.n 17) (z.n 18) (z.b 19) (z.b 20) (z.n 21)) (Ch.mk (z.n 23) (z.n 24) (z.n 25) (z.n 26) (z.n 27) (z.n 28) (z.n 29) (z.b 30) (z.b 31) (z.n 32)) (Ch.mk (z.n 34) (z.n 35) (z.n 36) (z.n 37) (z.n 38) (z.n 39) (z.n 40) (z.b 41) (z.b 42) (z.n 43)))) z) (headP false S Try.f17.ntmps none (hu_hs E S z w)) (run (pe E) (orcA E) (tabL fns) 20000 (2 ^ 200 - 1) [.code (Try.f17.body.getD .skip)] ⟨Try.f17.ntmps, mkFrGo (Tr.mk 12) 0 [.c (.p 0 0), .c (.i false .u32 w)]⟩ (mkM z S uMs 0))) =
    (hu_td E = hu_td E ∧ (30 : Nat) = (30 : Nat) ∧ (True ∧ True ∧ True ∧ True) ∧ ((62 : Nat) = (62 : Nat) ∧ (RGu z) ∧ S = S) ∧ (w = w ∧ TU z = up0 (huC w) (TU z)) ∧ True) := by kernel_rfl
theorem hu_r0 (E : World) (S : SW) (z : PX) (w : Int) (y : PX) :
    (loopP (pe E) Try.f17 (endP false uMs S (.t []) (fun z y => (U4.mk (Ch.mk (y.n 1) (y.n 2) (y.n 3) (y.n 4) (y.n 5) (y.n 6) (y.n 7) (y.b 8) (y.b 9) (y.n 10)) (Ch.mk (y.n 12) (y.n 13) (y.n 14) (y.n 15) (y.n 16) (y.n 17) (y.n 18) (y.b 19) (y.b 20) (y.n 21)) (Ch.mk (y.n 23) (y.n 24) (y.n 25) (y.n 26) (y.n 27) (y.n 28) (y.n 29) (y.b 30) (y.b 31) (y.n 32)) (Ch.mk (y.n 34) (y.n 35) (y.n 36) (y.n 37) (y.n 38) (y.n 39) (y.n 40) (y.b 41) (y.b 42) (y.n 43))) = up4 (huC w) (U4.mk (Ch.mk (z.n 1) (z.n 2) (z.n 3) (z.n 4) (z.n 5) (z.n 6) (z.n 7) (z.b 8) (z.b 9) (z.n 10)) (Ch.mk (z.n 12) (z.n 13) (z.n 14) (z.n 15) (z.n 16) (z.n 17) (z.n 18) (z.b 19) (z.b 20) (z.n 21)) (Ch.mk (z.n 23) (z.n 24) (z.n 25) (z.n 26) (z.n 27) (z.n 28) (z.n 29) (z.b 30) (z.b 31) (z.n 32)) (Ch.mk (z.n 34) (z.n 35) (z.n 36) (z.n 37) (z.n 38) (z.n 39) (z.n 40) (z.b 41) (z.b 42) (z.n 43)))) z) (headP false S Try.f17.ntmps (some ((fun _ => 4) y)) (hu_hs E S z w))  (run (pe E) (orcA E) (tabL fns) 20000 (2 ^ 200 - 1) (hu_td E) (mkL Try.f17.ntmps (slC y [(0, .c (.p 0 0)), (1, .i .u32), (8, .c (.i true .i64 0))])) (mkM y S uMs 0))) =
    (((wo (y.n 4)) = true → ((w3 (y.n 4) 4096 == (3 : Int)) = true → hu_td E = hu_td E ∧ (30 : Nat) = (30 : Nat) ∧ (True ∧ True ∧ True ∧ True) ∧ ((62 : Nat) = (62 : Nat) ∧ (RGu
      y) ∧ S = S) ∧ (y.n 91001 = w ∧ TU y = up1 (huC w) (TU z)) ∧ (3 : Nat) < (4 : Nat) ∧ True) ∧ ((w3 (y.n 4) 4096 == (3 : Int)) = false → hu_td E = hu_td E ∧ (30 : Nat) = (30
      : Nat) ∧ (True ∧ True ∧ True ∧ True) ∧ ((62 : Nat) = (62 : Nat) ∧ (RGu y) ∧ S = S) ∧ (y.n 91001 = w ∧ TU y = up1 (huC w) (TU z)) ∧ (3 : Nat) < (4 : Nat) ∧ True)) ∧ ((wo
      (y.n 4)) = false → hu_td E = hu_td E ∧ (30 : Nat) = (30 : Nat) ∧ (True ∧ True ∧ True ∧ True) ∧ ((62 : Nat) = (62 : Nat) ∧ (RGu y) ∧ S = S) ∧ (y.n 91001 = w ∧ TU y = up1
      (huC w) (TU z)) ∧ (3 : Nat) < (4 : Nat) ∧ True)) := by kernel_rfl
theorem hu_r1 (E : World) (S : SW) (z : PX) (w : Int) (y : PX) :
    (loopP (pe E) Try.f17 (endP false uMs S (.t []) (fun z y => (U4.mk (Ch.mk (y.n 1) (y.n 2) (y.n 3) (y.n 4) (y.n 5) (y.n 6) (y.n 7) (y.b 8) (y.b 9) (y.n 10)) (Ch.mk (y.n 12) (y.n 13) (y.n 14) (y.n 15) (y.n 16) (y.n 17) (y.n 18) (y.b 19) (y.b 20) (y.n 21)) (Ch.mk (y.n 23) (y.n 24) (y.n 25) (y.n 26) (y.n 27) (y.n 28) (y.n 29) (y.b 30) (y.b 31) (y.n 32)) (Ch.mk (y.n 34) (y.n 35) (y.n 36) (y.n 37) (y.n 38) (y.n 39) (y.n 40) (y.b 41) (y.b 42) (y.n 43))) = up4 (huC w) (U4.mk (Ch.mk (z.n 1) (z.n 2) (z.n 3) (z.n 4) (z.n 5) (z.n 6) (z.n 7) (z.b 8) (z.b 9) (z.n 10)) (Ch.mk (z.n 12) (z.n 13) (z.n 14) (z.n 15) (z.n 16) (z.n 17) (z.n 18) (z.b 19) (z.b 20) (z.n 21)) (Ch.mk (z.n 23) (z.n 24) (z.n 25) (z.n 26) (z.n 27) (z.n 28) (z.n 29) (z.b 30) (z.b 31) (z.n 32)) (Ch.mk (z.n 34) (z.n 35) (z.n 36) (z.n 37) (z.n 38) (z.n 39) (z.n 40) (z.b 41) (z.b 42) (z.n 43)))) z) (headP false S Try.f17.ntmps (some ((fun _ => 3) y)) (hu_hs E S z w))  (run (pe E) (orcA E) (tabL fns) 20000 (2 ^ 200 - 1) (hu_td E) (mkL Try.f17.ntmps (slC y [(0, .c (.p 0 0)), (1, .i .u32), (8, .c (.i true .i64 1))])) (mkM y S uMs 0))) =
    (((wo (y.n 15)) = true → ((w3 (y.n 15) 4096 == (3 : Int)) = true → ((y.n 17 == y.n 91001) = true → hu_td E = hu_td E ∧ (30 : Nat) = (30 : Nat) ∧ (True ∧ True ∧ True ∧ True)
      ∧ ((62 : Nat) = (62 : Nat) ∧ (RGu y) ∧ S = S) ∧ (y.n 91001 = w ∧ U4.mk (cu0 y) (Ch.mk (y.n 12) (y.n 13) (y.n 14) (y.n 15) (y.n 16) (y.n 17) (y.n 18) true (y.b 20) (y.n
      21)) (cu2 y) (cu3 y) = up2 (huC w) (TU z)) ∧ (2 : Nat) < (3 : Nat) ∧ True) ∧ ((y.n 17 == y.n 91001) = false → hu_td E = hu_td E ∧ (30 : Nat) = (30 : Nat) ∧ (True ∧ True ∧
      True ∧ True) ∧ ((62 : Nat) = (62 : Nat) ∧ (RGu y) ∧ S = S) ∧ (y.n 91001 = w ∧ TU y = up2 (huC w) (TU z)) ∧ (2 : Nat) < (3 : Nat) ∧ True)) ∧ ((w3 (y.n 15) 4096 == (3 :
      Int)) = false → hu_td E = hu_td E ∧ (30 : Nat) = (30 : Nat) ∧ (True ∧ True ∧ True ∧ True) ∧ ((62 : Nat) = (62 : Nat) ∧ (RGu y) ∧ S = S) ∧ (y.n 91001 = w ∧ TU y = up2 (huC
      w) (TU z)) ∧ (2 : Nat) < (3 : Nat) ∧ True)) ∧ ((wo (y.n 15)) = false → hu_td E = hu_td E ∧ (30 : Nat) = (30 : Nat) ∧ (True ∧ True ∧ True ∧ True) ∧ ((62 : Nat) = (62 : Nat)
      ∧ (RGu y) ∧ S = S) ∧ (y.n 91001 = w ∧ TU y = up2 (huC w) (TU z)) ∧ (2 : Nat) < (3 : Nat) ∧ True)) := by kernel_rfl
theorem hu_r2 (E : World) (S : SW) (z : PX) (w : Int) (y : PX) :
    (loopP (pe E) Try.f17 (endP false uMs S (.t []) (fun z y => (U4.mk (Ch.mk (y.n 1) (y.n 2) (y.n 3) (y.n 4) (y.n 5) (y.n 6) (y.n 7) (y.b 8) (y.b 9) (y.n 10)) (Ch.mk (y.n 12) (y.n 13) (y.n 14) (y.n 15) (y.n 16) (y.n 17) (y.n 18) (y.b 19) (y.b 20) (y.n 21)) (Ch.mk (y.n 23) (y.n 24) (y.n 25) (y.n 26) (y.n 27) (y.n 28) (y.n 29) (y.b 30) (y.b 31) (y.n 32)) (Ch.mk (y.n 34) (y.n 35) (y.n 36) (y.n 37) (y.n 38) (y.n 39) (y.n 40) (y.b 41) (y.b 42) (y.n 43))) = up4 (huC w) (U4.mk (Ch.mk (z.n 1) (z.n 2) (z.n 3) (z.n 4) (z.n 5) (z.n 6) (z.n 7) (z.b 8) (z.b 9) (z.n 10)) (Ch.mk (z.n 12) (z.n 13) (z.n 14) (z.n 15) (z.n 16) (z.n 17) (z.n 18) (z.b 19) (z.b 20) (z.n 21)) (Ch.mk (z.n 23) (z.n 24) (z.n 25) (z.n 26) (z.n 27) (z.n 28) (z.n 29) (z.b 30) (z.b 31) (z.n 32)) (Ch.mk (z.n 34) (z.n 35) (z.n 36) (z.n 37) (z.n 38) (z.n 39) (z.n 40) (z.b 41) (z.b 42) (z.n 43)))) z) (headP false S Try.f17.ntmps (some ((fun _ => 2) y)) (hu_hs E S z w))  (run (pe E) (orcA E) (tabL fns) 20000 (2 ^ 200 - 1) (hu_td E) (mkL Try.f17.ntmps (slC y [(0, .c (.p 0 0)), (1, .i .u32), (8, .c (.i true .i64 2))])) (mkM y S uMs 0))) =
    (((wo (y.n 26)) = true → ((w3 (y.n 26) 4096 == (3 : Int)) = true → ((y.n 28 == y.n 91001) = true → hu_td E = hu_td E ∧ (30 : Nat) = (30 : Nat) ∧ (True ∧ True ∧ True ∧ True)
      ∧ ((62 : Nat) = (62 : Nat) ∧ (RGu y) ∧ S = S) ∧ (y.n 91001 = w ∧ U4.mk (cu0 y) (cu1 y) (Ch.mk (y.n 23) (y.n 24) (y.n 25) (y.n 26) (y.n 27) (y.n 28) (y.n 29) true (y.b 31)
      (y.n 32)) (cu3 y) = up3 (huC w) (TU z)) ∧ (1 : Nat) < (2 : Nat) ∧ True) ∧ ((y.n 28 == y.n 91001) = false → hu_td E = hu_td E ∧ (30 : Nat) = (30 : Nat) ∧ (True ∧ True ∧
      True ∧ True) ∧ ((62 : Nat) = (62 : Nat) ∧ (RGu y) ∧ S = S) ∧ (y.n 91001 = w ∧ TU y = up3 (huC w) (TU z)) ∧ (1 : Nat) < (2 : Nat) ∧ True)) ∧ ((w3 (y.n 26) 4096 == (3 :
      Int)) = false → hu_td E = hu_td E ∧ (30 : Nat) = (30 : Nat) ∧ (True ∧ True ∧ True ∧ True) ∧ ((62 : Nat) = (62 : Nat) ∧ (RGu y) ∧ S = S) ∧ (y.n 91001 = w ∧ TU y = up3 (huC
      w) (TU z)) ∧ (1 : Nat) < (2 : Nat) ∧ True)) ∧ ((wo (y.n 26)) = false → hu_td E = hu_td E ∧ (30 : Nat) = (30 : Nat) ∧ (True ∧ True ∧ True ∧ True) ∧ ((62 : Nat) = (62 : Nat)
      ∧ (RGu y) ∧ S = S) ∧ (y.n 91001 = w ∧ TU y = up3 (huC w) (TU z)) ∧ (1 : Nat) < (2 : Nat) ∧ True)) := by kernel_rfl
theorem hu_r3 (E : World) (S : SW) (z : PX) (w : Int) (y : PX) :
    (loopP (pe E) Try.f17 (endP false uMs S (.t []) (fun z y => (U4.mk (Ch.mk (y.n 1) (y.n 2) (y.n 3) (y.n 4) (y.n 5) (y.n 6) (y.n 7) (y.b 8) (y.b 9) (y.n 10)) (Ch.mk (y.n 12) (y.n 13) (y.n 14) (y.n 15) (y.n 16) (y.n 17) (y.n 18) (y.b 19) (y.b 20) (y.n 21)) (Ch.mk (y.n 23) (y.n 24) (y.n 25) (y.n 26) (y.n 27) (y.n 28) (y.n 29) (y.b 30) (y.b 31) (y.n 32)) (Ch.mk (y.n 34) (y.n 35) (y.n 36) (y.n 37) (y.n 38) (y.n 39) (y.n 40) (y.b 41) (y.b 42) (y.n 43))) = up4 (huC w) (U4.mk (Ch.mk (z.n 1) (z.n 2) (z.n 3) (z.n 4) (z.n 5) (z.n 6) (z.n 7) (z.b 8) (z.b 9) (z.n 10)) (Ch.mk (z.n 12) (z.n 13) (z.n 14) (z.n 15) (z.n 16) (z.n 17) (z.n 18) (z.b 19) (z.b 20) (z.n 21)) (Ch.mk (z.n 23) (z.n 24) (z.n 25) (z.n 26) (z.n 27) (z.n 28) (z.n 29) (z.b 30) (z.b 31) (z.n 32)) (Ch.mk (z.n 34) (z.n 35) (z.n 36) (z.n 37) (z.n 38) (z.n 39) (z.n 40) (z.b 41) (z.b 42) (z.n 43)))) z) (headP false S Try.f17.ntmps (some ((fun _ => 1) y)) (hu_hs E S z w))  (run (pe E) (orcA E) (tabL fns) 20000 (2 ^ 200 - 1) (hu_td E) (mkL Try.f17.ntmps (slC y [(0, .c (.p 0 0)), (1, .i .u32), (8, .c (.i true .i64 3))])) (mkM y S uMs 0))) =
    (((wo (y.n 37)) = true → ((w3 (y.n 37) 4096 == (3 : Int)) = true → hu_td E = hu_td E ∧ (30 : Nat) = (30 : Nat) ∧ (True ∧ True ∧ True ∧ True) ∧ ((62 : Nat) = (62 : Nat) ∧
      (RGu y) ∧ S = S) ∧ (y.n 91001 = w ∧ TU y = up4 (huC w) (TU z)) ∧ (0 : Nat) < (1 : Nat) ∧ True) ∧ ((w3 (y.n 37) 4096 == (3 : Int)) = false → hu_td E = hu_td E ∧ (30 : Nat)
      = (30 : Nat) ∧ (True ∧ True ∧ True ∧ True) ∧ ((62 : Nat) = (62 : Nat) ∧ (RGu y) ∧ S = S) ∧ (y.n 91001 = w ∧ TU y = up4 (huC w) (TU z)) ∧ (0 : Nat) < (1 : Nat) ∧ True)) ∧
      ((wo (y.n 37)) = false → hu_td E = hu_td E ∧ (30 : Nat) = (30 : Nat) ∧ (True ∧ True ∧ True ∧ True) ∧ ((62 : Nat) = (62 : Nat) ∧ (RGu y) ∧ S = S) ∧ (y.n 91001 = w ∧ TU y =
      up4 (huC w) (TU z)) ∧ (0 : Nat) < (1 : Nat) ∧ True)) := by kernel_rfl
theorem hu_r4 (E : World) (S : SW) (z : PX) (w : Int) (y : PX) :
    (loopP (pe E) Try.f17 (endP false uMs S (.t []) (fun z y => (U4.mk (Ch.mk (y.n 1) (y.n 2) (y.n 3) (y.n 4) (y.n 5) (y.n 6) (y.n 7) (y.b 8) (y.b 9) (y.n 10)) (Ch.mk (y.n 12) (y.n 13) (y.n 14) (y.n 15) (y.n 16) (y.n 17) (y.n 18) (y.b 19) (y.b 20) (y.n 21)) (Ch.mk (y.n 23) (y.n 24) (y.n 25) (y.n 26) (y.n 27) (y.n 28) (y.n 29) (y.b 30) (y.b 31) (y.n 32)) (Ch.mk (y.n 34) (y.n 35) (y.n 36) (y.n 37) (y.n 38) (y.n 39) (y.n 40) (y.b 41) (y.b 42) (y.n 43))) = up4 (huC w) (U4.mk (Ch.mk (z.n 1) (z.n 2) (z.n 3) (z.n 4) (z.n 5) (z.n 6) (z.n 7) (z.b 8) (z.b 9) (z.n 10)) (Ch.mk (z.n 12) (z.n 13) (z.n 14) (z.n 15) (z.n 16) (z.n 17) (z.n 18) (z.b 19) (z.b 20) (z.n 21)) (Ch.mk (z.n 23) (z.n 24) (z.n 25) (z.n 26) (z.n 27) (z.n 28) (z.n 29) (z.b 30) (z.b 31) (z.n 32)) (Ch.mk (z.n 34) (z.n 35) (z.n 36) (z.n 37) (z.n 38) (z.n 39) (z.n 40) (z.b 41) (z.b 42) (z.n 43)))) z) (headP false S Try.f17.ntmps (some ((fun _ => 0) y)) (hu_hs E S z w))  (run (pe E) (orcA E) (tabL fns) 20000 (2 ^ 200 - 1) (hu_td E) (mkL Try.f17.ntmps (slC y [(0, .c (.p 0 0)), (1, .i .u32), (8, .c (.i true .i64 4))])) (mkM y S uMs 0))) =
    (True ∧ ((62 : Nat) = (62 : Nat) ∧ (RGu y) ∧ S = S) ∧ TU y = up4 (huC w) (TU z)) := by kernel_rfl
set_option maxHeartbeats 8000000 in
theorem hu_c (E : World) (S : SW) (w : Int) (z : PX) (hz : rgM z uMs 0) (hp : (fun _ => True) z) : HC (pe E) 17 [.c (.p 0 0), .c (.i false .u32 w)] uMs S (.t []) (fun z y => (U4.mk (Ch.mk (y.n 1) (y.n 2) (y.n 3) (y.n 4) (y.n 5) (y.n 6) (y.n 7) (y.b 8) (y.b 9) (y.n 10)) (Ch.mk (y.n 12) (y.n 13) (y.n 14) (y.n 15) (y.n 16) (y.n 17) (y.n 18) (y.b 19) (y.b 20) (y.n 21)) (Ch.mk (y.n 23) (y.n 24) (y.n 25) (y.n 26) (y.n 27) (y.n 28) (y.n 29) (y.b 30) (y.b 31) (y.n 32)) (Ch.mk (y.n 34) (y.n 35) (y.n 36) (y.n 37) (y.n 38) (y.n 39) (y.n 40) (y.b 41) (y.b 42) (y.n 43))) = up4 (huC w) (U4.mk (Ch.mk (z.n 1) (z.n 2) (z.n 3) (z.n 4) (z.n 5) (z.n 6) (z.n 7) (z.b 8) (z.b 9) (z.n 10)) (Ch.mk (z.n 12) (z.n 13) (z.n 14) (z.n 15) (z.n 16) (z.n 17) (z.n 18) (z.b 19) (z.b 20) (z.n 21)) (Ch.mk (z.n 23) (z.n 24) (z.n 25) (z.n 26) (z.n 27) (z.n 28) (z.n 29) (z.b 30) (z.b 31) (z.n 32)) (Ch.mk (z.n 34) (z.n 35) (z.n 36) (z.n 37) (z.n 38) (z.n 39) (z.n 40) (z.b 41) (z.b 42) (z.n 43)))) z := by
  refine HC.loop (P := pe E) orcA_ok tab_ok tab_sz mixed Try.func17 (c := Try.f17.body.getD .skip) rfl (by decide) (Nat.le_of_ble_eq_true rfl) false (by rfl) (by rfl) (by rfl) (by rfl) 20000 (2 ^ 200 - 1) (hu_hs E S z w) (by rfl) ?_ (loopP_lfH ⟨?_⟩) ?_
  · intro h hmem
    simp only [hu_hs, List.mem_cons, List.not_mem_nil, or_false] at hmem
    rcases hmem with hmem | hmem | hmem | hmem | hmem
    all_goals (subst hmem; exact ⟨by rfl, Nat.le_of_ble_eq_true rfl, fun y hk => okSW_M (by rfl) hk⟩)
  · rw [hu_pro]
    obtain ⟨h1, h2, h3, h4, h5, h6, h10, h12, h13, h14, h15, h16, h17, h21, h23, h24, h25, h26, h27, h28, h32, h34, h35, h36, h37, h38, h39, h43, _⟩ := rg_u hz
    have hz0 : (TU z) = up0 (huC w) (TU z) := rfl
    (repeat' (first | exact trivial | with_reducible rfl | assumption | apply And.intro)) <;> omega
  · intro h hmem y hy1 hy2 hy3
    simp only [hu_hs, List.mem_cons, List.not_mem_nil, or_false] at hmem
    rcases hmem with hmem | hmem | hmem | hmem | hmem
    · have e1 : h.td = (hu_td E) := by rw [hmem]
      have e2 : h.fs = [(0, .c (.p 0 0)), (1, .i .u32), (8, .c (.i true .i64 0))] := by rw [hmem]
      have e3 : h.ms = uMs := by rw [hmem]
      have e4 : h.mu = (fun _ => 4) := by rw [hmem]
      rw [e3] at hy1
      rw [e2] at hy2
      replace hy3 : (fun y => y.n 91001 = w ∧ (TU y) = up0 (huC w) (TU z)) y := by rw [hmem] at hy3; exact hy3
      rw [e1, e2, e3, e4]
      refine loopP_lfH ⟨?_⟩
      rw [hu_r0]
      clear e1 e2 e3 e4 hmem
      have hf : True ∧ True ∧ True ∧ True := hy2
      obtain ⟨_, _, _, _⟩ := hf
      obtain ⟨h1, h2, h3, h4, h5, h6, h10, h12, h13, h14, h15, h16, h17, h21, h23, h24, h25, h26, h27, h28, h32, h34, h35, h36, h37, h38, h39, h43, _⟩ := rg_u hy1
      obtain ⟨e1, hq⟩ := hy3
      replace hq : (TU y) = up0 (huC w) (TU z) := hq
      have hs : ap0 (huC w) (TU y) = up1 (huC w) (TU z) := by rw [hq]; rfl
      have o1 := and15 _ h4.1 h4.2
      have o2 := tmu (y.n 4)
      rw [← hs]
      simp only [fw, lw, vsr, px, w3, wo, ro, r3, o1, o2]
      clear o1 o2 hs hq
      subst e1
      (repeat' (first | exact trivial | with_reducible rfl | assumption | apply And.intro | intro h)) <;> first | omega | (simp_all [ap0, ap1, ap2, ap3, moC, huC, fds, TU, TR, cu0, cu1, cu2, cu3, cr0, cr1, cr2, cr3]; done)
    · have e1 : h.td = (hu_td E) := by rw [hmem]
      have e2 : h.fs = [(0, .c (.p 0 0)), (1, .i .u32), (8, .c (.i true .i64 1))] := by rw [hmem]
      have e3 : h.ms = uMs := by rw [hmem]
      have e4 : h.mu = (fun _ => 3) := by rw [hmem]
      rw [e3] at hy1
      rw [e2] at hy2
      replace hy3 : (fun y => y.n 91001 = w ∧ (TU y) = up1 (huC w) (TU z)) y := by rw [hmem] at hy3; exact hy3
      rw [e1, e2, e3, e4]
      refine loopP_lfH ⟨?_⟩
      rw [hu_r1]
      clear e1 e2 e3 e4 hmem
      have hf : True ∧ True ∧ True ∧ True := hy2
      obtain ⟨_, _, _, _⟩ := hf
      obtain ⟨h1, h2, h3, h4, h5, h6, h10, h12, h13, h14, h15, h16, h17, h21, h23, h24, h25, h26, h27, h28, h32, h34, h35, h36, h37, h38, h39, h43, _⟩ := rg_u hy1
      obtain ⟨e1, hq⟩ := hy3
      replace hq : (TU y) = up1 (huC w) (TU z) := hq
      have hs : ap1 (huC w) (TU y) = up2 (huC w) (TU z) := by rw [hq]; rfl
      have o1 := and15 _ h15.1 h15.2
      have o2 := tmu (y.n 15)
      rw [← hs]
      simp only [fw, lw, vsr, px, w3, wo, ro, r3, o1, o2]
      clear o1 o2 hs hq
      subst e1
      (repeat' (first | exact trivial | with_reducible rfl | assumption | apply And.intro | intro h)) <;> first | omega | (simp_all [ap0, ap1, ap2, ap3, moC, huC, fds, TU, TR, cu0, cu1, cu2, cu3, cr0, cr1, cr2, cr3]; done)
    · have e1 : h.td = (hu_td E) := by rw [hmem]
      have e2 : h.fs = [(0, .c (.p 0 0)), (1, .i .u32), (8, .c (.i true .i64 2))] := by rw [hmem]
      have e3 : h.ms = uMs := by rw [hmem]
      have e4 : h.mu = (fun _ => 2) := by rw [hmem]
      rw [e3] at hy1
      rw [e2] at hy2
      replace hy3 : (fun y => y.n 91001 = w ∧ (TU y) = up2 (huC w) (TU z)) y := by rw [hmem] at hy3; exact hy3
      rw [e1, e2, e3, e4]
      refine loopP_lfH ⟨?_⟩
      rw [hu_r2]
      clear e1 e2 e3 e4 hmem
      have hf : True ∧ True ∧ True ∧ True := hy2
      obtain ⟨_, _, _, _⟩ := hf
      obtain ⟨h1, h2, h3, h4, h5, h6, h10, h12, h13, h14, h15, h16, h17, h21, h23, h24, h25, h26, h27, h28, h32, h34, h35, h36, h37, h38, h39, h43, _⟩ := rg_u hy1
      obtain ⟨e1, hq⟩ := hy3
      replace hq : (TU y) = up2 (huC w) (TU z) := hq
      have hs : ap2 (huC w) (TU y) = up3 (huC w) (TU z) := by rw [hq]; rfl
      have o1 := and15 _ h26.1 h26.2
      have o2 := tmu (y.n 26)
      rw [← hs]
      simp only [fw, lw, vsr, px, w3, wo, ro, r3, o1, o2]
      clear o1 o2 hs hq
      subst e1
      (repeat' (first | exact trivial | with_reducible rfl | assumption | apply And.intro | intro h)) <;> first | omega | (simp_all [ap0, ap1, ap2, ap3, moC, huC, fds, TU, TR, cu0, cu1, cu2, cu3, cr0, cr1, cr2, cr3]; done)
    · have e1 : h.td = (hu_td E) := by rw [hmem]
      have e2 : h.fs = [(0, .c (.p 0 0)), (1, .i .u32), (8, .c (.i true .i64 3))] := by rw [hmem]
      have e3 : h.ms = uMs := by rw [hmem]
      have e4 : h.mu = (fun _ => 1) := by rw [hmem]
      rw [e3] at hy1
      rw [e2] at hy2
      replace hy3 : (fun y => y.n 91001 = w ∧ (TU y) = up3 (huC w) (TU z)) y := by rw [hmem] at hy3; exact hy3
      rw [e1, e2, e3, e4]
      refine loopP_lfH ⟨?_⟩
      rw [hu_r3]
      clear e1 e2 e3 e4 hmem
      have hf : True ∧ True ∧ True ∧ True := hy2
      obtain ⟨_, _, _, _⟩ := hf
      obtain ⟨h1, h2, h3, h4, h5, h6, h10, h12, h13, h14, h15, h16, h17, h21, h23, h24, h25, h26, h27, h28, h32, h34, h35, h36, h37, h38, h39, h43, _⟩ := rg_u hy1
      obtain ⟨e1, hq⟩ := hy3
      replace hq : (TU y) = up3 (huC w) (TU z) := hq
      have hs : ap3 (huC w) (TU y) = up4 (huC w) (TU z) := by rw [hq]; rfl
      have o1 := and15 _ h37.1 h37.2
      have o2 := tmu (y.n 37)
      rw [← hs]
      simp only [fw, lw, vsr, px, w3, wo, ro, r3, o1, o2]
      clear o1 o2 hs hq
      subst e1
      (repeat' (first | exact trivial | with_reducible rfl | assumption | apply And.intro | intro h)) <;> first | omega | (simp_all [ap0, ap1, ap2, ap3, moC, huC, fds, TU, TR, cu0, cu1, cu2, cu3, cr0, cr1, cr2, cr3]; done)
    · have e1 : h.td = (hu_td E) := by rw [hmem]
      have e2 : h.fs = [(0, .c (.p 0 0)), (1, .i .u32), (8, .c (.i true .i64 4))] := by rw [hmem]
      have e3 : h.ms = uMs := by rw [hmem]
      have e4 : h.mu = (fun _ => 0) := by rw [hmem]
      rw [e3] at hy1
      rw [e2] at hy2
      replace hy3 : (fun y => y.n 91001 = w ∧ (TU y) = up4 (huC w) (TU z)) y := by rw [hmem] at hy3; exact hy3
      rw [e1, e2, e3, e4]
      refine loopP_lfH ⟨?_⟩
      rw [hu_r4]
      clear e1 e2 e3 e4 hmem
      have hf : True ∧ True ∧ True ∧ True := hy2
      obtain ⟨_, _, _, _⟩ := hf
      obtain ⟨h1, h2, h3, h4, h5, h6, h10, h12, h13, h14, h15, h16, h17, h21, h23, h24, h25, h26, h27, h28, h32, h34, h35, h36, h37, h38, h39, h43, _⟩ := rg_u hy1
      obtain ⟨e1, hq⟩ := hy3
      replace hq : (TU y) = up4 (huC w) (TU z) := hq
      (repeat' (first | exact trivial | with_reducible rfl | assumption | apply And.intro)) <;> omega
end Go.Proofs.Ytpddbhfebhpohaa

