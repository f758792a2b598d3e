import Derived.Test.YtoldbgelneibbaaB
set_option linter.unusedVariables false
set_option linter.unusedSimpArgs false
namespace Go.Proofs.Ytoldbgelneibbaa
open Go Go.Proofs Go.Proofs.Ytoldbgelneibbaa.Ev
theorem awake_p (E : World) :
    (conP (.c (.b true true)) (fnTree (pe E) (orcL E) (tabL fns) 100000 Try.f8 [] [])) =
    (repOK (ByteArray.mk #[(255 : UInt8)]) (65536 : Int) = true ∧ decide ((repV E (ByteArray.mk #[(255 : UInt8)]) (65536 : Int)).size = (65536 : Nat)) = true ∧ decide ((repV E
      (ByteArray.mk #[(255 : UInt8)]) (65536 : Int)).size = (65536 : Nat)) = true ∧ decide ((repV E (ByteArray.mk #[(255 : UInt8)]) (65536 : Int)).size = (65536 : Nat)) = true ∧
      decide ((repV E (ByteArray.mk #[(255 : UInt8)]) (65536 : Int)).size = (65536 : Nat)) = true ∧ decide ((repV E (ByteArray.mk #[(255 : UInt8)]) (65536 : Int)).size = (65536
      : Nat)) = true ∧ decide ((repV E (ByteArray.mk #[(255 : UInt8)]) (65536 : Int)).size = (65536 : Nat)) = true ∧ decide ((repV E (ByteArray.mk #[(255 : UInt8)]) (65536 :
      Int)).size = (65536 : Nat)) = true ∧ decide ((repV E (ByteArray.mk #[(255 : UInt8)]) (65536 : Int)).size = (65536 : Nat)) = true ∧ decide ((repV E (ByteArray.mk #[(255 :
      UInt8)]) (65536 : Int)).size = (65536 : Nat)) = true ∧ decide ((repV E (ByteArray.mk #[(255 : UInt8)]) (65536 : Int)).size = (65536 : Nat)) = true ∧ decide ((repV E
      (ByteArray.mk #[(255 : UInt8)]) (65536 : Int)).size = (65536 : Nat)) = true ∧ decide ((repV E (ByteArray.mk #[(255 : UInt8)]) (65536 : Int)).size = (65536 : Nat)) = true ∧
      decide ((repV E (ByteArray.mk #[(255 : UInt8)]) (65536 : Int)).size = (65536 : Nat)) = true ∧ decide ((repV E (ByteArray.mk #[(255 : UInt8)]) (65536 : Int)).size = (65536
      : Nat)) = true ∧ decide ((repV E (ByteArray.mk #[(255 : UInt8)]) (65536 : Int)).size = (65536 : Nat)) = true ∧ decide ((repV E (ByteArray.mk #[(255 : UInt8)]) (65536 :
      Int)).size = (65536 : Nat)) = true ∧ decide ((repV E (ByteArray.mk #[(255 : UInt8)]) (65536 : Int)).size = (65536 : Nat)) = true ∧ decide ((repV E (ByteArray.mk #[(255 :
      UInt8)]) (65536 : Int)).size = (65536 : Nat)) = true ∧ decide ((repV E (ByteArray.mk #[(255 : UInt8)]) (65536 : Int)).size = (65536 : Nat)) = true ∧ decide ((repV E
      (ByteArray.mk #[(255 : UInt8)]) (65536 : Int)).size = (65536 : Nat)) = true ∧ decide ((repV E (ByteArray.mk #[(255 : UInt8)]) (65536 : Int)).size = (65536 : Nat)) = true ∧
      decide ((repV E (ByteArray.mk #[(255 : UInt8)]) (65536 : Int)).size = (65536 : Nat)) = true ∧ decide ((repV E (ByteArray.mk #[(255 : UInt8)]) (65536 : Int)).size = (65536
      : Nat)) = true ∧ decide ((repV E (ByteArray.mk #[(255 : UInt8)]) (65536 : Int)).size = (65536 : Nat)) = true ∧ decide ((repV E (ByteArray.mk #[(255 : UInt8)]) (65536 :
      Int)).size = (65536 : Nat)) = true ∧ decide ((repV E (ByteArray.mk #[(255 : UInt8)]) (65536 : Int)).size = (65536 : Nat)) = true ∧ decide ((repV E (ByteArray.mk #[(255 :
      UInt8)]) (65536 : Int)).size = (65536 : Nat)) = true ∧ decide ((repV E (ByteArray.mk #[(255 : UInt8)]) (65536 : Int)).size = (65536 : Nat)) = true ∧ decide ((repV E
      (ByteArray.mk #[(255 : UInt8)]) (65536 : Int)).size = (65536 : Nat)) = true ∧ decide ((repV E (ByteArray.mk #[(255 : UInt8)]) (65536 : Int)).size = (65536 : Nat)) = true ∧
      decide ((repV E (ByteArray.mk #[(255 : UInt8)]) (65536 : Int)).size = (65536 : Nat)) = true ∧ decide ((repV E (ByteArray.mk #[(255 : UInt8)]) (65536 : Int)).size = (65536
      : Nat)) = true ∧ decide ((repV E (ByteArray.mk #[(255 : UInt8)]) (65536 : Int)).size = (65536 : Nat)) = true ∧ decide ((repV E (ByteArray.mk #[(255 : UInt8)]) (65536 :
      Int)).size = (65536 : Nat)) = true ∧ decide ((strSl (repV E (ByteArray.mk #[(255 : UInt8)]) (65536 : Int)) (0 : Int) (4096 : Int)).size = (4096 : Nat)) = true ∧ decide
      ((bytesN [bits BinOp.and IntKind.u8 (strB (strSl (repV E (ByteArray.mk #[(255 : UInt8)]) (65536 : Int)) (0 : Int) (4096 : Int)) (291 : Int)) (90 : Int)]).size = (1 : Nat))
      = true ∧ decide ((bytesN [bits BinOp.and IntKind.u8 (strB (strSl (repV E (ByteArray.mk #[(255 : UInt8)]) (65536 : Int)) (0 : Int) (4096 : Int)) (291 : Int)) (90 :
      Int)]).size = (1 : Nat)) = true ∧ decide ((bytesN [bits BinOp.and IntKind.u8 (strB (strSl (repV E (ByteArray.mk #[(255 : UInt8)]) (65536 : Int)) (0 : Int) (4096 : Int))
      (291 : Int)) (90 : Int)]).size = (1 : Nat)) = true ∧ decide ((strSl (repV E (ByteArray.mk #[(255 : UInt8)]) (65536 : Int)) (0 : Int) (4096 : Int)).size = (4096 : Nat)) =
      true ∧ decide ((bytesN [bits BinOp.and IntKind.u8 (strB (strSl (repV E (ByteArray.mk #[(255 : UInt8)]) (65536 : Int)) (0 : Int) (4096 : Int)) (291 : Int)) (90 :
      Int)]).size = (1 : Nat)) = true ∧ decide ((strSl (repV E (ByteArray.mk #[(255 : UInt8)]) (65536 : Int)) (0 : Int) (4096 : Int)).size = (4096 : Nat)) = true ∧ decide
      ((strSl (repV E (ByteArray.mk #[(255 : UInt8)]) (65536 : Int)) (0 : Int) (4096 : Int)).size = (4096 : Nat)) = true ∧ (room (catL [strSl (strSl (repV E (ByteArray.mk #[(255
      : UInt8)]) (65536 : Int)) (0 : Int) (4096 : Int)) (0 : Int) (291 : Int), bytesN [bits BinOp.and IntKind.u8 (strB (strSl (repV E (ByteArray.mk #[(255 : UInt8)]) (65536 :
      Int)) (0 : Int) (4096 : Int)) (291 : Int)) (90 : Int)], strSl (strSl (repV E (ByteArray.mk #[(255 : UInt8)]) (65536 : Int)) (0 : Int) (4096 : Int)) (292 : Int) (4096 :
      Int)]).length && [strSl (strSl (repV E (ByteArray.mk #[(255 : UInt8)]) (65536 : Int)) (0 : Int) (4096 : Int)) (0 : Int) (291 : Int), bytesN [bits BinOp.and IntKind.u8
      (strB (strSl (repV E (ByteArray.mk #[(255 : UInt8)]) (65536 : Int)) (0 : Int) (4096 : Int)) (291 : Int)) (90 : Int)], strSl (strSl (repV E (ByteArray.mk #[(255 : UInt8)])
      (65536 : Int)) (0 : Int) (4096 : Int)) (292 : Int) (4096 : Int)].length.ble (1000000 : Nat)) = true ∧ ((false ^^ (1 : Int) == (1 : Int) && ((291 : Int) == (291 : Int) &&
      (bytesN [bits BinOp.and IntKind.u8 (strB (strSl (repV E (ByteArray.mk #[(255 : UInt8)]) (65536 : Int)) (0 : Int) (4096 : Int)) (291 : Int)) (90 : Int)] == ByteArray.mk
      #[(90 : UInt8)] && true))) = true → decide ((catB [strSl (strSl (repV E (ByteArray.mk #[(255 : UInt8)]) (65536 : Int)) (0 : Int) (4096 : Int)) (0 : Int) (291 : Int),
      bytesN [bits BinOp.and IntKind.u8 (strB (strSl (repV E (ByteArray.mk #[(255 : UInt8)]) (65536 : Int)) (0 : Int) (4096 : Int)) (291 : Int)) (90 : Int)], strSl (strSl (repV
      E (ByteArray.mk #[(255 : UInt8)]) (65536 : Int)) (0 : Int) (4096 : Int)) (292 : Int) (4096 : Int)]).size = (4096 : Nat)) = true ∧ ((strB (catB [strSl (strSl (repV E
      (ByteArray.mk #[(255 : UInt8)]) (65536 : Int)) (0 : Int) (4096 : Int)) (0 : Int) (291 : Int), bytesN [bits BinOp.and IntKind.u8 (strB (strSl (repV E (ByteArray.mk #[(255 :
      UInt8)]) (65536 : Int)) (0 : Int) (4096 : Int)) (291 : Int)) (90 : Int)], strSl (strSl (repV E (ByteArray.mk #[(255 : UInt8)]) (65536 : Int)) (0 : Int) (4096 : Int)) (292
      : Int) (4096 : Int)]) (291 : Int) == (90 : Int)) = true → decide ((catB [strSl (strSl (repV E (ByteArray.mk #[(255 : UInt8)]) (65536 : Int)) (0 : Int) (4096 : Int)) (0 :
      Int) (291 : Int), bytesN [bits BinOp.and IntKind.u8 (strB (strSl (repV E (ByteArray.mk #[(255 : UInt8)]) (65536 : Int)) (0 : Int) (4096 : Int)) (291 : Int)) (90 : Int)],
      strSl (strSl (repV E (ByteArray.mk #[(255 : UInt8)]) (65536 : Int)) (0 : Int) (4096 : Int)) (292 : Int) (4096 : Int)]).size = (4096 : Nat)) = true ∧ (strB (catB [strSl
      (strSl (repV E (ByteArray.mk #[(255 : UInt8)]) (65536 : Int)) (0 : Int) (4096 : Int)) (0 : Int) (291 : Int), bytesN [bits BinOp.and IntKind.u8 (strB (strSl (repV E
      (ByteArray.mk #[(255 : UInt8)]) (65536 : Int)) (0 : Int) (4096 : Int)) (291 : Int)) (90 : Int)], strSl (strSl (repV E (ByteArray.mk #[(255 : UInt8)]) (65536 : Int)) (0 :
      Int) (4096 : Int)) (292 : Int) (4096 : Int)]) (292 : Int) == (255 : Int)) = true) ∧ ((strB (catB [strSl (strSl (repV E (ByteArray.mk #[(255 : UInt8)]) (65536 : Int)) (0 :
      Int) (4096 : Int)) (0 : Int) (291 : Int), bytesN [bits BinOp.and IntKind.u8 (strB (strSl (repV E (ByteArray.mk #[(255 : UInt8)]) (65536 : Int)) (0 : Int) (4096 : Int))
      (291 : Int)) (90 : Int)], strSl (strSl (repV E (ByteArray.mk #[(255 : UInt8)]) (65536 : Int)) (0 : Int) (4096 : Int)) (292 : Int) (4096 : Int)]) (291 : Int) == (90 : Int))
      = false → false = true)) ∧ ((false ^^ (1 : Int) == (1 : Int) && ((291 : Int) == (291 : Int) && (bytesN [bits BinOp.and IntKind.u8 (strB (strSl (repV E (ByteArray.mk #[(255
      : UInt8)]) (65536 : Int)) (0 : Int) (4096 : Int)) (291 : Int)) (90 : Int)] == ByteArray.mk #[(90 : UInt8)] && true))) = false → false = true)) := by kernel_rfl
set_option maxRecDepth 100000 in
theorem awake_c (E : World) (s : SW) : CallTree (pe E) 8 [] s (.leaf (.c (.b true true), s)) := by
  exact pure_contractH (fnTree_sound (P := pe E) orcL_ok tab_ok tab_sz mixed 100000 Try.func8 (by decide) [] []) (by simp [SV.ok, C.ok, okL]) (v := .c (.b true true)) rfl ⟨by
  rw [awake_p]
  have hs : (repV E (ByteArray.mk #[(255 : UInt8)]) 65536).size = 65536 := by rw [size_repV]; rfl
  have hb : ∀ i : Int, 0 ≤ i → i < 65536 → strB (repV E (ByteArray.mk #[(255 : UInt8)]) 65536) i = 255 := fun i h0 h1 => by rw [repV_eq]; exact strB_rep 255 65536 i h0 h1
  generalize repV E (ByteArray.mk #[(255 : UInt8)]) 65536 = r at *
  have h4 : (strSl r 0 4096).size = 4096 := size_strSl' r 0 4096 4096 (by decide) (by decide) (by omega) (by decide)
  have e1 : strB (strSl r 0 4096) 291 = 255 := by rw [strB_strSl r 0 4096 291 (by decide) (by omega) (by decide) (by decide)]; exact hb _ (by decide) (by decide)
  have e2 : strB (strSl r 0 4096) 292 = 255 := by rw [strB_strSl r 0 4096 292 (by decide) (by omega) (by decide) (by decide)]; exact hb _ (by decide) (by decide)
  have e3 : bits .and .u8 255 90 = 90 := by decide
  have hq : (ByteArray.mk #[(90 : UInt8)]) = bytesN [90] := rfl
  generalize strSl r 0 4096 = q at *
  have hbn : (bytesN [90]).size = 1 := rfl
  have hp1 : (strSl q 0 291).size = 291 := size_strSl' q 0 291 291 (by decide) (by decide) (by omega) (by decide)
  have hp3 : (strSl q 292 4096).size = 3804 := size_strSl' q 292 4096 3804 (by decide) (by decide) (by omega) (by decide)
  have e5 : strB (catB [strSl q 0 291, bytesN [90], strSl q 292 4096]) 291 = 90 := by
    rw [catB_cons, catB_cons, strB_app_r _ _ _ (by decide) (by omega), strB_app_l _ _ _ (by rw [hp1, hbn]; decide), hp1]
    rfl
  have e6 : strB (catB [strSl q 0 291, bytesN [90], strSl q 292 4096]) 292 = 255 := by
    rw [catB_cons, catB_cons, catB_cons, strB_app_r _ _ _ (by decide) (by omega), strB_app_r _ _ _ (by rw [hp1]; decide) (by rw [hp1, hbn]; decide), strB_app_l _ _ _ (by rw [hp1, hbn, hp3]; decide), hp1, hbn]
    rw [strB_strSl q 292 4096 _ (by decide) (by omega) (by decide) (by decide)]
    exact e2
  have hc : (catB [strSl q 0 291, bytesN [90], strSl q 292 4096]).size = 4096 := by rw [size_catB]; simp [hp1, hp3, hbn]
  have hl : (catL [strSl q 0 291, bytesN [90], strSl q 292 4096]).length = 4096 := by rw [len_catL]; simp [hp1, hp3, hbn]
  simp only [hs, h4, e1, e2, e3, hbn, e5, e6, hc, hl, hp1, hp3, hq]
  (repeat' first | apply And.intro | rfl | decide)
  all_goals skip⟩ s
def orcA (E : World) : Orc := fun g vs s => match g, vs with
  | 8, [] => some (.leaf (.c (.b true true), s))
  | g, vs => (orcL E) g vs s
theorem orcA_ok {E : World} : OrcOK (pe E) (orcA E) := by
  intro g vs s t h
  unfold orcA at h
  split at h
  · cases h
    exact awake_c E s
  · exact orcL_ok _ _ _ _ h
end Go.Proofs.Ytoldbgelneibbaa

