import Derived.Test.YtoldbgelneibbaaC
set_option linter.unusedVariables false
set_option linter.unusedSimpArgs false
namespace Go.Proofs.Ytoldbgelneibbaa
open Go Go.Proofs Go.Proofs.Ytoldbgelneibbaa.Ev
theorem made_p (E : World) (n : Int) (a : Int) (b : Int) :
    (lawP (fnTree (pe E) (orcN E) (tabL fns) 20000 Try.f6 [.c (.i false .i64 n), .c (.i false .u32 a), .c (.i false .u8 b)] [])) =
    (repOK (ByteArray.mk #[(255 : UInt8)]) (if (131072 : Int) < if (0 : Int) > n then (0 : Int) else n then (131072 : Int) else if (0 : Int) > n then (0 : Int) else n) = true ∧
      ((↑(repV E (ByteArray.mk #[(255 : UInt8)]) (if (131072 : Int) < if (0 : Int) > n then (0 : Int) else n then (131072 : Int) else if (0 : Int) > n then (0 : Int) else
      n)).size : Int) != if (if (131072 : Int) < n then (131072 : Int) else n) > (0 : Int) then if (131072 : Int) < n then (131072 : Int) else n else (0 : Int)) = false ∧
      (decide ((repV E (ByteArray.mk #[(255 : UInt8)]) (if (131072 : Int) < if (0 : Int) > n then (0 : Int) else n then (131072 : Int) else if (0 : Int) > n then (0 : Int) else
      n)).size = (65536 : Nat)) = true → decide ((repV E (ByteArray.mk #[(255 : UInt8)]) (if (131072 : Int) < if (0 : Int) > n then (0 : Int) else n then (131072 : Int) else if
      (0 : Int) > n then (0 : Int) else n)).size = (65536 : Nat)) = true ∧ decide ((repV E (ByteArray.mk #[(255 : UInt8)]) (if (131072 : Int) < if (0 : Int) > n then (0 : Int)
      else n then (131072 : Int) else if (0 : Int) > n then (0 : Int) else n)).size = (65536 : Nat)) = true ∧ decide ((repV E (ByteArray.mk #[(255 : UInt8)]) (if (131072 : Int)
      < if (0 : Int) > n then (0 : Int) else n then (131072 : Int) else if (0 : Int) > n then (0 : Int) else n)).size = (65536 : Nat)) = true ∧ decide ((repV E (ByteArray.mk
      #[(255 : UInt8)]) (if (131072 : Int) < if (0 : Int) > n then (0 : Int) else n then (131072 : Int) else if (0 : Int) > n then (0 : Int) else n)).size = (65536 : Nat)) =
      true ∧ decide ((repV E (ByteArray.mk #[(255 : UInt8)]) (if (131072 : Int) < if (0 : Int) > n then (0 : Int) else n then (131072 : Int) else if (0 : Int) > n then (0 : Int)
      else n)).size = (65536 : Nat)) = true ∧ decide ((repV E (ByteArray.mk #[(255 : UInt8)]) (if (131072 : Int) < if (0 : Int) > n then (0 : Int) else n then (131072 : Int)
      else if (0 : Int) > n then (0 : Int) else n)).size = (65536 : Nat)) = true ∧ decide ((repV E (ByteArray.mk #[(255 : UInt8)]) (if (131072 : Int) < if (0 : Int) > n then (0
      : Int) else n then (131072 : Int) else if (0 : Int) > n then (0 : Int) else n)).size = (65536 : Nat)) = true ∧ decide ((repV E (ByteArray.mk #[(255 : UInt8)]) (if (131072
      : Int) < if (0 : Int) > n then (0 : Int) else n then (131072 : Int) else if (0 : Int) > n then (0 : Int) else n)).size = (65536 : Nat)) = true ∧ decide ((repV E
      (ByteArray.mk #[(255 : UInt8)]) (if (131072 : Int) < if (0 : Int) > n then (0 : Int) else n then (131072 : Int) else if (0 : Int) > n then (0 : Int) else n)).size = (65536
      : Nat)) = true ∧ decide ((repV E (ByteArray.mk #[(255 : UInt8)]) (if (131072 : Int) < if (0 : Int) > n then (0 : Int) else n then (131072 : Int) else if (0 : Int) > n then
      (0 : Int) else n)).size = (65536 : Nat)) = true ∧ decide ((repV E (ByteArray.mk #[(255 : UInt8)]) (if (131072 : Int) < if (0 : Int) > n then (0 : Int) else n then (131072
      : Int) else if (0 : Int) > n then (0 : Int) else n)).size = (65536 : Nat)) = true ∧ decide ((repV E (ByteArray.mk #[(255 : UInt8)]) (if (131072 : Int) < if (0 : Int) > n
      then (0 : Int) else n then (131072 : Int) else if (0 : Int) > n then (0 : Int) else n)).size = (65536 : Nat)) = true ∧ decide ((repV E (ByteArray.mk #[(255 : UInt8)]) (if
      (131072 : Int) < if (0 : Int) > n then (0 : Int) else n then (131072 : Int) else if (0 : Int) > n then (0 : Int) else n)).size = (65536 : Nat)) = true ∧ decide ((repV E
      (ByteArray.mk #[(255 : UInt8)]) (if (131072 : Int) < if (0 : Int) > n then (0 : Int) else n then (131072 : Int) else if (0 : Int) > n then (0 : Int) else n)).size = (65536
      : Nat)) = true ∧ decide ((repV E (ByteArray.mk #[(255 : UInt8)]) (if (131072 : Int) < if (0 : Int) > n then (0 : Int) else n then (131072 : Int) else if (0 : Int) > n then
      (0 : Int) else n)).size = (65536 : Nat)) = true ∧ decide ((repV E (ByteArray.mk #[(255 : UInt8)]) (if (131072 : Int) < if (0 : Int) > n then (0 : Int) else n then (131072
      : Int) else if (0 : Int) > n then (0 : Int) else n)).size = (65536 : Nat)) = true ∧ decide ((repV E (ByteArray.mk #[(255 : UInt8)]) (if (131072 : Int) < if (0 : Int) > n
      then (0 : Int) else n then (131072 : Int) else if (0 : Int) > n then (0 : Int) else n)).size = (65536 : Nat)) = true ∧ decide ((repV E (ByteArray.mk #[(255 : UInt8)]) (if
      (131072 : Int) < if (0 : Int) > n then (0 : Int) else n then (131072 : Int) else if (0 : Int) > n then (0 : Int) else n)).size = (65536 : Nat)) = true ∧ decide ((repV E
      (ByteArray.mk #[(255 : UInt8)]) (if (131072 : Int) < if (0 : Int) > n then (0 : Int) else n then (131072 : Int) else if (0 : Int) > n then (0 : Int) else n)).size = (65536
      : Nat)) = true ∧ decide ((repV E (ByteArray.mk #[(255 : UInt8)]) (if (131072 : Int) < if (0 : Int) > n then (0 : Int) else n then (131072 : Int) else if (0 : Int) > n then
      (0 : Int) else n)).size = (65536 : Nat)) = true ∧ decide ((repV E (ByteArray.mk #[(255 : UInt8)]) (if (131072 : Int) < if (0 : Int) > n then (0 : Int) else n then (131072
      : Int) else if (0 : Int) > n then (0 : Int) else n)).size = (65536 : Nat)) = true ∧ decide ((repV E (ByteArray.mk #[(255 : UInt8)]) (if (131072 : Int) < if (0 : Int) > n
      then (0 : Int) else n then (131072 : Int) else if (0 : Int) > n then (0 : Int) else n)).size = (65536 : Nat)) = true ∧ decide ((repV E (ByteArray.mk #[(255 : UInt8)]) (if
      (131072 : Int) < if (0 : Int) > n then (0 : Int) else n then (131072 : Int) else if (0 : Int) > n then (0 : Int) else n)).size = (65536 : Nat)) = true ∧ decide ((repV E
      (ByteArray.mk #[(255 : UInt8)]) (if (131072 : Int) < if (0 : Int) > n then (0 : Int) else n then (131072 : Int) else if (0 : Int) > n then (0 : Int) else n)).size = (65536
      : Nat)) = true ∧ decide ((repV E (ByteArray.mk #[(255 : UInt8)]) (if (131072 : Int) < if (0 : Int) > n then (0 : Int) else n then (131072 : Int) else if (0 : Int) > n then
      (0 : Int) else n)).size = (65536 : Nat)) = true ∧ decide ((repV E (ByteArray.mk #[(255 : UInt8)]) (if (131072 : Int) < if (0 : Int) > n then (0 : Int) else n then (131072
      : Int) else if (0 : Int) > n then (0 : Int) else n)).size = (65536 : Nat)) = true ∧ decide ((repV E (ByteArray.mk #[(255 : UInt8)]) (if (131072 : Int) < if (0 : Int) > n
      then (0 : Int) else n then (131072 : Int) else if (0 : Int) > n then (0 : Int) else n)).size = (65536 : Nat)) = true ∧ decide ((repV E (ByteArray.mk #[(255 : UInt8)]) (if
      (131072 : Int) < if (0 : Int) > n then (0 : Int) else n then (131072 : Int) else if (0 : Int) > n then (0 : Int) else n)).size = (65536 : Nat)) = true ∧ decide ((repV E
      (ByteArray.mk #[(255 : UInt8)]) (if (131072 : Int) < if (0 : Int) > n then (0 : Int) else n then (131072 : Int) else if (0 : Int) > n then (0 : Int) else n)).size = (65536
      : Nat)) = true ∧ decide ((repV E (ByteArray.mk #[(255 : UInt8)]) (if (131072 : Int) < if (0 : Int) > n then (0 : Int) else n then (131072 : Int) else if (0 : Int) > n then
      (0 : Int) else n)).size = (65536 : Nat)) = true ∧ decide ((repV E (ByteArray.mk #[(255 : UInt8)]) (if (131072 : Int) < if (0 : Int) > n then (0 : Int) else n then (131072
      : Int) else if (0 : Int) > n then (0 : Int) else n)).size = (65536 : Nat)) = true ∧ decide ((repV E (ByteArray.mk #[(255 : UInt8)]) (if (131072 : Int) < if (0 : Int) > n
      then (0 : Int) else n then (131072 : Int) else if (0 : Int) > n then (0 : Int) else n)).size = (65536 : Nat)) = true ∧ decide ((repV E (ByteArray.mk #[(255 : UInt8)]) (if
      (131072 : Int) < if (0 : Int) > n then (0 : Int) else n then (131072 : Int) else if (0 : Int) > n then (0 : Int) else n)).size = (65536 : Nat)) = true ∧ decide ((repV E
      (ByteArray.mk #[(255 : UInt8)]) (if (131072 : Int) < if (0 : Int) > n then (0 : Int) else n then (131072 : Int) else if (0 : Int) > n then (0 : Int) else n)).size = (65536
      : Nat)) = true ∧ (((↑(repV E (ByteArray.mk #[(255 : UInt8)]) (if (131072 : Int) < if (0 : Int) > n then (0 : Int) else n then (131072 : Int) else if (0 : Int) > n then (0
      : Int) else n)).size : Int) == (65536 : Int)) = true → true = true) ∧ (((↑(repV E (ByteArray.mk #[(255 : UInt8)]) (if (131072 : Int) < if (0 : Int) > n then (0 : Int) else
      n then (131072 : Int) else if (0 : Int) > n then (0 : Int) else n)).size : Int) == (65536 : Int)) = false → (true ^^ true == ((↑(repV E (ByteArray.mk #[(255 : UInt8)]) (if
      (131072 : Int) < if (0 : Int) > n then (0 : Int) else n then (131072 : Int) else if (0 : Int) > n then (0 : Int) else n)).size : Int) == (131072 : Int))) = false ∧ true =
      true)) ∧ (decide ((repV E (ByteArray.mk #[(255 : UInt8)]) (if (131072 : Int) < if (0 : Int) > n then (0 : Int) else n then (131072 : Int) else if (0 : Int) > n then (0 :
      Int) else n)).size = (65536 : Nat)) = false → (decide ((repV E (ByteArray.mk #[(255 : UInt8)]) (if (131072 : Int) < if (0 : Int) > n then (0 : Int) else n then (131072 :
      Int) else if (0 : Int) > n then (0 : Int) else n)).size = (131072 : Nat)) = true → decide ((repV E (ByteArray.mk #[(255 : UInt8)]) (if (131072 : Int) < if (0 : Int) > n
      then (0 : Int) else n then (131072 : Int) else if (0 : Int) > n then (0 : Int) else n)).size = (131072 : Nat)) = true ∧ decide ((repV E (ByteArray.mk #[(255 : UInt8)]) (if
      (131072 : Int) < if (0 : Int) > n then (0 : Int) else n then (131072 : Int) else if (0 : Int) > n then (0 : Int) else n)).size = (131072 : Nat)) = true ∧ decide ((repV E
      (ByteArray.mk #[(255 : UInt8)]) (if (131072 : Int) < if (0 : Int) > n then (0 : Int) else n then (131072 : Int) else if (0 : Int) > n then (0 : Int) else n)).size =
      (131072 : Nat)) = true ∧ decide ((repV E (ByteArray.mk #[(255 : UInt8)]) (if (131072 : Int) < if (0 : Int) > n then (0 : Int) else n then (131072 : Int) else if (0 : Int)
      > n then (0 : Int) else n)).size = (131072 : Nat)) = true ∧ decide ((repV E (ByteArray.mk #[(255 : UInt8)]) (if (131072 : Int) < if (0 : Int) > n then (0 : Int) else n
      then (131072 : Int) else if (0 : Int) > n then (0 : Int) else n)).size = (131072 : Nat)) = true ∧ decide ((repV E (ByteArray.mk #[(255 : UInt8)]) (if (131072 : Int) < if
      (0 : Int) > n then (0 : Int) else n then (131072 : Int) else if (0 : Int) > n then (0 : Int) else n)).size = (131072 : Nat)) = true ∧ decide ((repV E (ByteArray.mk #[(255
      : UInt8)]) (if (131072 : Int) < if (0 : Int) > n then (0 : Int) else n then (131072 : Int) else if (0 : Int) > n then (0 : Int) else n)).size = (131072 : Nat)) = true ∧
      decide ((repV E (ByteArray.mk #[(255 : UInt8)]) (if (131072 : Int) < if (0 : Int) > n then (0 : Int) else n then (131072 : Int) else if (0 : Int) > n then (0 : Int) else
      n)).size = (131072 : Nat)) = true ∧ decide ((repV E (ByteArray.mk #[(255 : UInt8)]) (if (131072 : Int) < if (0 : Int) > n then (0 : Int) else n then (131072 : Int) else if
      (0 : Int) > n then (0 : Int) else n)).size = (131072 : Nat)) = true ∧ decide ((repV E (ByteArray.mk #[(255 : UInt8)]) (if (131072 : Int) < if (0 : Int) > n then (0 : Int)
      else n then (131072 : Int) else if (0 : Int) > n then (0 : Int) else n)).size = (131072 : Nat)) = true ∧ decide ((repV E (ByteArray.mk #[(255 : UInt8)]) (if (131072 : Int)
      < if (0 : Int) > n then (0 : Int) else n then (131072 : Int) else if (0 : Int) > n then (0 : Int) else n)).size = (131072 : Nat)) = true ∧ decide ((repV E (ByteArray.mk
      #[(255 : UInt8)]) (if (131072 : Int) < if (0 : Int) > n then (0 : Int) else n then (131072 : Int) else if (0 : Int) > n then (0 : Int) else n)).size = (131072 : Nat)) =
      true ∧ decide ((repV E (ByteArray.mk #[(255 : UInt8)]) (if (131072 : Int) < if (0 : Int) > n then (0 : Int) else n then (131072 : Int) else if (0 : Int) > n then (0 : Int)
      else n)).size = (131072 : Nat)) = true ∧ decide ((repV E (ByteArray.mk #[(255 : UInt8)]) (if (131072 : Int) < if (0 : Int) > n then (0 : Int) else n then (131072 : Int)
      else if (0 : Int) > n then (0 : Int) else n)).size = (131072 : Nat)) = true ∧ decide ((repV E (ByteArray.mk #[(255 : UInt8)]) (if (131072 : Int) < if (0 : Int) > n then (0
      : Int) else n then (131072 : Int) else if (0 : Int) > n then (0 : Int) else n)).size = (131072 : Nat)) = true ∧ decide ((repV E (ByteArray.mk #[(255 : UInt8)]) (if (131072
      : Int) < if (0 : Int) > n then (0 : Int) else n then (131072 : Int) else if (0 : Int) > n then (0 : Int) else n)).size = (131072 : Nat)) = true ∧ decide ((repV E
      (ByteArray.mk #[(255 : UInt8)]) (if (131072 : Int) < if (0 : Int) > n then (0 : Int) else n then (131072 : Int) else if (0 : Int) > n then (0 : Int) else n)).size =
      (131072 : Nat)) = true ∧ decide ((repV E (ByteArray.mk #[(255 : UInt8)]) (if (131072 : Int) < if (0 : Int) > n then (0 : Int) else n then (131072 : Int) else if (0 : Int)
      > n then (0 : Int) else n)).size = (131072 : Nat)) = true ∧ decide ((repV E (ByteArray.mk #[(255 : UInt8)]) (if (131072 : Int) < if (0 : Int) > n then (0 : Int) else n
      then (131072 : Int) else if (0 : Int) > n then (0 : Int) else n)).size = (131072 : Nat)) = true ∧ decide ((repV E (ByteArray.mk #[(255 : UInt8)]) (if (131072 : Int) < if
      (0 : Int) > n then (0 : Int) else n then (131072 : Int) else if (0 : Int) > n then (0 : Int) else n)).size = (131072 : Nat)) = true ∧ decide ((repV E (ByteArray.mk #[(255
      : UInt8)]) (if (131072 : Int) < if (0 : Int) > n then (0 : Int) else n then (131072 : Int) else if (0 : Int) > n then (0 : Int) else n)).size = (131072 : Nat)) = true ∧
      decide ((repV E (ByteArray.mk #[(255 : UInt8)]) (if (131072 : Int) < if (0 : Int) > n then (0 : Int) else n then (131072 : Int) else if (0 : Int) > n then (0 : Int) else
      n)).size = (131072 : Nat)) = true ∧ decide ((repV E (ByteArray.mk #[(255 : UInt8)]) (if (131072 : Int) < if (0 : Int) > n then (0 : Int) else n then (131072 : Int) else if
      (0 : Int) > n then (0 : Int) else n)).size = (131072 : Nat)) = true ∧ decide ((repV E (ByteArray.mk #[(255 : UInt8)]) (if (131072 : Int) < if (0 : Int) > n then (0 : Int)
      else n then (131072 : Int) else if (0 : Int) > n then (0 : Int) else n)).size = (131072 : Nat)) = true ∧ decide ((repV E (ByteArray.mk #[(255 : UInt8)]) (if (131072 : Int)
      < if (0 : Int) > n then (0 : Int) else n then (131072 : Int) else if (0 : Int) > n then (0 : Int) else n)).size = (131072 : Nat)) = true ∧ decide ((repV E (ByteArray.mk
      #[(255 : UInt8)]) (if (131072 : Int) < if (0 : Int) > n then (0 : Int) else n then (131072 : Int) else if (0 : Int) > n then (0 : Int) else n)).size = (131072 : Nat)) =
      true ∧ decide ((repV E (ByteArray.mk #[(255 : UInt8)]) (if (131072 : Int) < if (0 : Int) > n then (0 : Int) else n then (131072 : Int) else if (0 : Int) > n then (0 : Int)
      else n)).size = (131072 : Nat)) = true ∧ decide ((repV E (ByteArray.mk #[(255 : UInt8)]) (if (131072 : Int) < if (0 : Int) > n then (0 : Int) else n then (131072 : Int)
      else if (0 : Int) > n then (0 : Int) else n)).size = (131072 : Nat)) = true ∧ decide ((repV E (ByteArray.mk #[(255 : UInt8)]) (if (131072 : Int) < if (0 : Int) > n then (0
      : Int) else n then (131072 : Int) else if (0 : Int) > n then (0 : Int) else n)).size = (131072 : Nat)) = true ∧ decide ((repV E (ByteArray.mk #[(255 : UInt8)]) (if (131072
      : Int) < if (0 : Int) > n then (0 : Int) else n then (131072 : Int) else if (0 : Int) > n then (0 : Int) else n)).size = (131072 : Nat)) = true ∧ decide ((repV E
      (ByteArray.mk #[(255 : UInt8)]) (if (131072 : Int) < if (0 : Int) > n then (0 : Int) else n then (131072 : Int) else if (0 : Int) > n then (0 : Int) else n)).size =
      (131072 : Nat)) = true ∧ decide ((repV E (ByteArray.mk #[(255 : UInt8)]) (if (131072 : Int) < if (0 : Int) > n then (0 : Int) else n then (131072 : Int) else if (0 : Int)
      > n then (0 : Int) else n)).size = (131072 : Nat)) = true ∧ decide ((repV E (ByteArray.mk #[(255 : UInt8)]) (if (131072 : Int) < if (0 : Int) > n then (0 : Int) else n
      then (131072 : Int) else if (0 : Int) > n then (0 : Int) else n)).size = (131072 : Nat)) = true ∧ decide ((repV E (ByteArray.mk #[(255 : UInt8)]) (if (131072 : Int) < if
      (0 : Int) > n then (0 : Int) else n then (131072 : Int) else if (0 : Int) > n then (0 : Int) else n)).size = (131072 : Nat)) = true ∧ decide ((repV E (ByteArray.mk #[(255
      : UInt8)]) (if (131072 : Int) < if (0 : Int) > n then (0 : Int) else n then (131072 : Int) else if (0 : Int) > n then (0 : Int) else n)).size = (131072 : Nat)) = true ∧
      decide ((repV E (ByteArray.mk #[(255 : UInt8)]) (if (131072 : Int) < if (0 : Int) > n then (0 : Int) else n then (131072 : Int) else if (0 : Int) > n then (0 : Int) else
      n)).size = (131072 : Nat)) = true ∧ decide ((repV E (ByteArray.mk #[(255 : UInt8)]) (if (131072 : Int) < if (0 : Int) > n then (0 : Int) else n then (131072 : Int) else if
      (0 : Int) > n then (0 : Int) else n)).size = (131072 : Nat)) = true ∧ decide ((repV E (ByteArray.mk #[(255 : UInt8)]) (if (131072 : Int) < if (0 : Int) > n then (0 : Int)
      else n then (131072 : Int) else if (0 : Int) > n then (0 : Int) else n)).size = (131072 : Nat)) = true ∧ decide ((repV E (ByteArray.mk #[(255 : UInt8)]) (if (131072 : Int)
      < if (0 : Int) > n then (0 : Int) else n then (131072 : Int) else if (0 : Int) > n then (0 : Int) else n)).size = (131072 : Nat)) = true ∧ decide ((repV E (ByteArray.mk
      #[(255 : UInt8)]) (if (131072 : Int) < if (0 : Int) > n then (0 : Int) else n then (131072 : Int) else if (0 : Int) > n then (0 : Int) else n)).size = (131072 : Nat)) =
      true ∧ decide ((repV E (ByteArray.mk #[(255 : UInt8)]) (if (131072 : Int) < if (0 : Int) > n then (0 : Int) else n then (131072 : Int) else if (0 : Int) > n then (0 : Int)
      else n)).size = (131072 : Nat)) = true ∧ decide ((repV E (ByteArray.mk #[(255 : UInt8)]) (if (131072 : Int) < if (0 : Int) > n then (0 : Int) else n then (131072 : Int)
      else if (0 : Int) > n then (0 : Int) else n)).size = (131072 : Nat)) = true ∧ decide ((repV E (ByteArray.mk #[(255 : UInt8)]) (if (131072 : Int) < if (0 : Int) > n then (0
      : Int) else n then (131072 : Int) else if (0 : Int) > n then (0 : Int) else n)).size = (131072 : Nat)) = true ∧ decide ((repV E (ByteArray.mk #[(255 : UInt8)]) (if (131072
      : Int) < if (0 : Int) > n then (0 : Int) else n then (131072 : Int) else if (0 : Int) > n then (0 : Int) else n)).size = (131072 : Nat)) = true ∧ decide ((repV E
      (ByteArray.mk #[(255 : UInt8)]) (if (131072 : Int) < if (0 : Int) > n then (0 : Int) else n then (131072 : Int) else if (0 : Int) > n then (0 : Int) else n)).size =
      (131072 : Nat)) = true ∧ decide ((repV E (ByteArray.mk #[(255 : UInt8)]) (if (131072 : Int) < if (0 : Int) > n then (0 : Int) else n then (131072 : Int) else if (0 : Int)
      > n then (0 : Int) else n)).size = (131072 : Nat)) = true ∧ decide ((repV E (ByteArray.mk #[(255 : UInt8)]) (if (131072 : Int) < if (0 : Int) > n then (0 : Int) else n
      then (131072 : Int) else if (0 : Int) > n then (0 : Int) else n)).size = (131072 : Nat)) = true ∧ decide ((repV E (ByteArray.mk #[(255 : UInt8)]) (if (131072 : Int) < if
      (0 : Int) > n then (0 : Int) else n then (131072 : Int) else if (0 : Int) > n then (0 : Int) else n)).size = (131072 : Nat)) = true ∧ decide ((repV E (ByteArray.mk #[(255
      : UInt8)]) (if (131072 : Int) < if (0 : Int) > n then (0 : Int) else n then (131072 : Int) else if (0 : Int) > n then (0 : Int) else n)).size = (131072 : Nat)) = true ∧
      decide ((repV E (ByteArray.mk #[(255 : UInt8)]) (if (131072 : Int) < if (0 : Int) > n then (0 : Int) else n then (131072 : Int) else if (0 : Int) > n then (0 : Int) else
      n)).size = (131072 : Nat)) = true ∧ decide ((repV E (ByteArray.mk #[(255 : UInt8)]) (if (131072 : Int) < if (0 : Int) > n then (0 : Int) else n then (131072 : Int) else if
      (0 : Int) > n then (0 : Int) else n)).size = (131072 : Nat)) = true ∧ decide ((repV E (ByteArray.mk #[(255 : UInt8)]) (if (131072 : Int) < if (0 : Int) > n then (0 : Int)
      else n then (131072 : Int) else if (0 : Int) > n then (0 : Int) else n)).size = (131072 : Nat)) = true ∧ decide ((repV E (ByteArray.mk #[(255 : UInt8)]) (if (131072 : Int)
      < if (0 : Int) > n then (0 : Int) else n then (131072 : Int) else if (0 : Int) > n then (0 : Int) else n)).size = (131072 : Nat)) = true ∧ decide ((repV E (ByteArray.mk
      #[(255 : UInt8)]) (if (131072 : Int) < if (0 : Int) > n then (0 : Int) else n then (131072 : Int) else if (0 : Int) > n then (0 : Int) else n)).size = (131072 : Nat)) =
      true ∧ decide ((repV E (ByteArray.mk #[(255 : UInt8)]) (if (131072 : Int) < if (0 : Int) > n then (0 : Int) else n then (131072 : Int) else if (0 : Int) > n then (0 : Int)
      else n)).size = (131072 : Nat)) = true ∧ decide ((repV E (ByteArray.mk #[(255 : UInt8)]) (if (131072 : Int) < if (0 : Int) > n then (0 : Int) else n then (131072 : Int)
      else if (0 : Int) > n then (0 : Int) else n)).size = (131072 : Nat)) = true ∧ decide ((repV E (ByteArray.mk #[(255 : UInt8)]) (if (131072 : Int) < if (0 : Int) > n then (0
      : Int) else n then (131072 : Int) else if (0 : Int) > n then (0 : Int) else n)).size = (131072 : Nat)) = true ∧ decide ((repV E (ByteArray.mk #[(255 : UInt8)]) (if (131072
      : Int) < if (0 : Int) > n then (0 : Int) else n then (131072 : Int) else if (0 : Int) > n then (0 : Int) else n)).size = (131072 : Nat)) = true ∧ decide ((repV E
      (ByteArray.mk #[(255 : UInt8)]) (if (131072 : Int) < if (0 : Int) > n then (0 : Int) else n then (131072 : Int) else if (0 : Int) > n then (0 : Int) else n)).size =
      (131072 : Nat)) = true ∧ decide ((repV E (ByteArray.mk #[(255 : UInt8)]) (if (131072 : Int) < if (0 : Int) > n then (0 : Int) else n then (131072 : Int) else if (0 : Int)
      > n then (0 : Int) else n)).size = (131072 : Nat)) = true ∧ decide ((repV E (ByteArray.mk #[(255 : UInt8)]) (if (131072 : Int) < if (0 : Int) > n then (0 : Int) else n
      then (131072 : Int) else if (0 : Int) > n then (0 : Int) else n)).size = (131072 : Nat)) = true ∧ decide ((repV E (ByteArray.mk #[(255 : UInt8)]) (if (131072 : Int) < if
      (0 : Int) > n then (0 : Int) else n then (131072 : Int) else if (0 : Int) > n then (0 : Int) else n)).size = (131072 : Nat)) = true ∧ decide ((repV E (ByteArray.mk #[(255
      : UInt8)]) (if (131072 : Int) < if (0 : Int) > n then (0 : Int) else n then (131072 : Int) else if (0 : Int) > n then (0 : Int) else n)).size = (131072 : Nat)) = true ∧
      decide ((repV E (ByteArray.mk #[(255 : UInt8)]) (if (131072 : Int) < if (0 : Int) > n then (0 : Int) else n then (131072 : Int) else if (0 : Int) > n then (0 : Int) else
      n)).size = (131072 : Nat)) = true ∧ decide ((repV E (ByteArray.mk #[(255 : UInt8)]) (if (131072 : Int) < if (0 : Int) > n then (0 : Int) else n then (131072 : Int) else if
      (0 : Int) > n then (0 : Int) else n)).size = (131072 : Nat)) = true ∧ decide ((repV E (ByteArray.mk #[(255 : UInt8)]) (if (131072 : Int) < if (0 : Int) > n then (0 : Int)
      else n then (131072 : Int) else if (0 : Int) > n then (0 : Int) else n)).size = (131072 : Nat)) = true ∧ decide ((repV E (ByteArray.mk #[(255 : UInt8)]) (if (131072 : Int)
      < if (0 : Int) > n then (0 : Int) else n then (131072 : Int) else if (0 : Int) > n then (0 : Int) else n)).size = (131072 : Nat)) = true ∧ (((↑(repV E (ByteArray.mk #[(255
      : UInt8)]) (if (131072 : Int) < if (0 : Int) > n then (0 : Int) else n then (131072 : Int) else if (0 : Int) > n then (0 : Int) else n)).size : Int) == (65536 : Int)) =
      true → true = true) ∧ (((↑(repV E (ByteArray.mk #[(255 : UInt8)]) (if (131072 : Int) < if (0 : Int) > n then (0 : Int) else n then (131072 : Int) else if (0 : Int) > n
      then (0 : Int) else n)).size : Int) == (65536 : Int)) = false → (true ^^ true == ((↑(repV E (ByteArray.mk #[(255 : UInt8)]) (if (131072 : Int) < if (0 : Int) > n then (0 :
      Int) else n then (131072 : Int) else if (0 : Int) > n then (0 : Int) else n)).size : Int) == (131072 : Int))) = false ∧ true = true)) ∧ (decide ((repV E (ByteArray.mk
      #[(255 : UInt8)]) (if (131072 : Int) < if (0 : Int) > n then (0 : Int) else n then (131072 : Int) else if (0 : Int) > n then (0 : Int) else n)).size = (131072 : Nat)) =
      false → (((↑(repV E (ByteArray.mk #[(255 : UInt8)]) (if (131072 : Int) < if (0 : Int) > n then (0 : Int) else n then (131072 : Int) else if (0 : Int) > n then (0 : Int)
      else n)).size : Int) == (65536 : Int)) = true → (true ^^ ((1 : Int) == (0 : Int)) == true) = false ∧ (((1 : Int) != (0 : Int)) = true → ((1 : Int) != (1 : Int)) = false ∧
      true = true) ∧ (((1 : Int) != (0 : Int)) = false → true = true)) ∧ (((↑(repV E (ByteArray.mk #[(255 : UInt8)]) (if (131072 : Int) < if (0 : Int) > n then (0 : Int) else n
      then (131072 : Int) else if (0 : Int) > n then (0 : Int) else n)).size : Int) == (65536 : Int)) = false → (true ^^ ((1 : Int) == (0 : Int)) == ((↑(repV E (ByteArray.mk
      #[(255 : UInt8)]) (if (131072 : Int) < if (0 : Int) > n then (0 : Int) else n then (131072 : Int) else if (0 : Int) > n then (0 : Int) else n)).size : Int) == (131072 :
      Int))) = false ∧ (((1 : Int) != (0 : Int)) = true → ((1 : Int) != (1 : Int)) = false ∧ true = true) ∧ (((1 : Int) != (0 : Int)) = false → true = true))))) := by kernel_rfl
theorem made_l (E : World) (n : Int) (a : Int) (b : Int) : Holds (lawP (fnTree (pe E) (orcN E) (tabL fns) 20000 Try.f6 [.c (.i false .i64 n), .c (.i false .u32 a), .c (.i false .u8 b)] [])) := ⟨by
  rw [made_p]
  obtain ⟨m, hm, h0, h1, h2⟩ : ∃ m : Int, (if (131072 : Int) < if (0 : Int) > n then (0 : Int) else n then (131072 : Int) else if (0 : Int) > n then (0 : Int) else n) = m ∧ 0 ≤ m ∧ m ≤ 131072 ∧
      (if (if (131072 : Int) < n then (131072 : Int) else n) > (0 : Int) then (if (131072 : Int) < n then (131072 : Int) else n) else (0 : Int)) = m := by
    refine ⟨_, rfl, ?_, ?_, ?_⟩ <;> (repeat' split) <;> omega
  rw [hm, h2]
  have hs : ((repV E (ByteArray.mk #[(255 : UInt8)]) m).size : Int) = m := by
    rw [size_repV, show (ByteArray.mk #[(255 : UInt8)]).size = 1 from rfl]; omega
  have hok : repOK (ByteArray.mk #[(255 : UInt8)]) m = true := by
    have : Nat.ble (1 * m.toNat) 140737488355328 = true := Nat.ble_eq_true_of_le (by omega)
    simp only [repOK, show (ByteArray.mk #[(255 : UInt8)]).size = 1 from rfl, this, Bool.and_eq_true, decide_eq_true_eq, and_true]; omega
  rw [hok]
  generalize (repV E (ByteArray.mk #[(255 : UInt8)]) m).size = k at *
  refine ⟨rfl, by rw [hs]; simp, ?_, ?_⟩
  · intro h
    have h := of_decide_eq_true h
    subst h
    simp
  · intro h
    have h := of_decide_eq_false h
    have e : ((k : Int) == 65536) = false := by simp; omega
    refine ⟨fun h' => ?_, fun h' => ?_⟩
    · have h' := of_decide_eq_true h'
      subst h'
      simp
    · have h' := of_decide_eq_false h'
      have e2 : ((k : Int) == 131072) = false := by simp; omega
      simp [e, e2]⟩
end Go.Proofs.Ytoldbgelneibbaa

