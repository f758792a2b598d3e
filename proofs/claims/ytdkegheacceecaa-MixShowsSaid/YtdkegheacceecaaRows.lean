/-
  No cell of these rows narrows 'for every input' (looked for: loops, veiled, ifaces, maps, wideKeys, modest, calm, conditions, laid).
  DERIVED. THE GIVEN ROWS OF THIS SEAT. 5 by the template 'for every input the law returns true; each argument reads behind the call as it read before'; 0 by the template 'total and deterministic' (their statements: YtdkegheacceecaaTotals.lean).
  GIVEN WITH THE SEED: the statements are not yours to turn. If you find one false, say at which input.
  Laid BY PROGRAM, IN A SANDBOX (cutbox-rows.mjs): the forced cells as the released guide's own fill.sh prints them over the translation 6f881324d41a4393… (all of the seat's roots in one cut). By AI agents, Wed Nov 11 2026. No macro, syntax, notation, axiom, sorry.
-/
import Derived.Test.YtdkegheacceecaaChecked
import GoSem.Claim
import GoSem.ClaimJoined
import GoSem.ClaimMapViews
import Derived.JoinedTies
import Derived.KernelRfl
namespace Go.Proofs.Ytdkegheacceecaa
/- THE CELL 'sum', in the pinned program and in every row, IS THE sha256 OF THE DUMP (.gsa) THAT YtdkegheacceecaaProg.lean LOADS. Nothing in Lean hashes anything: it is a label: what it is worth is what the hold of that sum in a sandbox is worth. -/
noncomputable def Try.pinned : Pinned := { name := "ytdkegheacceecaa", sum := "6f881324d41a4393359de11cde70043aa7b26a0072f8549c8962ca6f520fa60b", checked := Try.checked }
namespace Rows
def none {H : Type} : Left H := { results := [], args := [] }

/-- 'cameolaw21.MixLines': WHATEVER THE INPUT: true; the input reads as it did. -/
def mixLinesSpec : ChangeSpec := { name := "mixLines", fn := fun _ => fun
  | [d1, d2, d3] => { results := [.lit (.bool true)], args := [d1, d2, d3] }
  | _ => none }
def mixLinesRow : OpenClaim := { program := "ytdkegheacceecaa", sum := "6f881324d41a4393359de11cde70043aa7b26a0072f8549c8962ca6f520fa60b", func := "cameo/cameolaw21.MixLines", spec := "mixLines", unfollowed := true, recurses := true, apart := false }
def MixLinesSaid : Prop := mixLinesRow.holds Try.pinned (OpenSpec.ofChange mixLinesSpec)

/-- ITS FALSE NEIGHBOUR: 'it returns false'. Refute it at one input. -/
def mixLinesWrong : ChangeSpec := { name := "mixLines", fn := fun _ => fun
  | [d1, d2, d3] => { results := [.lit (.bool false)], args := [d1, d2, d3] }
  | _ => none }
def MixLinesWrongFalsely : Prop := mixLinesRow.holds Try.pinned (OpenSpec.ofChange mixLinesWrong)

/-- 'cameolaw21.MixShows': WHATEVER THE INPUT: true; the input reads as it did. -/
def mixShowsSpec : ChangeSpec := { name := "mixShows", fn := fun _ => fun
  | [d1, d2, d3] => { results := [.lit (.bool true)], args := [d1, d2, d3] }
  | _ => none }
def mixShowsRow : OpenClaim := { program := "ytdkegheacceecaa", sum := "6f881324d41a4393359de11cde70043aa7b26a0072f8549c8962ca6f520fa60b", func := "cameo/cameolaw21.MixShows", spec := "mixShows", unfollowed := true, recurses := true, apart := false }
def MixShowsSaid : Prop := mixShowsRow.holds Try.pinned (OpenSpec.ofChange mixShowsSpec)

/-- ITS FALSE NEIGHBOUR: 'it returns false'. Refute it at one input. -/
def mixShowsWrong : ChangeSpec := { name := "mixShows", fn := fun _ => fun
  | [d1, d2, d3] => { results := [.lit (.bool false)], args := [d1, d2, d3] }
  | _ => none }
def MixShowsWrongFalsely : Prop := mixShowsRow.holds Try.pinned (OpenSpec.ofChange mixShowsWrong)

/-- 'cameolaw21.MixPlain': WHATEVER THE INPUT: true; the input reads as it did. -/
def mixPlainSpec : ChangeSpec := { name := "mixPlain", fn := fun _ => fun
  | [d1, d2] => { results := [.lit (.bool true)], args := [d1, d2] }
  | _ => none }
def mixPlainRow : OpenClaim := { program := "ytdkegheacceecaa", sum := "6f881324d41a4393359de11cde70043aa7b26a0072f8549c8962ca6f520fa60b", func := "cameo/cameolaw21.MixPlain", spec := "mixPlain", unfollowed := true, recurses := true, apart := false }
def MixPlainSaid : Prop := mixPlainRow.holds Try.pinned (OpenSpec.ofChange mixPlainSpec)

/-- ITS FALSE NEIGHBOUR: 'it returns false'. Refute it at one input. -/
def mixPlainWrong : ChangeSpec := { name := "mixPlain", fn := fun _ => fun
  | [d1, d2] => { results := [.lit (.bool false)], args := [d1, d2] }
  | _ => none }
def MixPlainWrongFalsely : Prop := mixPlainRow.holds Try.pinned (OpenSpec.ofChange mixPlainWrong)

/-- 'cameolaw21.MixEnds': WHATEVER THE INPUT: true; the input reads as it did. -/
def mixEndsSpec : ChangeSpec := { name := "mixEnds", fn := fun _ => fun
  | [d1, d2] => { results := [.lit (.bool true)], args := [d1, d2] }
  | _ => none }
def mixEndsRow : OpenClaim := { program := "ytdkegheacceecaa", sum := "6f881324d41a4393359de11cde70043aa7b26a0072f8549c8962ca6f520fa60b", func := "cameo/cameolaw21.MixEnds", spec := "mixEnds", unfollowed := true, recurses := true, apart := false }
def MixEndsSaid : Prop := mixEndsRow.holds Try.pinned (OpenSpec.ofChange mixEndsSpec)

/-- ITS FALSE NEIGHBOUR: 'it returns false'. Refute it at one input. -/
def mixEndsWrong : ChangeSpec := { name := "mixEnds", fn := fun _ => fun
  | [d1, d2] => { results := [.lit (.bool false)], args := [d1, d2] }
  | _ => none }
def MixEndsWrongFalsely : Prop := mixEndsRow.holds Try.pinned (OpenSpec.ofChange mixEndsWrong)

/-- 'cameolaw21.MixWindows': WHATEVER THE INPUT: true; the input reads as it did. -/
def mixWindowsSpec : ChangeSpec := { name := "mixWindows", fn := fun _ => fun
  | [d1, d2, d3] => { results := [.lit (.bool true)], args := [d1, d2, d3] }
  | _ => none }
def mixWindowsRow : OpenClaim := { program := "ytdkegheacceecaa", sum := "6f881324d41a4393359de11cde70043aa7b26a0072f8549c8962ca6f520fa60b", func := "cameo/cameolaw21.MixWindows", spec := "mixWindows", unfollowed := true, recurses := true, apart := false }
def MixWindowsSaid : Prop := mixWindowsRow.holds Try.pinned (OpenSpec.ofChange mixWindowsSpec)

/-- ITS FALSE NEIGHBOUR: 'it returns false'. Refute it at one input. -/
def mixWindowsWrong : ChangeSpec := { name := "mixWindows", fn := fun _ => fun
  | [d1, d2, d3] => { results := [.lit (.bool false)], args := [d1, d2, d3] }
  | _ => none }
def MixWindowsWrongFalsely : Prop := mixWindowsRow.holds Try.pinned (OpenSpec.ofChange mixWindowsWrong)

/- THE SECOND FORM. 'bulk': how many values and letters a reading holds, each counted each time it is reached (what is shared counts as often as it is met; a slice's spare places count too). A statement '..UptoSaid' is the law's where the arguments, and the package variables that the reading takes, are together of bulk at most 1048576: NARROWER than '..Said'. Prove '..Said' where nothing that the law and all that it calls make is longer than what came in: it says more and counts as full. Else prove '..UptoSaid'. A law counts once. -/
mutual
def uptoBulk {H : Type} : DataW H → Nat
  | .lit (.string bytes) => bytes.length + 1
  | .lit _ => 1
  | .nil => 1
  | .ptr d => uptoBulk d + 1
  | .slice elems spare => uptoBulkAll elems + uptoBulkAll spare + 1
  | .agg parts => uptoBulkAll parts + 1
  | .iface _ d => uptoBulk d + 1
  | .map entries => uptoBulkEntries entries + 1
  | .held _ => 1
def uptoBulkAll {H : Type} : List (DataW H) → Nat
  | [] => 0
  | d :: r => uptoBulk d + uptoBulkAll r
def uptoBulkEntries {H : Type} : List (Lit × DataW H) → Nat
  | [] => 0
  | x :: r => uptoBulkEntry x + uptoBulkEntries r
def uptoBulkEntry {H : Type} : Lit × DataW H → Nat
  | (.string bytes, d) => bytes.length + uptoBulk d + 1
  | (_, d) => uptoBulk d + 1
 end
def uptoSmall : (H : Type) → List (DataW H) → Bool := fun _ ds => decide (uptoBulkAll ds ≤ 1048576)
def OpenSpec.upto (s : _root_.Go.ChangeSpec) : _root_.Go.OpenSpec := { _root_.Go.OpenSpec.ofChange s with cond := some uptoSmall }

/-- 'cameolaw21.MixLines', WHERE WHAT IT READS IS OF BULK AT MOST 1048576: true; the input reads as it did. -/
def mixLinesUptoRow : OpenClaim := { program := "ytdkegheacceecaa", sum := "6f881324d41a4393359de11cde70043aa7b26a0072f8549c8962ca6f520fa60b", func := "cameo/cameolaw21.MixLines", spec := "mixLines", unfollowed := true, recurses := true, apart := false, narrowed := true }
def MixLinesUptoSaid : Prop := mixLinesUptoRow.holds Try.pinned (OpenSpec.upto mixLinesSpec)

/-- 'cameolaw21.MixShows', WHERE WHAT IT READS IS OF BULK AT MOST 1048576: true; the input reads as it did. -/
def mixShowsUptoRow : OpenClaim := { program := "ytdkegheacceecaa", sum := "6f881324d41a4393359de11cde70043aa7b26a0072f8549c8962ca6f520fa60b", func := "cameo/cameolaw21.MixShows", spec := "mixShows", unfollowed := true, recurses := true, apart := false, narrowed := true }
def MixShowsUptoSaid : Prop := mixShowsUptoRow.holds Try.pinned (OpenSpec.upto mixShowsSpec)

/-- 'cameolaw21.MixPlain', WHERE WHAT IT READS IS OF BULK AT MOST 1048576: true; the input reads as it did. -/
def mixPlainUptoRow : OpenClaim := { program := "ytdkegheacceecaa", sum := "6f881324d41a4393359de11cde70043aa7b26a0072f8549c8962ca6f520fa60b", func := "cameo/cameolaw21.MixPlain", spec := "mixPlain", unfollowed := true, recurses := true, apart := false, narrowed := true }
def MixPlainUptoSaid : Prop := mixPlainUptoRow.holds Try.pinned (OpenSpec.upto mixPlainSpec)

/-- 'cameolaw21.MixEnds', WHERE WHAT IT READS IS OF BULK AT MOST 1048576: true; the input reads as it did. -/
def mixEndsUptoRow : OpenClaim := { program := "ytdkegheacceecaa", sum := "6f881324d41a4393359de11cde70043aa7b26a0072f8549c8962ca6f520fa60b", func := "cameo/cameolaw21.MixEnds", spec := "mixEnds", unfollowed := true, recurses := true, apart := false, narrowed := true }
def MixEndsUptoSaid : Prop := mixEndsUptoRow.holds Try.pinned (OpenSpec.upto mixEndsSpec)

/-- 'cameolaw21.MixWindows', WHERE WHAT IT READS IS OF BULK AT MOST 1048576: true; the input reads as it did. -/
def mixWindowsUptoRow : OpenClaim := { program := "ytdkegheacceecaa", sum := "6f881324d41a4393359de11cde70043aa7b26a0072f8549c8962ca6f520fa60b", func := "cameo/cameolaw21.MixWindows", spec := "mixWindows", unfollowed := true, recurses := true, apart := false, narrowed := true }
def MixWindowsUptoSaid : Prop := mixWindowsUptoRow.holds Try.pinned (OpenSpec.upto mixWindowsSpec)

end Rows
end Go.Proofs.Ytdkegheacceecaa
