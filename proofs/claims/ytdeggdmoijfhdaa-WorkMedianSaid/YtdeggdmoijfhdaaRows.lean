/-
  No cell of these rows narrows 'for every input' (looked for: loops, veiled, ifaces, maps, wideKeys, modest, calm, conditions, laid).
  DERIVED. THE GIVEN ROWS OF THIS SEAT. 6 by the template 'for every input the law returns true; each argument reads behind the call as it read before'; 0 by the template 'total and deterministic' (their statements: YtdeggdmoijfhdaaTotals.lean).
  GIVEN WITH THE SEED: the statements are not yours to turn. If you find one false, say at which input.
  Laid BY PROGRAM, IN A SANDBOX (cutbox-rows.mjs): the forced cells as the released guide's own fill.sh prints them over the translation 290f7523e3abddbb… (all of the seat's roots in one cut). By AI agents, Wed Nov 11 2026. No macro, syntax, notation, axiom, sorry.
-/
import Derived.Test.YtdeggdmoijfhdaaChecked
import GoSem.Claim
import GoSem.ClaimJoined
import GoSem.ClaimMapViews
import Derived.JoinedTies
import Derived.KernelRfl
namespace Go.Proofs.Ytdeggdmoijfhdaa
/- THE CELL 'sum', in the pinned program and in every row, IS THE sha256 OF THE DUMP (.gsa) THAT YtdeggdmoijfhdaaProg.lean LOADS. Nothing in Lean hashes anything: it is a label: what it is worth is what the hold of that sum in a sandbox is worth. -/
noncomputable def Try.pinned : Pinned := { name := "ytdeggdmoijfhdaa", sum := "290f7523e3abddbb1f3d49e3ad81bdff5f5a55666b78296bee3c90b6e6a144e5", checked := Try.checked }
namespace Rows
def none {H : Type} : Left H := { results := [], args := [] }

/-- 'bynamelaw12.WorkNames': WHATEVER THE INPUT: true; the input reads as it did. -/
def workNamesSpec : ChangeSpec := { name := "workNames", fn := fun _ => fun
  | [] => { results := [.lit (.bool true)], args := [] }
  | _ => none }
def workNamesRow : OpenClaim := { program := "ytdeggdmoijfhdaa", sum := "290f7523e3abddbb1f3d49e3ad81bdff5f5a55666b78296bee3c90b6e6a144e5", func := "byname/bynamelaw12.WorkNames", spec := "workNames", inPlace := ["math/bits.Sub64", "math/bits.Add64"], unfollowed := true, recurses := true, apart := false }
def WorkNamesSaid : Prop := workNamesRow.holds Try.pinned (OpenSpec.ofChange workNamesSpec)

/-- ITS FALSE NEIGHBOUR: 'it returns false'. Refute it at one input. -/
def workNamesWrong : ChangeSpec := { name := "workNames", fn := fun _ => fun
  | [] => { results := [.lit (.bool false)], args := [] }
  | _ => none }
def WorkNamesWrongFalsely : Prop := workNamesRow.holds Try.pinned (OpenSpec.ofChange workNamesWrong)

/-- 'bynamelaw12.WorkTargets': WHATEVER THE INPUT: true; the input reads as it did. -/
def workTargetsSpec : ChangeSpec := { name := "workTargets", fn := fun _ => fun
  | [d1, d2] => { results := [.lit (.bool true)], args := [d1, d2] }
  | _ => none }
def workTargetsRow : OpenClaim := { program := "ytdeggdmoijfhdaa", sum := "290f7523e3abddbb1f3d49e3ad81bdff5f5a55666b78296bee3c90b6e6a144e5", func := "byname/bynamelaw12.WorkTargets", spec := "workTargets", inPlace := ["math/bits.Sub64", "math/bits.Add64"], apart := false }
def WorkTargetsSaid : Prop := workTargetsRow.holds Try.pinned (OpenSpec.ofChange workTargetsSpec)

/-- ITS FALSE NEIGHBOUR: 'it returns false'. Refute it at one input. -/
def workTargetsWrong : ChangeSpec := { name := "workTargets", fn := fun _ => fun
  | [d1, d2] => { results := [.lit (.bool false)], args := [d1, d2] }
  | _ => none }
def WorkTargetsWrongFalsely : Prop := workTargetsRow.holds Try.pinned (OpenSpec.ofChange workTargetsWrong)

/-- 'bynamelaw12.WorkNext': WHATEVER THE INPUT: true; the input reads as it did. -/
def workNextSpec : ChangeSpec := { name := "workNext", fn := fun _ => fun
  | [d1, d2, d3] => { results := [.lit (.bool true)], args := [d1, d2, d3] }
  | _ => none }
def workNextRow : OpenClaim := { program := "ytdeggdmoijfhdaa", sum := "290f7523e3abddbb1f3d49e3ad81bdff5f5a55666b78296bee3c90b6e6a144e5", func := "byname/bynamelaw12.WorkNext", spec := "workNext", inPlace := ["math/bits.Sub64", "math/bits.Add64"], apart := false }
def WorkNextSaid : Prop := workNextRow.holds Try.pinned (OpenSpec.ofChange workNextSpec)

/-- ITS FALSE NEIGHBOUR: 'it returns false'. Refute it at one input. -/
def workNextWrong : ChangeSpec := { name := "workNext", fn := fun _ => fun
  | [d1, d2, d3] => { results := [.lit (.bool false)], args := [d1, d2, d3] }
  | _ => none }
def WorkNextWrongFalsely : Prop := workNextRow.holds Try.pinned (OpenSpec.ofChange workNextWrong)

/-- 'bynamelaw12.WorkMedian': WHATEVER THE INPUT: true; the input reads as it did. -/
def workMedianSpec : ChangeSpec := { name := "workMedian", fn := fun _ => fun
  | [d] => { results := [.lit (.bool true)], args := [d] }
  | _ => none }
def workMedianRow : OpenClaim := { program := "ytdeggdmoijfhdaa", sum := "290f7523e3abddbb1f3d49e3ad81bdff5f5a55666b78296bee3c90b6e6a144e5", func := "byname/bynamelaw12.WorkMedian", spec := "workMedian", inPlace := ["math/bits.Sub64", "math/bits.Add64"], unfollowed := true, recurses := true, apart := false }
def WorkMedianSaid : Prop := workMedianRow.holds Try.pinned (OpenSpec.ofChange workMedianSpec)

/-- ITS FALSE NEIGHBOUR: 'it returns false'. Refute it at one input. -/
def workMedianWrong : ChangeSpec := { name := "workMedian", fn := fun _ => fun
  | [d] => { results := [.lit (.bool false)], args := [d] }
  | _ => none }
def WorkMedianWrongFalsely : Prop := workMedianRow.holds Try.pinned (OpenSpec.ofChange workMedianWrong)

/-- 'bynamelaw12.WorkHarder': WHATEVER THE INPUT: true; the input reads as it did. -/
def workHarderSpec : ChangeSpec := { name := "workHarder", fn := fun _ => fun
  | [d1, d2, d3] => { results := [.lit (.bool true)], args := [d1, d2, d3] }
  | _ => none }
def workHarderRow : OpenClaim := { program := "ytdeggdmoijfhdaa", sum := "290f7523e3abddbb1f3d49e3ad81bdff5f5a55666b78296bee3c90b6e6a144e5", func := "byname/bynamelaw12.WorkHarder", spec := "workHarder", inPlace := ["math/bits.Sub64", "math/bits.Add64"], apart := false }
def WorkHarderSaid : Prop := workHarderRow.holds Try.pinned (OpenSpec.ofChange workHarderSpec)

/-- ITS FALSE NEIGHBOUR: 'it returns false'. Refute it at one input. -/
def workHarderWrong : ChangeSpec := { name := "workHarder", fn := fun _ => fun
  | [d1, d2, d3] => { results := [.lit (.bool false)], args := [d1, d2, d3] }
  | _ => none }
def WorkHarderWrongFalsely : Prop := workHarderRow.holds Try.pinned (OpenSpec.ofChange workHarderWrong)

/-- 'bynamelaw12.WorkBack': WHATEVER THE INPUT: true; the input reads as it did. -/
def workBackSpec : ChangeSpec := { name := "workBack", fn := fun _ => fun
  | [d1, d2] => { results := [.lit (.bool true)], args := [d1, d2] }
  | _ => none }
def workBackRow : OpenClaim := { program := "ytdeggdmoijfhdaa", sum := "290f7523e3abddbb1f3d49e3ad81bdff5f5a55666b78296bee3c90b6e6a144e5", func := "byname/bynamelaw12.WorkBack", spec := "workBack", inPlace := ["math/bits.Sub64", "math/bits.Add64"], apart := false }
def WorkBackSaid : Prop := workBackRow.holds Try.pinned (OpenSpec.ofChange workBackSpec)

/-- ITS FALSE NEIGHBOUR: 'it returns false'. Refute it at one input. -/
def workBackWrong : ChangeSpec := { name := "workBack", fn := fun _ => fun
  | [d1, d2] => { results := [.lit (.bool false)], args := [d1, d2] }
  | _ => none }
def WorkBackWrongFalsely : Prop := workBackRow.holds Try.pinned (OpenSpec.ofChange workBackWrong)

/- THE SECOND FORM. 'bulk': how many values and letters a reading holds, each counted each time it is reached (what is shared counts as often as it is met; a slice's spare places count too). A statement '..UptoSaid' is the law's where the arguments, and the package variables that the reading takes, are together of bulk at most 1048576: NARROWER than '..Said'. Prove '..Said' where nothing that the law and all that it calls make is longer than what came in: it says more and counts as full. Else prove '..UptoSaid'. A law counts once. -/
mutual
def uptoBulk {H : Type} : DataW H → Nat
  | .lit (.string bytes) => bytes.length + 1
  | .lit _ => 1
  | .nil => 1
  | .ptr d => uptoBulk d + 1
  | .slice elems spare => uptoBulkAll elems + uptoBulkAll spare + 1
  | .agg parts => uptoBulkAll parts + 1
  | .iface _ d => uptoBulk d + 1
  | .map entries => uptoBulkEntries entries + 1
  | .held _ => 1
def uptoBulkAll {H : Type} : List (DataW H) → Nat
  | [] => 0
  | d :: r => uptoBulk d + uptoBulkAll r
def uptoBulkEntries {H : Type} : List (Lit × DataW H) → Nat
  | [] => 0
  | x :: r => uptoBulkEntry x + uptoBulkEntries r
def uptoBulkEntry {H : Type} : Lit × DataW H → Nat
  | (.string bytes, d) => bytes.length + uptoBulk d + 1
  | (_, d) => uptoBulk d + 1
 end
def uptoSmall : (H : Type) → List (DataW H) → Bool := fun _ ds => decide (uptoBulkAll ds ≤ 1048576)
def OpenSpec.upto (s : _root_.Go.ChangeSpec) : _root_.Go.OpenSpec := { _root_.Go.OpenSpec.ofChange s with cond := some uptoSmall }

/-- 'bynamelaw12.WorkNames', WHERE WHAT IT READS IS OF BULK AT MOST 1048576: true; the input reads as it did. -/
def workNamesUptoRow : OpenClaim := { program := "ytdeggdmoijfhdaa", sum := "290f7523e3abddbb1f3d49e3ad81bdff5f5a55666b78296bee3c90b6e6a144e5", func := "byname/bynamelaw12.WorkNames", spec := "workNames", inPlace := ["math/bits.Sub64", "math/bits.Add64"], unfollowed := true, recurses := true, apart := false, narrowed := true }
def WorkNamesUptoSaid : Prop := workNamesUptoRow.holds Try.pinned (OpenSpec.upto workNamesSpec)

/-- 'bynamelaw12.WorkTargets', WHERE WHAT IT READS IS OF BULK AT MOST 1048576: true; the input reads as it did. -/
def workTargetsUptoRow : OpenClaim := { program := "ytdeggdmoijfhdaa", sum := "290f7523e3abddbb1f3d49e3ad81bdff5f5a55666b78296bee3c90b6e6a144e5", func := "byname/bynamelaw12.WorkTargets", spec := "workTargets", inPlace := ["math/bits.Sub64", "math/bits.Add64"], apart := false, narrowed := true }
def WorkTargetsUptoSaid : Prop := workTargetsUptoRow.holds Try.pinned (OpenSpec.upto workTargetsSpec)

/-- 'bynamelaw12.WorkNext', WHERE WHAT IT READS IS OF BULK AT MOST 1048576: true; the input reads as it did. -/
def workNextUptoRow : OpenClaim := { program := "ytdeggdmoijfhdaa", sum := "290f7523e3abddbb1f3d49e3ad81bdff5f5a55666b78296bee3c90b6e6a144e5", func := "byname/bynamelaw12.WorkNext", spec := "workNext", inPlace := ["math/bits.Sub64", "math/bits.Add64"], apart := false, narrowed := true }
def WorkNextUptoSaid : Prop := workNextUptoRow.holds Try.pinned (OpenSpec.upto workNextSpec)

/-- 'bynamelaw12.WorkMedian', WHERE WHAT IT READS IS OF BULK AT MOST 1048576: true; the input reads as it did. -/
def workMedianUptoRow : OpenClaim := { program := "ytdeggdmoijfhdaa", sum := "290f7523e3abddbb1f3d49e3ad81bdff5f5a55666b78296bee3c90b6e6a144e5", func := "byname/bynamelaw12.WorkMedian", spec := "workMedian", inPlace := ["math/bits.Sub64", "math/bits.Add64"], unfollowed := true, recurses := true, apart := false, narrowed := true }
def WorkMedianUptoSaid : Prop := workMedianUptoRow.holds Try.pinned (OpenSpec.upto workMedianSpec)

/-- 'bynamelaw12.WorkHarder', WHERE WHAT IT READS IS OF BULK AT MOST 1048576: true; the input reads as it did. -/
def workHarderUptoRow : OpenClaim := { program := "ytdeggdmoijfhdaa", sum := "290f7523e3abddbb1f3d49e3ad81bdff5f5a55666b78296bee3c90b6e6a144e5", func := "byname/bynamelaw12.WorkHarder", spec := "workHarder", inPlace := ["math/bits.Sub64", "math/bits.Add64"], apart := false, narrowed := true }
def WorkHarderUptoSaid : Prop := workHarderUptoRow.holds Try.pinned (OpenSpec.upto workHarderSpec)

/-- 'bynamelaw12.WorkBack', WHERE WHAT IT READS IS OF BULK AT MOST 1048576: true; the input reads as it did. -/
def workBackUptoRow : OpenClaim := { program := "ytdeggdmoijfhdaa", sum := "290f7523e3abddbb1f3d49e3ad81bdff5f5a55666b78296bee3c90b6e6a144e5", func := "byname/bynamelaw12.WorkBack", spec := "workBack", inPlace := ["math/bits.Sub64", "math/bits.Add64"], apart := false, narrowed := true }
def WorkBackUptoSaid : Prop := workBackUptoRow.holds Try.pinned (OpenSpec.upto workBackSpec)

end Rows
end Go.Proofs.Ytdeggdmoijfhdaa
