/-
  No cell of these rows narrows 'for every input' (looked for: loops, veiled, ifaces, maps, wideKeys, modest, calm, conditions, laid).
  DERIVED. THE GIVEN ROWS OF THIS SEAT. 5 by the template 'for every input the law returns true; each argument reads behind the call as it read before'; 0 by the template 'total and deterministic' (their statements: YtgichipcmbnnhaaTotals.lean).
  GIVEN WITH THE SEED: the statements are not yours to turn. If you find one false, say at which input.
  Laid BY PROGRAM, IN A SANDBOX (cutbox-rows.mjs): the forced cells as the released guide's own fill.sh prints them over the translation 3d838f6c1192b550… (all of the seat's roots in one cut). By AI agents, Wed Nov 11 2026. No macro, syntax, notation, axiom, sorry.
-/
import Derived.Test.YtgichipcmbnnhaaChecked
import GoSem.Claim
import GoSem.ClaimJoined
import GoSem.ClaimMapViews
import Derived.JoinedTies
import Derived.KernelRfl
namespace Go.Proofs.Ytgichipcmbnnhaa
/- THE CELL 'sum', in the pinned program and in every row, IS THE sha256 OF THE DUMP (.gsa) THAT YtgichipcmbnnhaaProg.lean LOADS. Nothing in Lean hashes anything: it is a label: what it is worth is what the hold of that sum in a sandbox is worth. -/
noncomputable def Try.pinned : Pinned := { name := "ytgichipcmbnnhaa", sum := "3d838f6c1192b5507c35197e39cee2eec76804e35d45ae1412daea93649fbf31", checked := Try.checked }
namespace Rows
def none {H : Type} : Left H := { results := [], args := [] }

/-- 'bynamelaw09.CoinNames': WHATEVER THE INPUT: true; the input reads as it did. -/
def coinNamesSpec : ChangeSpec := { name := "coinNames", fn := fun _ => fun
  | [] => { results := [.lit (.bool true)], args := [] }
  | _ => none }
def coinNamesRow : OpenClaim := { program := "ytgichipcmbnnhaa", sum := "3d838f6c1192b5507c35197e39cee2eec76804e35d45ae1412daea93649fbf31", func := "byname/bynamelaw09.CoinNames", spec := "coinNames", unfollowed := true, recurses := true, apart := false }
def CoinNamesSaid : Prop := coinNamesRow.holds Try.pinned (OpenSpec.ofChange coinNamesSpec)

/-- ITS FALSE NEIGHBOUR: 'it returns false'. Refute it at one input. -/
def coinNamesWrong : ChangeSpec := { name := "coinNames", fn := fun _ => fun
  | [] => { results := [.lit (.bool false)], args := [] }
  | _ => none }
def CoinNamesWrongFalsely : Prop := coinNamesRow.holds Try.pinned (OpenSpec.ofChange coinNamesWrong)

/-- 'bynamelaw09.CoinSums': WHATEVER THE INPUT: true; the input reads as it did. -/
def coinSumsSpec : ChangeSpec := { name := "coinSums", fn := fun _ => fun
  | [d1, d2] => { results := [.lit (.bool true)], args := [d1, d2] }
  | _ => none }
def coinSumsRow : OpenClaim := { program := "ytgichipcmbnnhaa", sum := "3d838f6c1192b5507c35197e39cee2eec76804e35d45ae1412daea93649fbf31", func := "byname/bynamelaw09.CoinSums", spec := "coinSums", unfollowed := true, recurses := true, apart := false }
def CoinSumsSaid : Prop := coinSumsRow.holds Try.pinned (OpenSpec.ofChange coinSumsSpec)

/-- ITS FALSE NEIGHBOUR: 'it returns false'. Refute it at one input. -/
def coinSumsWrong : ChangeSpec := { name := "coinSums", fn := fun _ => fun
  | [d1, d2] => { results := [.lit (.bool false)], args := [d1, d2] }
  | _ => none }
def CoinSumsWrongFalsely : Prop := coinSumsRow.holds Try.pinned (OpenSpec.ofChange coinSumsWrong)

/-- 'bynamelaw09.CoinRefs': WHATEVER THE INPUT: true; the input reads as it did. -/
def coinRefsSpec : ChangeSpec := { name := "coinRefs", fn := fun _ => fun
  | [d1, d2, d3] => { results := [.lit (.bool true)], args := [d1, d2, d3] }
  | _ => none }
def coinRefsRow : OpenClaim := { program := "ytgichipcmbnnhaa", sum := "3d838f6c1192b5507c35197e39cee2eec76804e35d45ae1412daea93649fbf31", func := "byname/bynamelaw09.CoinRefs", spec := "coinRefs", unfollowed := true, recurses := true, apart := false }
def CoinRefsSaid : Prop := coinRefsRow.holds Try.pinned (OpenSpec.ofChange coinRefsSpec)

/-- ITS FALSE NEIGHBOUR: 'it returns false'. Refute it at one input. -/
def coinRefsWrong : ChangeSpec := { name := "coinRefs", fn := fun _ => fun
  | [d1, d2, d3] => { results := [.lit (.bool false)], args := [d1, d2, d3] }
  | _ => none }
def CoinRefsWrongFalsely : Prop := coinRefsRow.holds Try.pinned (OpenSpec.ofChange coinRefsWrong)

/-- 'bynamelaw09.CoinBytes': WHATEVER THE INPUT: true; the input reads as it did. -/
def coinBytesSpec : ChangeSpec := { name := "coinBytes", fn := fun _ => fun
  | [d1, d2, d3] => { results := [.lit (.bool true)], args := [d1, d2, d3] }
  | _ => none }
def coinBytesRow : OpenClaim := { program := "ytgichipcmbnnhaa", sum := "3d838f6c1192b5507c35197e39cee2eec76804e35d45ae1412daea93649fbf31", func := "byname/bynamelaw09.CoinBytes", spec := "coinBytes", unfollowed := true, recurses := true, apart := false }
def CoinBytesSaid : Prop := coinBytesRow.holds Try.pinned (OpenSpec.ofChange coinBytesSpec)

/-- ITS FALSE NEIGHBOUR: 'it returns false'. Refute it at one input. -/
def coinBytesWrong : ChangeSpec := { name := "coinBytes", fn := fun _ => fun
  | [d1, d2, d3] => { results := [.lit (.bool false)], args := [d1, d2, d3] }
  | _ => none }
def CoinBytesWrongFalsely : Prop := coinBytesRow.holds Try.pinned (OpenSpec.ofChange coinBytesWrong)

/-- 'bynamelaw09.CoinHalves': WHATEVER THE INPUT: true; the input reads as it did. -/
def coinHalvesSpec : ChangeSpec := { name := "coinHalves", fn := fun _ => fun
  | [d] => { results := [.lit (.bool true)], args := [d] }
  | _ => none }
def coinHalvesRow : OpenClaim := { program := "ytgichipcmbnnhaa", sum := "3d838f6c1192b5507c35197e39cee2eec76804e35d45ae1412daea93649fbf31", func := "byname/bynamelaw09.CoinHalves", spec := "coinHalves", unfollowed := true, recurses := true, apart := false }
def CoinHalvesSaid : Prop := coinHalvesRow.holds Try.pinned (OpenSpec.ofChange coinHalvesSpec)

/-- ITS FALSE NEIGHBOUR: 'it returns false'. Refute it at one input. -/
def coinHalvesWrong : ChangeSpec := { name := "coinHalves", fn := fun _ => fun
  | [d] => { results := [.lit (.bool false)], args := [d] }
  | _ => none }
def CoinHalvesWrongFalsely : Prop := coinHalvesRow.holds Try.pinned (OpenSpec.ofChange coinHalvesWrong)

/- THE SECOND FORM. 'bulk': how many values and letters a reading holds, each counted each time it is reached (what is shared counts as often as it is met; a slice's spare places count too). A statement '..UptoSaid' is the law's where the arguments, and the package variables that the reading takes, are together of bulk at most 1048576: NARROWER than '..Said'. Prove '..Said' where nothing that the law and all that it calls make is longer than what came in: it says more and counts as full. Else prove '..UptoSaid'. A law counts once. -/
mutual
def uptoBulk {H : Type} : DataW H → Nat
  | .lit (.string bytes) => bytes.length + 1
  | .lit _ => 1
  | .nil => 1
  | .ptr d => uptoBulk d + 1
  | .slice elems spare => uptoBulkAll elems + uptoBulkAll spare + 1
  | .agg parts => uptoBulkAll parts + 1
  | .iface _ d => uptoBulk d + 1
  | .map entries => uptoBulkEntries entries + 1
  | .held _ => 1
def uptoBulkAll {H : Type} : List (DataW H) → Nat
  | [] => 0
  | d :: r => uptoBulk d + uptoBulkAll r
def uptoBulkEntries {H : Type} : List (Lit × DataW H) → Nat
  | [] => 0
  | x :: r => uptoBulkEntry x + uptoBulkEntries r
def uptoBulkEntry {H : Type} : Lit × DataW H → Nat
  | (.string bytes, d) => bytes.length + uptoBulk d + 1
  | (_, d) => uptoBulk d + 1
 end
def uptoSmall : (H : Type) → List (DataW H) → Bool := fun _ ds => decide (uptoBulkAll ds ≤ 1048576)
def OpenSpec.upto (s : _root_.Go.ChangeSpec) : _root_.Go.OpenSpec := { _root_.Go.OpenSpec.ofChange s with cond := some uptoSmall }

/-- 'bynamelaw09.CoinNames', WHERE WHAT IT READS IS OF BULK AT MOST 1048576: true; the input reads as it did. -/
def coinNamesUptoRow : OpenClaim := { program := "ytgichipcmbnnhaa", sum := "3d838f6c1192b5507c35197e39cee2eec76804e35d45ae1412daea93649fbf31", func := "byname/bynamelaw09.CoinNames", spec := "coinNames", unfollowed := true, recurses := true, apart := false, narrowed := true }
def CoinNamesUptoSaid : Prop := coinNamesUptoRow.holds Try.pinned (OpenSpec.upto coinNamesSpec)

/-- 'bynamelaw09.CoinSums', WHERE WHAT IT READS IS OF BULK AT MOST 1048576: true; the input reads as it did. -/
def coinSumsUptoRow : OpenClaim := { program := "ytgichipcmbnnhaa", sum := "3d838f6c1192b5507c35197e39cee2eec76804e35d45ae1412daea93649fbf31", func := "byname/bynamelaw09.CoinSums", spec := "coinSums", unfollowed := true, recurses := true, apart := false, narrowed := true }
def CoinSumsUptoSaid : Prop := coinSumsUptoRow.holds Try.pinned (OpenSpec.upto coinSumsSpec)

/-- 'bynamelaw09.CoinRefs', WHERE WHAT IT READS IS OF BULK AT MOST 1048576: true; the input reads as it did. -/
def coinRefsUptoRow : OpenClaim := { program := "ytgichipcmbnnhaa", sum := "3d838f6c1192b5507c35197e39cee2eec76804e35d45ae1412daea93649fbf31", func := "byname/bynamelaw09.CoinRefs", spec := "coinRefs", unfollowed := true, recurses := true, apart := false, narrowed := true }
def CoinRefsUptoSaid : Prop := coinRefsUptoRow.holds Try.pinned (OpenSpec.upto coinRefsSpec)

/-- 'bynamelaw09.CoinBytes', WHERE WHAT IT READS IS OF BULK AT MOST 1048576: true; the input reads as it did. -/
def coinBytesUptoRow : OpenClaim := { program := "ytgichipcmbnnhaa", sum := "3d838f6c1192b5507c35197e39cee2eec76804e35d45ae1412daea93649fbf31", func := "byname/bynamelaw09.CoinBytes", spec := "coinBytes", unfollowed := true, recurses := true, apart := false, narrowed := true }
def CoinBytesUptoSaid : Prop := coinBytesUptoRow.holds Try.pinned (OpenSpec.upto coinBytesSpec)

/-- 'bynamelaw09.CoinHalves', WHERE WHAT IT READS IS OF BULK AT MOST 1048576: true; the input reads as it did. -/
def coinHalvesUptoRow : OpenClaim := { program := "ytgichipcmbnnhaa", sum := "3d838f6c1192b5507c35197e39cee2eec76804e35d45ae1412daea93649fbf31", func := "byname/bynamelaw09.CoinHalves", spec := "coinHalves", unfollowed := true, recurses := true, apart := false, narrowed := true }
def CoinHalvesUptoSaid : Prop := coinHalvesUptoRow.holds Try.pinned (OpenSpec.upto coinHalvesSpec)

end Rows
end Go.Proofs.Ytgichipcmbnnhaa
