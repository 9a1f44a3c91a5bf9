/-
  DERIVED. GIVEN WITH THE SEED: THE CARDS: each row of YtdeggdmoijfhdaaDoorRows.lean that lists a variable, with what it lists TIED to the program's text (the seventh form; the later family's looks); each row that meets fmt, with fmt's text TOLD by the authors' own Lean function (tested against real Go, not proved from fmt's source: count such statements apart). THE CARD IS WHAT COUNTS. Prove the row's statement (the work); the ties are given (YtdeggdmoijfhdaaDoorTie.lean); close each card by the builder's one call (the guide's Derived/Test/ToyasCard.lean, 'card_holds'). Laid BY PROGRAM, IN A SANDBOX (cutbox-door.mjs). By AI agents, Wed Nov 11 2026. No macro, syntax, notation, axiom, sorry.
-/
import Derived.Test.YtdeggdmoijfhdaaDoorRows
import GoSem.ClaimSeven
namespace Go.Proofs.YtdeggdmoijfhdaaDoor
namespace Rows

/-- THE TIED CARD OF 'bynamelaw12.WorkMeets'. -/
def workMeetsCard : Claim7 := { stood := { row := workMeetsRow, standIns := [], harness := (true, "7c3b1e705794825c66c0ef89ce7c68ca433c15c4361bc977da80f544c8f05818"), looks := false }, kinds := [], alts := [], laidByText := true, laidKinds := [.data], laidTests := true, laidLooks := .later }
def WorkMeetsCardSaid : Prop := Claim7.holds Tryd.pinned (.plain (OpenSpec.ofChange workMeetsSpec)) workMeetsCard

/-- THE SECOND FORM's CARD OF 'bynamelaw12.WorkMeets'. -/
def workMeetsUptoCard : Claim7 := { stood := { row := workMeetsUptoRow, standIns := [], harness := (true, "7c3b1e705794825c66c0ef89ce7c68ca433c15c4361bc977da80f544c8f05818"), looks := false }, kinds := [], alts := [], laidByText := true, laidKinds := [.data], laidTests := true, laidLooks := .later }
def WorkMeetsUptoCardSaid : Prop := Claim7.holds Tryd.pinned (.plain (OpenSpec.upto workMeetsSpec)) workMeetsUptoCard
end Rows
end Go.Proofs.YtdeggdmoijfhdaaDoor
