/-
  DERIVED. GIVEN WITH THE SEED: THE CARDS: each row of YtnaclalbeocpkaaDoorRows.lean that lists a variable, with what it lists TIED to the program's text (the seventh form; the later family's looks); each row that meets fmt, with fmt's text TOLD by the authors' own Lean function (tested against real Go, not proved from fmt's source: count such statements apart). THE CARD IS WHAT COUNTS. Prove the row's statement (the work); the ties are given (YtnaclalbeocpkaaDoorTie.lean); close each card by the builder's one call (the guide's Derived/Test/ToyasCard.lean, 'card_holds'). Laid BY PROGRAM, IN A SANDBOX (cutbox-door.mjs). By AI agents, Wed Nov 11 2026. No macro, syntax, notation, axiom, sorry.
-/
import Derived.Test.YtnaclalbeocpkaaDoorRows
import GoSem.ClaimSeven
namespace Go.Proofs.YtnaclalbeocpkaaDoor
namespace Rows

/-- THE TIED CARD OF 'bynamelaw08.LabelNames'. -/
def labelNamesCard : Claim7 := { stood := { row := labelNamesRow, standIns := [], harness := (true, "ae6b2999eac49c4be841e64249abc2353e87e72ef9e24051ab54b075d907576c"), looks := false }, kinds := [], alts := [], laidByText := true, laidKinds := [.data], laidTests := true, laidLooks := .later }
def LabelNamesCardSaid : Prop := Claim7.holds Tryd.pinned (.plain (OpenSpec.ofChange labelNamesSpec)) labelNamesCard

/-- THE TIED CARD OF 'bynamelaw08.LabelLocks'. -/
def labelLocksCard : Claim7 := { stood := { row := labelLocksRow, standIns := [], harness := (true, "ae6b2999eac49c4be841e64249abc2353e87e72ef9e24051ab54b075d907576c"), looks := false }, kinds := [], alts := [], laidByText := true, laidKinds := [.data, .data], laidTests := true, laidLooks := .later }
def LabelLocksCardSaid : Prop := Claim7.holds Tryd.pinned (.plain (OpenSpec.ofChange labelLocksSpec)) labelLocksCard

/-- THE TIED CARD OF 'bynamelaw08.LabelSplits'. -/
def labelSplitsCard : Claim7 := { stood := { row := labelSplitsRow, standIns := [], harness := (true, "ae6b2999eac49c4be841e64249abc2353e87e72ef9e24051ab54b075d907576c"), looks := false }, kinds := [], alts := [], laidByText := true, laidKinds := [.data], laidTests := true, laidLooks := .later }
def LabelSplitsCardSaid : Prop := Claim7.holds Tryd.pinned (.plain (OpenSpec.ofChange labelSplitsSpec)) labelSplitsCard

/-- THE SECOND FORM's CARD OF 'bynamelaw08.LabelNames'. -/
def labelNamesUptoCard : Claim7 := { stood := { row := labelNamesUptoRow, standIns := [], harness := (true, "ae6b2999eac49c4be841e64249abc2353e87e72ef9e24051ab54b075d907576c"), looks := false }, kinds := [], alts := [], laidByText := true, laidKinds := [.data], laidTests := true, laidLooks := .later }
def LabelNamesUptoCardSaid : Prop := Claim7.holds Tryd.pinned (.plain (OpenSpec.upto labelNamesSpec)) labelNamesUptoCard

/-- THE SECOND FORM's CARD OF 'bynamelaw08.LabelLocks'. -/
def labelLocksUptoCard : Claim7 := { stood := { row := labelLocksUptoRow, standIns := [], harness := (true, "ae6b2999eac49c4be841e64249abc2353e87e72ef9e24051ab54b075d907576c"), looks := false }, kinds := [], alts := [], laidByText := true, laidKinds := [.data, .data], laidTests := true, laidLooks := .later }
def LabelLocksUptoCardSaid : Prop := Claim7.holds Tryd.pinned (.plain (OpenSpec.upto labelLocksSpec)) labelLocksUptoCard

/-- THE SECOND FORM's CARD OF 'bynamelaw08.LabelSplits'. -/
def labelSplitsUptoCard : Claim7 := { stood := { row := labelSplitsUptoRow, standIns := [], harness := (true, "ae6b2999eac49c4be841e64249abc2353e87e72ef9e24051ab54b075d907576c"), looks := false }, kinds := [], alts := [], laidByText := true, laidKinds := [.data], laidTests := true, laidLooks := .later }
def LabelSplitsUptoCardSaid : Prop := Claim7.holds Tryd.pinned (.plain (OpenSpec.upto labelSplitsSpec)) labelSplitsUptoCard
end Rows
end Go.Proofs.YtnaclalbeocpkaaDoor
