/-
  DERIVED. GIVEN WITH THE SEED: THE CARDS: each row of YtnaclalbeocpkaaGreatDoorRows.lean that lists a variable, with what it lists TIED to the program's text (the seventh form; the later family's looks); each row that meets fmt, with fmt's text TOLD by the authors' own Lean function (tested against real Go, not proved from fmt's source: count such statements apart). THE CARD IS WHAT COUNTS. Prove the row's statement (the work); the ties are given (YtnaclalbeocpkaaGreatDoorTie.lean); close each card by the builder's one call (the guide's Derived/Test/ToyasCard.lean, 'card_holds'). Laid BY PROGRAM, IN A SANDBOX (cutbox-door.mjs). By AI agents, Wed Nov 11 2026. No macro, syntax, notation, axiom, sorry.
-/
import Derived.Test.YtnaclalbeocpkaaGreatDoorRows
import GoSem.ClaimSeven
namespace Go.Proofs.YtnaclalbeocpkaaGreatDoor
namespace Rows

/-- THE TIED CARD OF 'bynamelaw08.LabelOpens'. -/
def labelOpensCard : Claim7 := { stood := { row := labelOpensRow, standIns := [], harness := (true, "e1df4b3d1764b86bb6f8fb97d44dbe0688da04d4fbab2a4c12f472bf2cd8c446"), looks := false }, kinds := [], alts := [], laidByText := true, laidKinds := [.data, .data, .data, .data, .data, .data], laidTests := true, laidLooks := .later }
def LabelOpensCardSaid : Prop := Claim7.holds Tryz.pinned (.plain (OpenSpec.ofChange labelOpensSpec)) labelOpensCard

/-- THE SECOND FORM's CARD OF 'bynamelaw08.LabelOpens'. -/
def labelOpensUptoCard : Claim7 := { stood := { row := labelOpensUptoRow, standIns := [], harness := (true, "e1df4b3d1764b86bb6f8fb97d44dbe0688da04d4fbab2a4c12f472bf2cd8c446"), looks := false }, kinds := [], alts := [], laidByText := true, laidKinds := [.data, .data, .data, .data, .data, .data], laidTests := true, laidLooks := .later }
def LabelOpensUptoCardSaid : Prop := Claim7.holds Tryz.pinned (.plain (OpenSpec.upto labelOpensSpec)) labelOpensUptoCard
end Rows
end Go.Proofs.YtnaclalbeocpkaaGreatDoor
