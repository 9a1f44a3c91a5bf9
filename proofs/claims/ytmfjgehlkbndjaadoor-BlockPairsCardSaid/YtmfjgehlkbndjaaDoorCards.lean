/-
  DERIVED. GIVEN WITH THE SEED: THE CARDS: each row of YtmfjgehlkbndjaaDoorRows.lean that lists a variable, with what it lists TIED to the program's text (the seventh form; the later family's looks); each row that meets fmt, with fmt's text TOLD by the authors' own Lean function (tested against real Go, not proved from fmt's source: count such statements apart). THE CARD IS WHAT COUNTS. Prove the row's statement (the work); the ties are given (YtmfjgehlkbndjaaDoorTie.lean); close each card by the builder's one call (the guide's Derived/Test/ToyasCard.lean, 'card_holds'). Laid BY PROGRAM, IN A SANDBOX (cutbox-door.mjs). By AI agents, Wed Nov 11 2026. No macro, syntax, notation, axiom, sorry.
-/
import Derived.Test.YtmfjgehlkbndjaaDoorRows
import GoSem.ClaimSeven
namespace Go.Proofs.YtmfjgehlkbndjaaDoor
namespace Rows

/-- THE TIED CARD OF 'bynamelaw11.BlockPairs'. -/
def blockPairsCard : Claim7 := { stood := { row := blockPairsRow, standIns := [], harness := (true, "824bf4766604e34ad53be583a4171aa5c29ebcb1dcf042c781e88f0f5e998183"), looks := false }, kinds := [], alts := [], laidByText := true, laidKinds := [.data], laidTests := true, laidLooks := .later }
def BlockPairsCardSaid : Prop := Claim7.holds Tryd.pinned (.plain (OpenSpec.ofChange blockPairsSpec)) blockPairsCard

/-- THE SECOND FORM's CARD OF 'bynamelaw11.BlockPairs'. -/
def blockPairsUptoCard : Claim7 := { stood := { row := blockPairsUptoRow, standIns := [], harness := (true, "824bf4766604e34ad53be583a4171aa5c29ebcb1dcf042c781e88f0f5e998183"), looks := false }, kinds := [], alts := [], laidByText := true, laidKinds := [.data], laidTests := true, laidLooks := .later }
def BlockPairsUptoCardSaid : Prop := Claim7.holds Tryd.pinned (.plain (OpenSpec.upto blockPairsSpec)) blockPairsUptoCard
end Rows
end Go.Proofs.YtmfjgehlkbndjaaDoor
