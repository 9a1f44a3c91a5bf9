/-
  DERIVED. GIVEN WITH THE SEED: THE CARDS: each row of YtmfjgehlkbndjaaGreatDoorRows.lean that lists a variable, with what it lists TIED to the program's text (the seventh form; the later family's looks); each row that meets fmt, with fmt's text TOLD by the authors' own Lean function (tested against real Go, not proved from fmt's source: count such statements apart). THE CARD IS WHAT COUNTS. Prove the row's statement (the work); the ties are given (YtmfjgehlkbndjaaGreatDoorTie.lean); close each card by the builder's one call (the guide's Derived/Test/ToyasCard.lean, 'card_holds'). Laid BY PROGRAM, IN A SANDBOX (cutbox-door.mjs). By AI agents, Wed Nov 11 2026. No macro, syntax, notation, axiom, sorry.
-/
import Derived.Test.YtmfjgehlkbndjaaGreatDoorRows
import GoSem.ClaimSeven
namespace Go.Proofs.YtmfjgehlkbndjaaGreatDoor
namespace Rows

/-- THE TIED CARD OF 'bynamelaw11.BlockNames'. -/
def blockNamesCard : Claim7 := { stood := { row := blockNamesRow, standIns := [], harness := (true, "0cf0576673ad69e40159d4026176a1b2575cbb73d36ce293bdfd15c4ca3e4768"), looks := false }, kinds := [], alts := [], laidByText := true, laidKinds := [.data], laidTests := true, laidLooks := .later }
def BlockNamesCardSaid : Prop := Claim7.holds Tryz.pinned (.plain (OpenSpec.ofChange blockNamesSpec)) blockNamesCard

/-- THE TIED CARD OF 'bynamelaw11.BlockHeads'. -/
def blockHeadsCard : Claim7 := { stood := { row := blockHeadsRow, standIns := [], harness := (true, "0cf0576673ad69e40159d4026176a1b2575cbb73d36ce293bdfd15c4ca3e4768"), looks := false }, kinds := [], alts := [], laidByText := true, laidKinds := [.data], laidTests := true, laidLooks := .later }
def BlockHeadsCardSaid : Prop := Claim7.holds Tryz.pinned (.plain (OpenSpec.ofChange blockHeadsSpec)) blockHeadsCard

/-- THE TIED CARD OF 'bynamelaw11.BlockRoots'. -/
def blockRootsCard : Claim7 := { stood := { row := blockRootsRow, standIns := [], harness := (true, "0cf0576673ad69e40159d4026176a1b2575cbb73d36ce293bdfd15c4ca3e4768"), looks := false }, kinds := [], alts := [], laidByText := true, laidKinds := [.data], laidTests := true, laidLooks := .later }
def BlockRootsCardSaid : Prop := Claim7.holds Tryz.pinned (.plain (OpenSpec.ofChange blockRootsSpec)) blockRootsCard

/-- THE TIED CARD OF 'bynamelaw11.BlockBytes'. -/
def blockBytesCard : Claim7 := { stood := { row := blockBytesRow, standIns := [], harness := (true, "0cf0576673ad69e40159d4026176a1b2575cbb73d36ce293bdfd15c4ca3e4768"), looks := false }, kinds := [], alts := [], laidByText := true, laidKinds := [.data], laidTests := true, laidLooks := .later }
def BlockBytesCardSaid : Prop := Claim7.holds Tryz.pinned (.plain (OpenSpec.ofChange blockBytesSpec)) blockBytesCard

/-- THE TIED CARD OF 'bynamelaw11.BlockParses'. -/
def blockParsesCard : Claim7 := { stood := { row := blockParsesRow, standIns := [], harness := (true, "0cf0576673ad69e40159d4026176a1b2575cbb73d36ce293bdfd15c4ca3e4768"), looks := false }, kinds := [], alts := [], laidByText := true, laidKinds := [.data], laidTests := true, laidLooks := .later }
def BlockParsesCardSaid : Prop := Claim7.holds Tryz.pinned (.plain (OpenSpec.ofChange blockParsesSpec)) blockParsesCard

/-- THE TIED CARD OF 'bynamelaw11.BlockTurns'. -/
def blockTurnsCard : Claim7 := { stood := { row := blockTurnsRow, standIns := [], harness := (true, "0cf0576673ad69e40159d4026176a1b2575cbb73d36ce293bdfd15c4ca3e4768"), looks := false }, kinds := [], alts := [], laidByText := true, laidKinds := [.data], laidTests := true, laidLooks := .later }
def BlockTurnsCardSaid : Prop := Claim7.holds Tryz.pinned (.plain (OpenSpec.ofChange blockTurnsSpec)) blockTurnsCard

/-- THE SECOND FORM's CARD OF 'bynamelaw11.BlockNames'. -/
def blockNamesUptoCard : Claim7 := { stood := { row := blockNamesUptoRow, standIns := [], harness := (true, "0cf0576673ad69e40159d4026176a1b2575cbb73d36ce293bdfd15c4ca3e4768"), looks := false }, kinds := [], alts := [], laidByText := true, laidKinds := [.data], laidTests := true, laidLooks := .later }
def BlockNamesUptoCardSaid : Prop := Claim7.holds Tryz.pinned (.plain (OpenSpec.upto blockNamesSpec)) blockNamesUptoCard

/-- THE SECOND FORM's CARD OF 'bynamelaw11.BlockHeads'. -/
def blockHeadsUptoCard : Claim7 := { stood := { row := blockHeadsUptoRow, standIns := [], harness := (true, "0cf0576673ad69e40159d4026176a1b2575cbb73d36ce293bdfd15c4ca3e4768"), looks := false }, kinds := [], alts := [], laidByText := true, laidKinds := [.data], laidTests := true, laidLooks := .later }
def BlockHeadsUptoCardSaid : Prop := Claim7.holds Tryz.pinned (.plain (OpenSpec.upto blockHeadsSpec)) blockHeadsUptoCard

/-- THE SECOND FORM's CARD OF 'bynamelaw11.BlockRoots'. -/
def blockRootsUptoCard : Claim7 := { stood := { row := blockRootsUptoRow, standIns := [], harness := (true, "0cf0576673ad69e40159d4026176a1b2575cbb73d36ce293bdfd15c4ca3e4768"), looks := false }, kinds := [], alts := [], laidByText := true, laidKinds := [.data], laidTests := true, laidLooks := .later }
def BlockRootsUptoCardSaid : Prop := Claim7.holds Tryz.pinned (.plain (OpenSpec.upto blockRootsSpec)) blockRootsUptoCard

/-- THE SECOND FORM's CARD OF 'bynamelaw11.BlockBytes'. -/
def blockBytesUptoCard : Claim7 := { stood := { row := blockBytesUptoRow, standIns := [], harness := (true, "0cf0576673ad69e40159d4026176a1b2575cbb73d36ce293bdfd15c4ca3e4768"), looks := false }, kinds := [], alts := [], laidByText := true, laidKinds := [.data], laidTests := true, laidLooks := .later }
def BlockBytesUptoCardSaid : Prop := Claim7.holds Tryz.pinned (.plain (OpenSpec.upto blockBytesSpec)) blockBytesUptoCard

/-- THE SECOND FORM's CARD OF 'bynamelaw11.BlockParses'. -/
def blockParsesUptoCard : Claim7 := { stood := { row := blockParsesUptoRow, standIns := [], harness := (true, "0cf0576673ad69e40159d4026176a1b2575cbb73d36ce293bdfd15c4ca3e4768"), looks := false }, kinds := [], alts := [], laidByText := true, laidKinds := [.data], laidTests := true, laidLooks := .later }
def BlockParsesUptoCardSaid : Prop := Claim7.holds Tryz.pinned (.plain (OpenSpec.upto blockParsesSpec)) blockParsesUptoCard

/-- THE SECOND FORM's CARD OF 'bynamelaw11.BlockTurns'. -/
def blockTurnsUptoCard : Claim7 := { stood := { row := blockTurnsUptoRow, standIns := [], harness := (true, "0cf0576673ad69e40159d4026176a1b2575cbb73d36ce293bdfd15c4ca3e4768"), looks := false }, kinds := [], alts := [], laidByText := true, laidKinds := [.data], laidTests := true, laidLooks := .later }
def BlockTurnsUptoCardSaid : Prop := Claim7.holds Tryz.pinned (.plain (OpenSpec.upto blockTurnsSpec)) blockTurnsUptoCard
end Rows
end Go.Proofs.YtmfjgehlkbndjaaGreatDoor
