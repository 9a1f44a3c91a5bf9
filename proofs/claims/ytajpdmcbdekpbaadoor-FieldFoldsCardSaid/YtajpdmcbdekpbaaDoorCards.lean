/-
  DERIVED. GIVEN WITH THE SEED: THE CARDS: each row of YtajpdmcbdekpbaaDoorRows.lean that lists a variable, with what it lists TIED to the program's text (the seventh form; the later family's looks); each row that meets fmt, with fmt's text TOLD by the authors' own Lean function (tested against real Go, not proved from fmt's source: count such statements apart). THE CARD IS WHAT COUNTS. Prove the row's statement (the work); the ties are given (YtajpdmcbdekpbaaDoorTie.lean); close each card by the builder's one call (the guide's Derived/Test/ToyasCard.lean, 'card_holds'). Laid BY PROGRAM, IN A SANDBOX (cutbox-door.mjs). By AI agents, Wed Nov 11 2026. No macro, syntax, notation, axiom, sorry.
-/
import Derived.Test.YtajpdmcbdekpbaaDoorRows
import GoSem.ClaimSeven
namespace Go.Proofs.YtajpdmcbdekpbaaDoor
namespace Rows

/-- THE TIED CARD OF 'bynamelaw03.FieldNames'. -/
def fieldNamesCard : Claim7 := { stood := { row := fieldNamesRow, standIns := [], harness := (true, "63eeddd1e4eb29284fc6d72b7bce9dcec2e1a6f27675bd6f08aa652c553b9fd7"), looks := false }, kinds := [], alts := [], laidByText := true, laidKinds := [.data, .data], laidTests := true, laidLooks := .later }
def FieldNamesCardSaid : Prop := Claim7.holds Tryd.pinned (.plain (OpenSpec.ofChange fieldNamesSpec)) fieldNamesCard

/-- THE TIED CARD OF 'bynamelaw03.FieldTells'. -/
def fieldTellsCard : Claim7 := { stood := { row := fieldTellsRow, standIns := [], harness := (true, "63eeddd1e4eb29284fc6d72b7bce9dcec2e1a6f27675bd6f08aa652c553b9fd7"), looks := false }, kinds := [], alts := [], laidByText := true, laidKinds := [.data, .data], laidTests := true, laidLooks := .later }
def FieldTellsCardSaid : Prop := Claim7.holds Tryd.pinned (.plain (OpenSpec.ofChange fieldTellsSpec)) fieldTellsCard

/-- THE TIED CARD OF 'bynamelaw03.FieldFolds'. -/
def fieldFoldsCard : Claim7 := { stood := { row := fieldFoldsRow, standIns := [], harness := (true, "63eeddd1e4eb29284fc6d72b7bce9dcec2e1a6f27675bd6f08aa652c553b9fd7"), looks := false }, kinds := [], alts := [], laidByText := true, laidKinds := [.data, .data], laidTests := true, laidLooks := .later }
def FieldFoldsCardSaid : Prop := Claim7.holds Tryd.pinned (.plain (OpenSpec.ofChange fieldFoldsSpec)) fieldFoldsCard

/-- THE TIED CARD OF 'bynamelaw03.FieldPowers'. -/
def fieldPowersCard : Claim7 := { stood := { row := fieldPowersRow, standIns := [], harness := (true, "63eeddd1e4eb29284fc6d72b7bce9dcec2e1a6f27675bd6f08aa652c553b9fd7"), looks := false }, kinds := [], alts := [], laidByText := true, laidKinds := [.data, .data], laidTests := true, laidLooks := .later }
def FieldPowersCardSaid : Prop := Claim7.holds Tryd.pinned (.plain (OpenSpec.ofChange fieldPowersSpec)) fieldPowersCard

/-- THE TIED CARD OF 'bynamelaw03.FieldRoots'. -/
def fieldRootsCard : Claim7 := { stood := { row := fieldRootsRow, standIns := [], harness := (true, "63eeddd1e4eb29284fc6d72b7bce9dcec2e1a6f27675bd6f08aa652c553b9fd7"), looks := false }, kinds := [], alts := [], laidByText := true, laidKinds := [.data], laidTests := true, laidLooks := .later }
def FieldRootsCardSaid : Prop := Claim7.holds Tryd.pinned (.plain (OpenSpec.ofChange fieldRootsSpec)) fieldRootsCard

/-- THE TIED CARD OF 'bynamelaw03.FieldRings'. -/
def fieldRingsCard : Claim7 := { stood := { row := fieldRingsRow, standIns := [], harness := (true, "63eeddd1e4eb29284fc6d72b7bce9dcec2e1a6f27675bd6f08aa652c553b9fd7"), looks := false }, kinds := [], alts := [], laidByText := true, laidKinds := [.data, .data], laidTests := true, laidLooks := .later }
def FieldRingsCardSaid : Prop := Claim7.holds Tryd.pinned (.plain (OpenSpec.ofChange fieldRingsSpec)) fieldRingsCard

/-- THE TIED CARD OF 'bynamelaw03.FieldNegs'. -/
def fieldNegsCard : Claim7 := { stood := { row := fieldNegsRow, standIns := [], harness := (true, "63eeddd1e4eb29284fc6d72b7bce9dcec2e1a6f27675bd6f08aa652c553b9fd7"), looks := false }, kinds := [], alts := [], laidByText := true, laidKinds := [.data, .data], laidTests := true, laidLooks := .later }
def FieldNegsCardSaid : Prop := Claim7.holds Tryd.pinned (.plain (OpenSpec.ofChange fieldNegsSpec)) fieldNegsCard

/-- THE SECOND FORM's CARD OF 'bynamelaw03.FieldNames'. -/
def fieldNamesUptoCard : Claim7 := { stood := { row := fieldNamesUptoRow, standIns := [], harness := (true, "63eeddd1e4eb29284fc6d72b7bce9dcec2e1a6f27675bd6f08aa652c553b9fd7"), looks := false }, kinds := [], alts := [], laidByText := true, laidKinds := [.data, .data], laidTests := true, laidLooks := .later }
def FieldNamesUptoCardSaid : Prop := Claim7.holds Tryd.pinned (.plain (OpenSpec.upto fieldNamesSpec)) fieldNamesUptoCard

/-- THE SECOND FORM's CARD OF 'bynamelaw03.FieldTells'. -/
def fieldTellsUptoCard : Claim7 := { stood := { row := fieldTellsUptoRow, standIns := [], harness := (true, "63eeddd1e4eb29284fc6d72b7bce9dcec2e1a6f27675bd6f08aa652c553b9fd7"), looks := false }, kinds := [], alts := [], laidByText := true, laidKinds := [.data, .data], laidTests := true, laidLooks := .later }
def FieldTellsUptoCardSaid : Prop := Claim7.holds Tryd.pinned (.plain (OpenSpec.upto fieldTellsSpec)) fieldTellsUptoCard

/-- THE SECOND FORM's CARD OF 'bynamelaw03.FieldFolds'. -/
def fieldFoldsUptoCard : Claim7 := { stood := { row := fieldFoldsUptoRow, standIns := [], harness := (true, "63eeddd1e4eb29284fc6d72b7bce9dcec2e1a6f27675bd6f08aa652c553b9fd7"), looks := false }, kinds := [], alts := [], laidByText := true, laidKinds := [.data, .data], laidTests := true, laidLooks := .later }
def FieldFoldsUptoCardSaid : Prop := Claim7.holds Tryd.pinned (.plain (OpenSpec.upto fieldFoldsSpec)) fieldFoldsUptoCard

/-- THE SECOND FORM's CARD OF 'bynamelaw03.FieldPowers'. -/
def fieldPowersUptoCard : Claim7 := { stood := { row := fieldPowersUptoRow, standIns := [], harness := (true, "63eeddd1e4eb29284fc6d72b7bce9dcec2e1a6f27675bd6f08aa652c553b9fd7"), looks := false }, kinds := [], alts := [], laidByText := true, laidKinds := [.data, .data], laidTests := true, laidLooks := .later }
def FieldPowersUptoCardSaid : Prop := Claim7.holds Tryd.pinned (.plain (OpenSpec.upto fieldPowersSpec)) fieldPowersUptoCard

/-- THE SECOND FORM's CARD OF 'bynamelaw03.FieldRoots'. -/
def fieldRootsUptoCard : Claim7 := { stood := { row := fieldRootsUptoRow, standIns := [], harness := (true, "63eeddd1e4eb29284fc6d72b7bce9dcec2e1a6f27675bd6f08aa652c553b9fd7"), looks := false }, kinds := [], alts := [], laidByText := true, laidKinds := [.data], laidTests := true, laidLooks := .later }
def FieldRootsUptoCardSaid : Prop := Claim7.holds Tryd.pinned (.plain (OpenSpec.upto fieldRootsSpec)) fieldRootsUptoCard

/-- THE SECOND FORM's CARD OF 'bynamelaw03.FieldRings'. -/
def fieldRingsUptoCard : Claim7 := { stood := { row := fieldRingsUptoRow, standIns := [], harness := (true, "63eeddd1e4eb29284fc6d72b7bce9dcec2e1a6f27675bd6f08aa652c553b9fd7"), looks := false }, kinds := [], alts := [], laidByText := true, laidKinds := [.data, .data], laidTests := true, laidLooks := .later }
def FieldRingsUptoCardSaid : Prop := Claim7.holds Tryd.pinned (.plain (OpenSpec.upto fieldRingsSpec)) fieldRingsUptoCard

/-- THE SECOND FORM's CARD OF 'bynamelaw03.FieldNegs'. -/
def fieldNegsUptoCard : Claim7 := { stood := { row := fieldNegsUptoRow, standIns := [], harness := (true, "63eeddd1e4eb29284fc6d72b7bce9dcec2e1a6f27675bd6f08aa652c553b9fd7"), looks := false }, kinds := [], alts := [], laidByText := true, laidKinds := [.data, .data], laidTests := true, laidLooks := .later }
def FieldNegsUptoCardSaid : Prop := Claim7.holds Tryd.pinned (.plain (OpenSpec.upto fieldNegsSpec)) fieldNegsUptoCard
end Rows
end Go.Proofs.YtajpdmcbdekpbaaDoor
