/-
  DERIVED. GIVEN WITH THE SEED: THE CARDS: each row of YtaoaecbdjdcpdaaDoorRows.lean that lists a variable, with what it lists TIED to the program's text (the seventh form; the later family's looks); each row that meets fmt, with fmt's text TOLD by the authors' own Lean function (tested against real Go, not proved from fmt's source: count such statements apart). THE CARD IS WHAT COUNTS. Prove the row's statement (the work); the ties are given (YtaoaecbdjdcpdaaDoorTie.lean); close each card by the builder's one call (the guide's Derived/Test/ToyasCard.lean, 'card_holds'). Laid BY PROGRAM, IN A SANDBOX (cutbox-door.mjs). By AI agents, Wed Nov 11 2026. No macro, syntax, notation, axiom, sorry.
-/
import Derived.Test.YtaoaecbdjdcpdaaDoorRows
import GoSem.ClaimSeven
namespace Go.Proofs.YtaoaecbdjdcpdaaDoor
namespace Rows

/-- THE TIED CARD OF 'bynamelaw10.TxNames'. -/
def txNamesCard : Claim7 := { stood := { row := txNamesRow, standIns := [], harness := (true, "e9f6f4eea43bfd77b64b2920a002741b2ac9229a5d3a6ef49b41024607f7551c"), looks := false }, kinds := [], alts := [], laidByText := true, laidKinds := [.data], laidTests := true, laidLooks := .later }
def TxNamesCardSaid : Prop := Claim7.holds Tryd.pinned (.plain (OpenSpec.ofChange txNamesSpec)) txNamesCard

/-- THE TIED CARD OF 'bynamelaw10.TxBytes'. -/
def txBytesCard : Claim7 := { stood := { row := txBytesRow, standIns := [], harness := (true, "e9f6f4eea43bfd77b64b2920a002741b2ac9229a5d3a6ef49b41024607f7551c"), looks := false }, kinds := [], alts := [], laidByText := true, laidKinds := [.data], laidTests := true, laidLooks := .later }
def TxBytesCardSaid : Prop := Claim7.holds Tryd.pinned (.plain (OpenSpec.ofChange txBytesSpec)) txBytesCard

/-- THE TIED CARD OF 'bynamelaw10.TxParses'. -/
def txParsesCard : Claim7 := { stood := { row := txParsesRow, standIns := [], harness := (true, "e9f6f4eea43bfd77b64b2920a002741b2ac9229a5d3a6ef49b41024607f7551c"), looks := false }, kinds := [], alts := [], laidByText := true, laidKinds := [.data], laidTests := true, laidLooks := .later }
def TxParsesCardSaid : Prop := Claim7.holds Tryd.pinned (.plain (OpenSpec.ofChange txParsesSpec)) txParsesCard

/-- THE TIED CARD OF 'bynamelaw10.TxSame'. -/
def txSameCard : Claim7 := { stood := { row := txSameRow, standIns := [], harness := (true, "e9f6f4eea43bfd77b64b2920a002741b2ac9229a5d3a6ef49b41024607f7551c"), looks := false }, kinds := [], alts := [], laidByText := true, laidKinds := [.data], laidTests := true, laidLooks := .later }
def TxSameCardSaid : Prop := Claim7.holds Tryd.pinned (.plain (OpenSpec.ofChange txSameSpec)) txSameCard

/-- THE TIED CARD OF 'bynamelaw10.TxSigned'. -/
def txSignedCard : Claim7 := { stood := { row := txSignedRow, standIns := [], harness := (true, "e9f6f4eea43bfd77b64b2920a002741b2ac9229a5d3a6ef49b41024607f7551c"), looks := false }, kinds := [], alts := [], laidByText := true, laidKinds := [.data], laidTests := true, laidLooks := .later }
def TxSignedCardSaid : Prop := Claim7.holds Tryd.pinned (.plain (OpenSpec.ofChange txSignedSpec)) txSignedCard

/-- THE TIED CARD OF 'bynamelaw10.TxCuts'. -/
def txCutsCard : Claim7 := { stood := { row := txCutsRow, standIns := [], harness := (true, "e9f6f4eea43bfd77b64b2920a002741b2ac9229a5d3a6ef49b41024607f7551c"), looks := false }, kinds := [], alts := [], laidByText := true, laidKinds := [.data], laidTests := true, laidLooks := .later }
def TxCutsCardSaid : Prop := Claim7.holds Tryd.pinned (.plain (OpenSpec.ofChange txCutsSpec)) txCutsCard

/-- THE SECOND FORM's CARD OF 'bynamelaw10.TxNames'. -/
def txNamesUptoCard : Claim7 := { stood := { row := txNamesUptoRow, standIns := [], harness := (true, "e9f6f4eea43bfd77b64b2920a002741b2ac9229a5d3a6ef49b41024607f7551c"), looks := false }, kinds := [], alts := [], laidByText := true, laidKinds := [.data], laidTests := true, laidLooks := .later }
def TxNamesUptoCardSaid : Prop := Claim7.holds Tryd.pinned (.plain (OpenSpec.upto txNamesSpec)) txNamesUptoCard

/-- THE SECOND FORM's CARD OF 'bynamelaw10.TxBytes'. -/
def txBytesUptoCard : Claim7 := { stood := { row := txBytesUptoRow, standIns := [], harness := (true, "e9f6f4eea43bfd77b64b2920a002741b2ac9229a5d3a6ef49b41024607f7551c"), looks := false }, kinds := [], alts := [], laidByText := true, laidKinds := [.data], laidTests := true, laidLooks := .later }
def TxBytesUptoCardSaid : Prop := Claim7.holds Tryd.pinned (.plain (OpenSpec.upto txBytesSpec)) txBytesUptoCard

/-- THE SECOND FORM's CARD OF 'bynamelaw10.TxParses'. -/
def txParsesUptoCard : Claim7 := { stood := { row := txParsesUptoRow, standIns := [], harness := (true, "e9f6f4eea43bfd77b64b2920a002741b2ac9229a5d3a6ef49b41024607f7551c"), looks := false }, kinds := [], alts := [], laidByText := true, laidKinds := [.data], laidTests := true, laidLooks := .later }
def TxParsesUptoCardSaid : Prop := Claim7.holds Tryd.pinned (.plain (OpenSpec.upto txParsesSpec)) txParsesUptoCard

/-- THE SECOND FORM's CARD OF 'bynamelaw10.TxSame'. -/
def txSameUptoCard : Claim7 := { stood := { row := txSameUptoRow, standIns := [], harness := (true, "e9f6f4eea43bfd77b64b2920a002741b2ac9229a5d3a6ef49b41024607f7551c"), looks := false }, kinds := [], alts := [], laidByText := true, laidKinds := [.data], laidTests := true, laidLooks := .later }
def TxSameUptoCardSaid : Prop := Claim7.holds Tryd.pinned (.plain (OpenSpec.upto txSameSpec)) txSameUptoCard

/-- THE SECOND FORM's CARD OF 'bynamelaw10.TxSigned'. -/
def txSignedUptoCard : Claim7 := { stood := { row := txSignedUptoRow, standIns := [], harness := (true, "e9f6f4eea43bfd77b64b2920a002741b2ac9229a5d3a6ef49b41024607f7551c"), looks := false }, kinds := [], alts := [], laidByText := true, laidKinds := [.data], laidTests := true, laidLooks := .later }
def TxSignedUptoCardSaid : Prop := Claim7.holds Tryd.pinned (.plain (OpenSpec.upto txSignedSpec)) txSignedUptoCard

/-- THE SECOND FORM's CARD OF 'bynamelaw10.TxCuts'. -/
def txCutsUptoCard : Claim7 := { stood := { row := txCutsUptoRow, standIns := [], harness := (true, "e9f6f4eea43bfd77b64b2920a002741b2ac9229a5d3a6ef49b41024607f7551c"), looks := false }, kinds := [], alts := [], laidByText := true, laidKinds := [.data], laidTests := true, laidLooks := .later }
def TxCutsUptoCardSaid : Prop := Claim7.holds Tryd.pinned (.plain (OpenSpec.upto txCutsSpec)) txCutsUptoCard
end Rows
end Go.Proofs.YtaoaecbdjdcpdaaDoor
