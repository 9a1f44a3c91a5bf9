/-
  DERIVED. GIVEN WITH THE SEED: THE CARDS: each row of YtofaminpdcapkaaDoorRows.lean that lists a variable, with what it lists TIED to the program's text (the seventh form; the later family's looks); each row that meets fmt, with fmt's text TOLD by the authors' own Lean function (tested against real Go, not proved from fmt's source: count such statements apart). THE CARD IS WHAT COUNTS. Prove the row's statement (the work); the ties are given (YtofaminpdcapkaaDoorTie.lean); close each card by the builder's one call (the guide's Derived/Test/ToyasCard.lean, 'card_holds'). Laid BY PROGRAM, IN A SANDBOX (cutbox-door.mjs). By AI agents, Wed Nov 11 2026. No macro, syntax, notation, axiom, sorry.
-/
import Derived.Test.YtofaminpdcapkaaDoorRows
import GoSem.ClaimSeven
namespace Go.Proofs.YtofaminpdcapkaaDoor
namespace Rows

/-- THE TIED CARD OF 'bynamelaw01.DigestNames'. -/
def digestNamesCard : Claim7 := { stood := { row := digestNamesRow, standIns := [], harness := (true, "d3d76d00e9450c62df67325791db2ee3796ee8d33ffe87e6b87b35623ca0b8b9"), looks := false }, kinds := [], alts := [], laidByText := true, laidKinds := [.data], laidTests := true, laidLooks := .later }
def DigestNamesCardSaid : Prop := Claim7.holds Tryd.pinned (.plain (OpenSpec.ofChange digestNamesSpec)) digestNamesCard

/-- THE TIED CARD OF 'bynamelaw01.DigestTells'. -/
def digestTellsCard : Claim7 := { stood := { row := digestTellsRow, standIns := [], harness := (true, "d3d76d00e9450c62df67325791db2ee3796ee8d33ffe87e6b87b35623ca0b8b9"), looks := false }, kinds := [], alts := [], laidByText := true, laidKinds := [.data], laidTests := true, laidLooks := .later }
def DigestTellsCardSaid : Prop := Claim7.holds Tryd.pinned (.plain (OpenSpec.ofChange digestTellsSpec)) digestTellsCard

/-- THE TIED CARD OF 'bynamelaw01.DigestAdds'. -/
def digestAddsCard : Claim7 := { stood := { row := digestAddsRow, standIns := [], harness := (true, "d3d76d00e9450c62df67325791db2ee3796ee8d33ffe87e6b87b35623ca0b8b9"), looks := false }, kinds := [], alts := [], laidByText := true, laidKinds := [.data], laidTests := true, laidLooks := .later }
def DigestAddsCardSaid : Prop := Claim7.holds Tryd.pinned (.plain (OpenSpec.ofChange digestAddsSpec)) digestAddsCard

/-- THE TIED CARD OF 'bynamelaw01.DigestTexts'. -/
def digestTextsCard : Claim7 := { stood := { row := digestTextsRow, standIns := [], harness := (true, "d3d76d00e9450c62df67325791db2ee3796ee8d33ffe87e6b87b35623ca0b8b9"), looks := false }, kinds := [], alts := [], laidByText := true, laidKinds := [.data], laidTests := true, laidLooks := .later }
def DigestTextsCardSaid : Prop := Claim7.holds Tryd.pinned (.plain (OpenSpec.ofChange digestTextsSpec)) digestTextsCard

/-- THE TIED CARD OF 'bynamelaw01.DigestLengths'. -/
def digestLengthsCard : Claim7 := { stood := { row := digestLengthsRow, standIns := [], harness := (true, "d3d76d00e9450c62df67325791db2ee3796ee8d33ffe87e6b87b35623ca0b8b9"), looks := false }, kinds := [], alts := [], laidByText := true, laidKinds := [.data], laidTests := true, laidLooks := .later }
def DigestLengthsCardSaid : Prop := Claim7.holds Tryd.pinned (.plain (OpenSpec.ofChange digestLengthsSpec)) digestLengthsCard

/-- THE TIED CARD OF 'bynamelaw01.DigestShorts'. -/
def digestShortsCard : Claim7 := { stood := { row := digestShortsRow, standIns := [], harness := (true, "d3d76d00e9450c62df67325791db2ee3796ee8d33ffe87e6b87b35623ca0b8b9"), looks := false }, kinds := [], alts := [], laidByText := true, laidKinds := [.data], laidTests := true, laidLooks := .later }
def DigestShortsCardSaid : Prop := Claim7.holds Tryd.pinned (.plain (OpenSpec.ofChange digestShortsSpec)) digestShortsCard

/-- THE SECOND FORM's CARD OF 'bynamelaw01.DigestNames'. -/
def digestNamesUptoCard : Claim7 := { stood := { row := digestNamesUptoRow, standIns := [], harness := (true, "d3d76d00e9450c62df67325791db2ee3796ee8d33ffe87e6b87b35623ca0b8b9"), looks := false }, kinds := [], alts := [], laidByText := true, laidKinds := [.data], laidTests := true, laidLooks := .later }
def DigestNamesUptoCardSaid : Prop := Claim7.holds Tryd.pinned (.plain (OpenSpec.upto digestNamesSpec)) digestNamesUptoCard

/-- THE SECOND FORM's CARD OF 'bynamelaw01.DigestTells'. -/
def digestTellsUptoCard : Claim7 := { stood := { row := digestTellsUptoRow, standIns := [], harness := (true, "d3d76d00e9450c62df67325791db2ee3796ee8d33ffe87e6b87b35623ca0b8b9"), looks := false }, kinds := [], alts := [], laidByText := true, laidKinds := [.data], laidTests := true, laidLooks := .later }
def DigestTellsUptoCardSaid : Prop := Claim7.holds Tryd.pinned (.plain (OpenSpec.upto digestTellsSpec)) digestTellsUptoCard

/-- THE SECOND FORM's CARD OF 'bynamelaw01.DigestAdds'. -/
def digestAddsUptoCard : Claim7 := { stood := { row := digestAddsUptoRow, standIns := [], harness := (true, "d3d76d00e9450c62df67325791db2ee3796ee8d33ffe87e6b87b35623ca0b8b9"), looks := false }, kinds := [], alts := [], laidByText := true, laidKinds := [.data], laidTests := true, laidLooks := .later }
def DigestAddsUptoCardSaid : Prop := Claim7.holds Tryd.pinned (.plain (OpenSpec.upto digestAddsSpec)) digestAddsUptoCard

/-- THE SECOND FORM's CARD OF 'bynamelaw01.DigestTexts'. -/
def digestTextsUptoCard : Claim7 := { stood := { row := digestTextsUptoRow, standIns := [], harness := (true, "d3d76d00e9450c62df67325791db2ee3796ee8d33ffe87e6b87b35623ca0b8b9"), looks := false }, kinds := [], alts := [], laidByText := true, laidKinds := [.data], laidTests := true, laidLooks := .later }
def DigestTextsUptoCardSaid : Prop := Claim7.holds Tryd.pinned (.plain (OpenSpec.upto digestTextsSpec)) digestTextsUptoCard

/-- THE SECOND FORM's CARD OF 'bynamelaw01.DigestLengths'. -/
def digestLengthsUptoCard : Claim7 := { stood := { row := digestLengthsUptoRow, standIns := [], harness := (true, "d3d76d00e9450c62df67325791db2ee3796ee8d33ffe87e6b87b35623ca0b8b9"), looks := false }, kinds := [], alts := [], laidByText := true, laidKinds := [.data], laidTests := true, laidLooks := .later }
def DigestLengthsUptoCardSaid : Prop := Claim7.holds Tryd.pinned (.plain (OpenSpec.upto digestLengthsSpec)) digestLengthsUptoCard

/-- THE SECOND FORM's CARD OF 'bynamelaw01.DigestShorts'. -/
def digestShortsUptoCard : Claim7 := { stood := { row := digestShortsUptoRow, standIns := [], harness := (true, "d3d76d00e9450c62df67325791db2ee3796ee8d33ffe87e6b87b35623ca0b8b9"), looks := false }, kinds := [], alts := [], laidByText := true, laidKinds := [.data], laidTests := true, laidLooks := .later }
def DigestShortsUptoCardSaid : Prop := Claim7.holds Tryd.pinned (.plain (OpenSpec.upto digestShortsSpec)) digestShortsUptoCard
end Rows
end Go.Proofs.YtofaminpdcapkaaDoor
