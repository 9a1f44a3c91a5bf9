/-
  DERIVED. GIVEN WITH THE SEED: THE CARDS: each row of YtecibidncelebaaDoorRows.lean that lists a variable, with what it lists TIED to the program's text (the seventh form; the later family's looks); each row that meets fmt, with fmt's text TOLD by the authors' own Lean function (tested against real Go, not proved from fmt's source: count such statements apart). THE CARD IS WHAT COUNTS. Prove the row's statement (the work); the ties are given (YtecibidncelebaaDoorTie.lean); close each card by the builder's one call (the guide's Derived/Test/ToyasCard.lean, 'card_holds'). Laid BY PROGRAM, IN A SANDBOX (cutbox-door.mjs). By AI agents, Wed Nov 11 2026. No macro, syntax, notation, axiom, sorry.
-/
import Derived.Test.YtecibidncelebaaDoorRows
import GoSem.ClaimSeven
namespace Go.Proofs.YtecibidncelebaaDoor
namespace Rows

/-- THE TIED CARD OF 'bynamelaw04.CurveNames'. -/
def curveNamesCard : Claim7 := { stood := { row := curveNamesRow, standIns := [], harness := (true, "3d9ba5e365da65b346764ef25644345cf785ada519b935122b97101ba35f2bd5"), looks := false }, kinds := [], alts := [], laidByText := true, laidKinds := [.data, .data, .data], laidTests := true, laidLooks := .later }
def CurveNamesCardSaid : Prop := Claim7.holds Tryd.pinned (.plain (OpenSpec.ofChange curveNamesSpec)) curveNamesCard

/-- THE TIED CARD OF 'bynamelaw04.CurveAdds'. -/
def curveAddsCard : Claim7 := { stood := { row := curveAddsRow, standIns := [], harness := (true, "3d9ba5e365da65b346764ef25644345cf785ada519b935122b97101ba35f2bd5"), looks := false }, kinds := [], alts := [], laidByText := true, laidKinds := [.data, .data, .data], laidTests := true, laidLooks := .later }
def CurveAddsCardSaid : Prop := Claim7.holds Tryd.pinned (.plain (OpenSpec.ofChange curveAddsSpec)) curveAddsCard

/-- THE TIED CARD OF 'bynamelaw04.CurveOn'. -/
def curveOnCard : Claim7 := { stood := { row := curveOnRow, standIns := [], harness := (true, "3d9ba5e365da65b346764ef25644345cf785ada519b935122b97101ba35f2bd5"), looks := false }, kinds := [], alts := [], laidByText := true, laidKinds := [.data, .data, .data], laidTests := true, laidLooks := .later }
def CurveOnCardSaid : Prop := Claim7.holds Tryd.pinned (.plain (OpenSpec.ofChange curveOnSpec)) curveOnCard

/-- THE TIED CARD OF 'bynamelaw04.CurveTimes'. -/
def curveTimesCard : Claim7 := { stood := { row := curveTimesRow, standIns := [], harness := (true, "3d9ba5e365da65b346764ef25644345cf785ada519b935122b97101ba35f2bd5"), looks := false }, kinds := [], alts := [], laidByText := true, laidKinds := [.data, .data, .data], laidTests := true, laidLooks := .later }
def CurveTimesCardSaid : Prop := Claim7.holds Tryd.pinned (.plain (OpenSpec.ofChange curveTimesSpec)) curveTimesCard

/-- THE TIED CARD OF 'bynamelaw04.CurveBytes'. -/
def curveBytesCard : Claim7 := { stood := { row := curveBytesRow, standIns := [], harness := (true, "3d9ba5e365da65b346764ef25644345cf785ada519b935122b97101ba35f2bd5"), looks := false }, kinds := [], alts := [], laidByText := true, laidKinds := [.data, .data, .data], laidTests := true, laidLooks := .later }
def CurveBytesCardSaid : Prop := Claim7.holds Tryd.pinned (.plain (OpenSpec.ofChange curveBytesSpec)) curveBytesCard

/-- THE TIED CARD OF 'bynamelaw04.CurveGroups'. -/
def curveGroupsCard : Claim7 := { stood := { row := curveGroupsRow, standIns := [], harness := (true, "3d9ba5e365da65b346764ef25644345cf785ada519b935122b97101ba35f2bd5"), looks := false }, kinds := [], alts := [], laidByText := true, laidKinds := [.data, .data, .data], laidTests := true, laidLooks := .later }
def CurveGroupsCardSaid : Prop := Claim7.holds Tryd.pinned (.plain (OpenSpec.ofChange curveGroupsSpec)) curveGroupsCard

/-- THE TIED CARD OF 'bynamelaw04.CurveNegs'. -/
def curveNegsCard : Claim7 := { stood := { row := curveNegsRow, standIns := [], harness := (true, "3d9ba5e365da65b346764ef25644345cf785ada519b935122b97101ba35f2bd5"), looks := false }, kinds := [], alts := [], laidByText := true, laidKinds := [.data, .data, .data], laidTests := true, laidLooks := .later }
def CurveNegsCardSaid : Prop := Claim7.holds Tryd.pinned (.plain (OpenSpec.ofChange curveNegsSpec)) curveNegsCard

/-- THE SECOND FORM's CARD OF 'bynamelaw04.CurveNames'. -/
def curveNamesUptoCard : Claim7 := { stood := { row := curveNamesUptoRow, standIns := [], harness := (true, "3d9ba5e365da65b346764ef25644345cf785ada519b935122b97101ba35f2bd5"), looks := false }, kinds := [], alts := [], laidByText := true, laidKinds := [.data, .data, .data], laidTests := true, laidLooks := .later }
def CurveNamesUptoCardSaid : Prop := Claim7.holds Tryd.pinned (.plain (OpenSpec.upto curveNamesSpec)) curveNamesUptoCard

/-- THE SECOND FORM's CARD OF 'bynamelaw04.CurveAdds'. -/
def curveAddsUptoCard : Claim7 := { stood := { row := curveAddsUptoRow, standIns := [], harness := (true, "3d9ba5e365da65b346764ef25644345cf785ada519b935122b97101ba35f2bd5"), looks := false }, kinds := [], alts := [], laidByText := true, laidKinds := [.data, .data, .data], laidTests := true, laidLooks := .later }
def CurveAddsUptoCardSaid : Prop := Claim7.holds Tryd.pinned (.plain (OpenSpec.upto curveAddsSpec)) curveAddsUptoCard

/-- THE SECOND FORM's CARD OF 'bynamelaw04.CurveOn'. -/
def curveOnUptoCard : Claim7 := { stood := { row := curveOnUptoRow, standIns := [], harness := (true, "3d9ba5e365da65b346764ef25644345cf785ada519b935122b97101ba35f2bd5"), looks := false }, kinds := [], alts := [], laidByText := true, laidKinds := [.data, .data, .data], laidTests := true, laidLooks := .later }
def CurveOnUptoCardSaid : Prop := Claim7.holds Tryd.pinned (.plain (OpenSpec.upto curveOnSpec)) curveOnUptoCard

/-- THE SECOND FORM's CARD OF 'bynamelaw04.CurveTimes'. -/
def curveTimesUptoCard : Claim7 := { stood := { row := curveTimesUptoRow, standIns := [], harness := (true, "3d9ba5e365da65b346764ef25644345cf785ada519b935122b97101ba35f2bd5"), looks := false }, kinds := [], alts := [], laidByText := true, laidKinds := [.data, .data, .data], laidTests := true, laidLooks := .later }
def CurveTimesUptoCardSaid : Prop := Claim7.holds Tryd.pinned (.plain (OpenSpec.upto curveTimesSpec)) curveTimesUptoCard

/-- THE SECOND FORM's CARD OF 'bynamelaw04.CurveBytes'. -/
def curveBytesUptoCard : Claim7 := { stood := { row := curveBytesUptoRow, standIns := [], harness := (true, "3d9ba5e365da65b346764ef25644345cf785ada519b935122b97101ba35f2bd5"), looks := false }, kinds := [], alts := [], laidByText := true, laidKinds := [.data, .data, .data], laidTests := true, laidLooks := .later }
def CurveBytesUptoCardSaid : Prop := Claim7.holds Tryd.pinned (.plain (OpenSpec.upto curveBytesSpec)) curveBytesUptoCard

/-- THE SECOND FORM's CARD OF 'bynamelaw04.CurveGroups'. -/
def curveGroupsUptoCard : Claim7 := { stood := { row := curveGroupsUptoRow, standIns := [], harness := (true, "3d9ba5e365da65b346764ef25644345cf785ada519b935122b97101ba35f2bd5"), looks := false }, kinds := [], alts := [], laidByText := true, laidKinds := [.data, .data, .data], laidTests := true, laidLooks := .later }
def CurveGroupsUptoCardSaid : Prop := Claim7.holds Tryd.pinned (.plain (OpenSpec.upto curveGroupsSpec)) curveGroupsUptoCard

/-- THE SECOND FORM's CARD OF 'bynamelaw04.CurveNegs'. -/
def curveNegsUptoCard : Claim7 := { stood := { row := curveNegsUptoRow, standIns := [], harness := (true, "3d9ba5e365da65b346764ef25644345cf785ada519b935122b97101ba35f2bd5"), looks := false }, kinds := [], alts := [], laidByText := true, laidKinds := [.data, .data, .data], laidTests := true, laidLooks := .later }
def CurveNegsUptoCardSaid : Prop := Claim7.holds Tryd.pinned (.plain (OpenSpec.upto curveNegsSpec)) curveNegsUptoCard
end Rows
end Go.Proofs.YtecibidncelebaaDoor
