/-
  NARROWER THAN 'FOR EVERY INPUT', by the rows' own cells (each row's printed sentence says how): CurveNames: laid · CurveAdds: laid · CurveOn: laid · CurveTimes: laid · CurveBytes: laid · CurveGroups: laid · CurveNegs: laid.
  DERIVED. THE GIVEN ROWS OF THIS SEAT. 7 by the template 'for every input the law returns true; each argument reads behind the call as it read before'; 0 by the template 'total and deterministic' (their statements: YtecibidncelebaaDoorTotals.lean).
  GIVEN WITH THE SEED: the statements are not yours to turn. If you find one false, say at which input.
  Laid BY PROGRAM, IN A SANDBOX (cutbox-rows.mjs): the forced cells as the released guide's own fill.sh prints them over the translation e83fe76086291b2b… (all of the seat's roots in one cut). By AI agents, Wed Nov 11 2026. No macro, syntax, notation, axiom, sorry.
-/
import Derived.Test.YtecibidncelebaaDoorChecked
import GoSem.Claim
import GoSem.ClaimJoined
import GoSem.ClaimMapViews
import Derived.JoinedTies
import Derived.KernelRfl
namespace Go.Proofs.YtecibidncelebaaDoor
/- THE CELL 'sum', in the pinned program and in every row, IS THE sha256 OF THE DUMP (.gsa) THAT YtecibidncelebaaDoorProg.lean LOADS. Nothing in Lean hashes anything: it is a label: what it is worth is what the hold of that sum in a sandbox is worth. -/
noncomputable def Tryd.pinned : Pinned := { name := "ytecibidncelebaadoor", sum := "e83fe76086291b2be05175f82abb4e2d149c6bb181f83d71c624fc97d301ec0c", checked := Tryd.checked }
namespace Rows
def none {H : Type} : Left H := { results := [], args := [] }

/- WHAT THE LISTED PACKAGE-LEVEL VARIABLES READ AS WHEN THE CALL BEGINS. Each datum BY PROGRAM (the guide's laid-datum.mjs) off the statement by which the dump's own 'gosem.cut.vars' lays the variable. In a bare row this is a premise. The card (YtecibidncelebaaDoorCards.lean) ties it to the program's text. -/
def laid_byname_field_primeP {H : Type} : DataW H := .agg [.lit (.int .u64 18446744069414583343), .lit (.int .u64 18446744073709551615), .lit (.int .u64 18446744073709551615), .lit (.int .u64 18446744073709551615)]
def laid_byname_curve_none {H : Type} : DataW H := .agg [.agg [.lit (.int .u64 0), .lit (.int .u64 0), .lit (.int .u64 0), .lit (.int .u64 0)], .agg [.lit (.int .u64 0), .lit (.int .u64 0), .lit (.int .u64 0), .lit (.int .u64 0)], .lit (.bool true)]
def laid_byname_curve_base {H : Type} : DataW H := .agg [.agg [.lit (.int .u64 6481385041966929816), .lit (.int .u64 188021827762530521), .lit (.int .u64 6170039885052185351), .lit (.int .u64 8772561819708210092)], .agg [.lit (.int .u64 11261198710074299576), .lit (.int .u64 18237243440184513561), .lit (.int .u64 6747795201694173352), .lit (.int .u64 5204712524664259685)], .lit (.bool false)]

/-- 'bynamelaw04.CurveNames': WHATEVER THE INPUT: true; the input reads as it did. -/
def curveNamesSpec : ChangeSpec := { name := "curveNames", fn := fun _ => fun
  | [] => { results := [.lit (.bool true)], args := [] }
  | _ => none }
def curveNamesRow : OpenClaim := { program := "ytecibidncelebaadoor", sum := "e83fe76086291b2be05175f82abb4e2d149c6bb181f83d71c624fc97d301ec0c", func := "byname/bynamelaw04.CurveNames", spec := "curveNames", inPlace := ["math/bits.Add64", "math/bits.Sub64"], named := ["byname/curve.none", "byname/field.primeP", "byname/curve.base"], apart := false, laid := [("byname/field.primeP", laid_byname_field_primeP), ("byname/curve.none", laid_byname_curve_none), ("byname/curve.base", laid_byname_curve_base)] }
def CurveNamesSaid : Prop := curveNamesRow.holds Tryd.pinned (OpenSpec.ofChange curveNamesSpec)

/-- ITS FALSE NEIGHBOUR: 'it returns false'. Refute it at one input. -/
def curveNamesWrong : ChangeSpec := { name := "curveNames", fn := fun _ => fun
  | [] => { results := [.lit (.bool false)], args := [] }
  | _ => none }
def CurveNamesWrongFalsely : Prop := curveNamesRow.holds Tryd.pinned (OpenSpec.ofChange curveNamesWrong)

/-- 'bynamelaw04.CurveAdds': WHATEVER THE INPUT: true; the input reads as it did. -/
def curveAddsSpec : ChangeSpec := { name := "curveAdds", fn := fun _ => fun
  | [d1, d2] => { results := [.lit (.bool true)], args := [d1, d2] }
  | _ => none }
def curveAddsRow : OpenClaim := { program := "ytecibidncelebaadoor", sum := "e83fe76086291b2be05175f82abb4e2d149c6bb181f83d71c624fc97d301ec0c", func := "byname/bynamelaw04.CurveAdds", spec := "curveAdds", inPlace := ["math/bits.Sub64", "math/bits.Add64"], named := ["byname/curve.base", "byname/curve.none", "byname/field.primeP"], apart := false, laid := [("byname/field.primeP", laid_byname_field_primeP), ("byname/curve.none", laid_byname_curve_none), ("byname/curve.base", laid_byname_curve_base)] }
def CurveAddsSaid : Prop := curveAddsRow.holds Tryd.pinned (OpenSpec.ofChange curveAddsSpec)

/-- ITS FALSE NEIGHBOUR: 'it returns false'. Refute it at one input. -/
def curveAddsWrong : ChangeSpec := { name := "curveAdds", fn := fun _ => fun
  | [d1, d2] => { results := [.lit (.bool false)], args := [d1, d2] }
  | _ => none }
def CurveAddsWrongFalsely : Prop := curveAddsRow.holds Tryd.pinned (OpenSpec.ofChange curveAddsWrong)

/-- 'bynamelaw04.CurveOn': WHATEVER THE INPUT: true; the input reads as it did. -/
def curveOnSpec : ChangeSpec := { name := "curveOn", fn := fun _ => fun
  | [d] => { results := [.lit (.bool true)], args := [d] }
  | _ => none }
def curveOnRow : OpenClaim := { program := "ytecibidncelebaadoor", sum := "e83fe76086291b2be05175f82abb4e2d149c6bb181f83d71c624fc97d301ec0c", func := "byname/bynamelaw04.CurveOn", spec := "curveOn", inPlace := ["math/bits.Sub64", "math/bits.Add64"], named := ["byname/curve.base", "byname/curve.none", "byname/field.primeP"], apart := false, laid := [("byname/field.primeP", laid_byname_field_primeP), ("byname/curve.none", laid_byname_curve_none), ("byname/curve.base", laid_byname_curve_base)] }
def CurveOnSaid : Prop := curveOnRow.holds Tryd.pinned (OpenSpec.ofChange curveOnSpec)

/-- ITS FALSE NEIGHBOUR: 'it returns false'. Refute it at one input. -/
def curveOnWrong : ChangeSpec := { name := "curveOn", fn := fun _ => fun
  | [d] => { results := [.lit (.bool false)], args := [d] }
  | _ => none }
def CurveOnWrongFalsely : Prop := curveOnRow.holds Tryd.pinned (OpenSpec.ofChange curveOnWrong)

/-- 'bynamelaw04.CurveTimes': WHATEVER THE INPUT: true; the input reads as it did. -/
def curveTimesSpec : ChangeSpec := { name := "curveTimes", fn := fun _ => fun
  | [d1, d2, d3] => { results := [.lit (.bool true)], args := [d1, d2, d3] }
  | _ => none }
def curveTimesRow : OpenClaim := { program := "ytecibidncelebaadoor", sum := "e83fe76086291b2be05175f82abb4e2d149c6bb181f83d71c624fc97d301ec0c", func := "byname/bynamelaw04.CurveTimes", spec := "curveTimes", inPlace := ["math/bits.Sub64", "math/bits.Add64"], named := ["byname/curve.base", "byname/curve.none", "byname/field.primeP"], apart := false, laid := [("byname/field.primeP", laid_byname_field_primeP), ("byname/curve.none", laid_byname_curve_none), ("byname/curve.base", laid_byname_curve_base)] }
def CurveTimesSaid : Prop := curveTimesRow.holds Tryd.pinned (OpenSpec.ofChange curveTimesSpec)

/-- ITS FALSE NEIGHBOUR: 'it returns false'. Refute it at one input. -/
def curveTimesWrong : ChangeSpec := { name := "curveTimes", fn := fun _ => fun
  | [d1, d2, d3] => { results := [.lit (.bool false)], args := [d1, d2, d3] }
  | _ => none }
def CurveTimesWrongFalsely : Prop := curveTimesRow.holds Tryd.pinned (OpenSpec.ofChange curveTimesWrong)

/-- 'bynamelaw04.CurveBytes': WHATEVER THE INPUT: true; the input reads as it did. -/
def curveBytesSpec : ChangeSpec := { name := "curveBytes", fn := fun _ => fun
  | [d1, d2] => { results := [.lit (.bool true)], args := [d1, d2] }
  | _ => none }
def curveBytesRow : OpenClaim := { program := "ytecibidncelebaadoor", sum := "e83fe76086291b2be05175f82abb4e2d149c6bb181f83d71c624fc97d301ec0c", func := "byname/bynamelaw04.CurveBytes", spec := "curveBytes", inPlace := ["math/bits.Sub64", "math/bits.Add64"], named := ["byname/curve.base", "byname/curve.none", "byname/field.primeP"], apart := false, laid := [("byname/field.primeP", laid_byname_field_primeP), ("byname/curve.none", laid_byname_curve_none), ("byname/curve.base", laid_byname_curve_base)] }
def CurveBytesSaid : Prop := curveBytesRow.holds Tryd.pinned (OpenSpec.ofChange curveBytesSpec)

/-- ITS FALSE NEIGHBOUR: 'it returns false'. Refute it at one input. -/
def curveBytesWrong : ChangeSpec := { name := "curveBytes", fn := fun _ => fun
  | [d1, d2] => { results := [.lit (.bool false)], args := [d1, d2] }
  | _ => none }
def CurveBytesWrongFalsely : Prop := curveBytesRow.holds Tryd.pinned (OpenSpec.ofChange curveBytesWrong)

/-- 'bynamelaw04.CurveGroups': WHATEVER THE INPUT: true; the input reads as it did. -/
def curveGroupsSpec : ChangeSpec := { name := "curveGroups", fn := fun _ => fun
  | [d1, d2, d3] => { results := [.lit (.bool true)], args := [d1, d2, d3] }
  | _ => none }
def curveGroupsRow : OpenClaim := { program := "ytecibidncelebaadoor", sum := "e83fe76086291b2be05175f82abb4e2d149c6bb181f83d71c624fc97d301ec0c", func := "byname/bynamelaw04.CurveGroups", spec := "curveGroups", inPlace := ["math/bits.Sub64", "math/bits.Add64"], named := ["byname/curve.base", "byname/curve.none", "byname/field.primeP"], apart := false, laid := [("byname/field.primeP", laid_byname_field_primeP), ("byname/curve.none", laid_byname_curve_none), ("byname/curve.base", laid_byname_curve_base)] }
def CurveGroupsSaid : Prop := curveGroupsRow.holds Tryd.pinned (OpenSpec.ofChange curveGroupsSpec)

/-- ITS FALSE NEIGHBOUR: 'it returns false'. Refute it at one input. -/
def curveGroupsWrong : ChangeSpec := { name := "curveGroups", fn := fun _ => fun
  | [d1, d2, d3] => { results := [.lit (.bool false)], args := [d1, d2, d3] }
  | _ => none }
def CurveGroupsWrongFalsely : Prop := curveGroupsRow.holds Tryd.pinned (OpenSpec.ofChange curveGroupsWrong)

/-- 'bynamelaw04.CurveNegs': WHATEVER THE INPUT: true; the input reads as it did. -/
def curveNegsSpec : ChangeSpec := { name := "curveNegs", fn := fun _ => fun
  | [d] => { results := [.lit (.bool true)], args := [d] }
  | _ => none }
def curveNegsRow : OpenClaim := { program := "ytecibidncelebaadoor", sum := "e83fe76086291b2be05175f82abb4e2d149c6bb181f83d71c624fc97d301ec0c", func := "byname/bynamelaw04.CurveNegs", spec := "curveNegs", inPlace := ["math/bits.Sub64", "math/bits.Add64"], named := ["byname/curve.base", "byname/curve.none", "byname/field.primeP"], apart := false, laid := [("byname/field.primeP", laid_byname_field_primeP), ("byname/curve.none", laid_byname_curve_none), ("byname/curve.base", laid_byname_curve_base)] }
def CurveNegsSaid : Prop := curveNegsRow.holds Tryd.pinned (OpenSpec.ofChange curveNegsSpec)

/-- ITS FALSE NEIGHBOUR: 'it returns false'. Refute it at one input. -/
def curveNegsWrong : ChangeSpec := { name := "curveNegs", fn := fun _ => fun
  | [d] => { results := [.lit (.bool false)], args := [d] }
  | _ => none }
def CurveNegsWrongFalsely : Prop := curveNegsRow.holds Tryd.pinned (OpenSpec.ofChange curveNegsWrong)

/- THE SECOND FORM. 'bulk': how many values and letters a reading holds, each counted each time it is reached (what is shared counts as often as it is met; a slice's spare places count too). A statement '..UptoSaid' is the law's where the arguments, and the package variables that the reading takes, are together of bulk at most 1048576: NARROWER than '..Said'. Prove '..Said' where nothing that the law and all that it calls make is longer than what came in: it says more and counts as full. Else prove '..UptoSaid'. A law counts once. -/
mutual
def uptoBulk {H : Type} : DataW H → Nat
  | .lit (.string bytes) => bytes.length + 1
  | .lit _ => 1
  | .nil => 1
  | .ptr d => uptoBulk d + 1
  | .slice elems spare => uptoBulkAll elems + uptoBulkAll spare + 1
  | .agg parts => uptoBulkAll parts + 1
  | .iface _ d => uptoBulk d + 1
  | .map entries => uptoBulkEntries entries + 1
  | .held _ => 1
def uptoBulkAll {H : Type} : List (DataW H) → Nat
  | [] => 0
  | d :: r => uptoBulk d + uptoBulkAll r
def uptoBulkEntries {H : Type} : List (Lit × DataW H) → Nat
  | [] => 0
  | x :: r => uptoBulkEntry x + uptoBulkEntries r
def uptoBulkEntry {H : Type} : Lit × DataW H → Nat
  | (.string bytes, d) => bytes.length + uptoBulk d + 1
  | (_, d) => uptoBulk d + 1
 end
def uptoSmall : (H : Type) → List (DataW H) → Bool := fun _ ds => decide (uptoBulkAll ds ≤ 1048576)
def OpenSpec.upto (s : _root_.Go.ChangeSpec) : _root_.Go.OpenSpec := { _root_.Go.OpenSpec.ofChange s with cond := some uptoSmall }

/-- 'bynamelaw04.CurveNames', WHERE WHAT IT READS IS OF BULK AT MOST 1048576: true; the input reads as it did. -/
def curveNamesUptoRow : OpenClaim := { program := "ytecibidncelebaadoor", sum := "e83fe76086291b2be05175f82abb4e2d149c6bb181f83d71c624fc97d301ec0c", func := "byname/bynamelaw04.CurveNames", spec := "curveNames", inPlace := ["math/bits.Add64", "math/bits.Sub64"], named := ["byname/curve.none", "byname/field.primeP", "byname/curve.base"], apart := false, laid := [("byname/field.primeP", laid_byname_field_primeP), ("byname/curve.none", laid_byname_curve_none), ("byname/curve.base", laid_byname_curve_base)], narrowed := true }
def CurveNamesUptoSaid : Prop := curveNamesUptoRow.holds Tryd.pinned (OpenSpec.upto curveNamesSpec)

/-- 'bynamelaw04.CurveAdds', WHERE WHAT IT READS IS OF BULK AT MOST 1048576: true; the input reads as it did. -/
def curveAddsUptoRow : OpenClaim := { program := "ytecibidncelebaadoor", sum := "e83fe76086291b2be05175f82abb4e2d149c6bb181f83d71c624fc97d301ec0c", func := "byname/bynamelaw04.CurveAdds", spec := "curveAdds", inPlace := ["math/bits.Sub64", "math/bits.Add64"], named := ["byname/curve.base", "byname/curve.none", "byname/field.primeP"], apart := false, laid := [("byname/field.primeP", laid_byname_field_primeP), ("byname/curve.none", laid_byname_curve_none), ("byname/curve.base", laid_byname_curve_base)], narrowed := true }
def CurveAddsUptoSaid : Prop := curveAddsUptoRow.holds Tryd.pinned (OpenSpec.upto curveAddsSpec)

/-- 'bynamelaw04.CurveOn', WHERE WHAT IT READS IS OF BULK AT MOST 1048576: true; the input reads as it did. -/
def curveOnUptoRow : OpenClaim := { program := "ytecibidncelebaadoor", sum := "e83fe76086291b2be05175f82abb4e2d149c6bb181f83d71c624fc97d301ec0c", func := "byname/bynamelaw04.CurveOn", spec := "curveOn", inPlace := ["math/bits.Sub64", "math/bits.Add64"], named := ["byname/curve.base", "byname/curve.none", "byname/field.primeP"], apart := false, laid := [("byname/field.primeP", laid_byname_field_primeP), ("byname/curve.none", laid_byname_curve_none), ("byname/curve.base", laid_byname_curve_base)], narrowed := true }
def CurveOnUptoSaid : Prop := curveOnUptoRow.holds Tryd.pinned (OpenSpec.upto curveOnSpec)

/-- 'bynamelaw04.CurveTimes', WHERE WHAT IT READS IS OF BULK AT MOST 1048576: true; the input reads as it did. -/
def curveTimesUptoRow : OpenClaim := { program := "ytecibidncelebaadoor", sum := "e83fe76086291b2be05175f82abb4e2d149c6bb181f83d71c624fc97d301ec0c", func := "byname/bynamelaw04.CurveTimes", spec := "curveTimes", inPlace := ["math/bits.Sub64", "math/bits.Add64"], named := ["byname/curve.base", "byname/curve.none", "byname/field.primeP"], apart := false, laid := [("byname/field.primeP", laid_byname_field_primeP), ("byname/curve.none", laid_byname_curve_none), ("byname/curve.base", laid_byname_curve_base)], narrowed := true }
def CurveTimesUptoSaid : Prop := curveTimesUptoRow.holds Tryd.pinned (OpenSpec.upto curveTimesSpec)

/-- 'bynamelaw04.CurveBytes', WHERE WHAT IT READS IS OF BULK AT MOST 1048576: true; the input reads as it did. -/
def curveBytesUptoRow : OpenClaim := { program := "ytecibidncelebaadoor", sum := "e83fe76086291b2be05175f82abb4e2d149c6bb181f83d71c624fc97d301ec0c", func := "byname/bynamelaw04.CurveBytes", spec := "curveBytes", inPlace := ["math/bits.Sub64", "math/bits.Add64"], named := ["byname/curve.base", "byname/curve.none", "byname/field.primeP"], apart := false, laid := [("byname/field.primeP", laid_byname_field_primeP), ("byname/curve.none", laid_byname_curve_none), ("byname/curve.base", laid_byname_curve_base)], narrowed := true }
def CurveBytesUptoSaid : Prop := curveBytesUptoRow.holds Tryd.pinned (OpenSpec.upto curveBytesSpec)

/-- 'bynamelaw04.CurveGroups', WHERE WHAT IT READS IS OF BULK AT MOST 1048576: true; the input reads as it did. -/
def curveGroupsUptoRow : OpenClaim := { program := "ytecibidncelebaadoor", sum := "e83fe76086291b2be05175f82abb4e2d149c6bb181f83d71c624fc97d301ec0c", func := "byname/bynamelaw04.CurveGroups", spec := "curveGroups", inPlace := ["math/bits.Sub64", "math/bits.Add64"], named := ["byname/curve.base", "byname/curve.none", "byname/field.primeP"], apart := false, laid := [("byname/field.primeP", laid_byname_field_primeP), ("byname/curve.none", laid_byname_curve_none), ("byname/curve.base", laid_byname_curve_base)], narrowed := true }
def CurveGroupsUptoSaid : Prop := curveGroupsUptoRow.holds Tryd.pinned (OpenSpec.upto curveGroupsSpec)

/-- 'bynamelaw04.CurveNegs', WHERE WHAT IT READS IS OF BULK AT MOST 1048576: true; the input reads as it did. -/
def curveNegsUptoRow : OpenClaim := { program := "ytecibidncelebaadoor", sum := "e83fe76086291b2be05175f82abb4e2d149c6bb181f83d71c624fc97d301ec0c", func := "byname/bynamelaw04.CurveNegs", spec := "curveNegs", inPlace := ["math/bits.Sub64", "math/bits.Add64"], named := ["byname/curve.base", "byname/curve.none", "byname/field.primeP"], apart := false, laid := [("byname/field.primeP", laid_byname_field_primeP), ("byname/curve.none", laid_byname_curve_none), ("byname/curve.base", laid_byname_curve_base)], narrowed := true }
def CurveNegsUptoSaid : Prop := curveNegsUptoRow.holds Tryd.pinned (OpenSpec.upto curveNegsSpec)

end Rows
end Go.Proofs.YtecibidncelebaaDoor
