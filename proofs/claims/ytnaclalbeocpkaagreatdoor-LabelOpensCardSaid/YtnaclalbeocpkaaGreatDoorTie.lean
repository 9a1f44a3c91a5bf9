/-
  DERIVED. GIVEN WITH THE SEED: THE PROGRAM's TIES (one call each: nine closed facts by the kernel) AND EACH ROW's TIE, after the 31st guide's Derived/Test/Toyas{Tie, Card}.lean. No idea stands in it: it is a product of the set-up. Laid BY PROGRAM, IN A SANDBOX (cutbox-door.mjs). By AI agents, Wed Nov 11 2026. No macro, syntax, notation, axiom, sorry.
-/
import Derived.Test.YtnaclalbeocpkaaGreatDoorRows
import Derived.LaidByTextLater
import Derived.SevenTiedAt
import Derived.LaidSub
import Derived.LaidOnce
namespace Go.Proofs.YtnaclalbeocpkaaGreatDoor
open Go
set_option maxRecDepth 100000
theorem seatTie1 : Tryz.prog.laidByTextLater [("byname/digest.roundKeys", Rows.laid_byname_digest_roundKeys), ("byname/field.primeP", Rows.laid_byname_field_primeP), ("byname/field.primeN", Rows.laid_byname_field_primeN), ("byname/curve.none", Rows.laid_byname_curve_none), ("byname/curve.base", Rows.laid_byname_curve_base), ("byname/label.pieceCounts", Rows.laid_byname_label_pieceCounts)] [.data, .data, .data, .data, .data, .data] true :=
  Program.laidByTextLater_by_one 41 8 65 (by kernel_rfl) (by kernel_rfl) (by kernel_rfl) (by kernel_rfl) (by kernel_rfl) (by kernel_rfl) (fun _ _ => by kernel_rfl)
theorem noOwnUnsafe : Tryz.pinned.checked.prog.headLifts.contains "ownunsafe" = false := by kernel_rfl
theorem tie : Tryz.prog.laidByTextLater [("byname/digest.roundKeys", Rows.laid_byname_digest_roundKeys), ("byname/field.primeP", Rows.laid_byname_field_primeP), ("byname/field.primeN", Rows.laid_byname_field_primeN), ("byname/curve.none", Rows.laid_byname_curve_none), ("byname/curve.base", Rows.laid_byname_curve_base), ("byname/label.pieceCounts", Rows.laid_byname_label_pieceCounts)] [.data, .data, .data, .data, .data, .data] true :=
  Program.laidByTextLater.sub seatTie1 ["byname/digest.roundKeys", "byname/field.primeP", "byname/field.primeN", "byname/curve.none", "byname/curve.base", "byname/label.pieceCounts"] (by kernel_rfl) (by kernel_rfl)
theorem labelOpens_row_tie : Rows.labelOpensRow.laidByTextAt .later Tryz.pinned [.data, .data, .data, .data, .data, .data] true :=
  OpenClaim.laidByTextAt_later rfl rfl tie noOwnUnsafe
theorem labelOpensUpto_row_tie : Rows.labelOpensUptoRow.laidByTextAt .later Tryz.pinned [.data, .data, .data, .data, .data, .data] true :=
  OpenClaim.laidByTextAt_later rfl rfl tie noOwnUnsafe
end Go.Proofs.YtnaclalbeocpkaaGreatDoor
