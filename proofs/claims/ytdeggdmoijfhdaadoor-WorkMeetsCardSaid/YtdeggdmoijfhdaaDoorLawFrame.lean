/-
  What the rows' list of variables gives the walks, and a world for the witness: the program's one table as its initialiser lays it.
-/
import Derived.Test.YtdeggdmoijfhdaaDoorCards
import Derived.Test.YtdeggdmoijfhdaaDoorTie
import Derived.Test.YtdeggdmoijfhdaaDoorLawAlive
import Derived.ProofKit
import Derived.OpenShut
import Derived.ChangeOld
import Derived.Deep.DeepHandedRow
import Derived.Lib.LaidTab
import Derived.Test.YtdeggdmoijfhdaaDoorLawBase
namespace Go.Proofs.YtdeggdmoijfhdaaDoor
open Go.ChangeShapes Go.WideShapes Go.ChangeAt Go.RowKit

theorem gTab : Tryd.prog.globalNamed "byname/digest.roundKeys" = some 0 := by kernel_rfl
theorem gTabType : (Tryd.prog.globals[0]?).map (·.type) = some 96 := by kernel_rfl
theorem cellsTab : Tryd.prog.cellsOf 96 = 64 := by kernel_rfl
theorem cellsU32 : Tryd.prog.cellsOf 22 = 1 := by kernel_rfl
def kInts : List Int := [1116352408, 1899447441, 3049323471, 3921009573, 961987163, 1508970993, 2453635748, 2870763221, 3624381080, 310598401, 607225278, 1426881987, 1925078388, 2162078206, 2614888103, 3248222580, 3835390401, 4022224774, 264347078, 604807628, 770255983, 1249150122, 1555081692, 1996064986, 2554220882, 2821834349, 2952996808, 3210313671, 3336571891, 3584528711, 113926993, 338241895, 666307205, 773529912, 1294757372, 1396182291, 1695183700, 1986661051, 2177026350, 2456956037, 2730485921, 2820302411, 3259730800, 3345764771, 3516065817, 3600352804, 4094571909, 275423344, 430227734, 506948616, 659060556, 883997877, 958139571, 1322822218, 1537002063, 1747873779, 1955562222, 2024104815, 2227730452, 2361852424, 2428436474, 2756734187, 3204031479, 3329325298]
theorem kInts_eq : kTab.map I = kInts := by decide +kernel

/-- what the row's list gives: the table's cells hold its numbers -/
theorem table {W : World} (h : laidMetH Tryd.prog [("byname/digest.roundKeys", Rows.laid_byname_digest_roundKeys)] W) : Keys W := fun i hi => by
  have ht : Lib.TabIs Tryd.prog W "byname/digest.roundKeys" .u32 kInts :=
    Lib.tabIs_of_head (rest := []) gTab gTabType Tryd.underlying96 Tryd.underlying22 cellsU32 cellsTab h
  have hc := ht.cell gTab i (by simpa [kInts] using hi)
  rw [hc]
  congr 1
  unfold V32
  congr 1
  simp only [← kInts_eq, at32]
  simp [show i < kTab.length from hi]

/-- the table's cells for a witness -/
def tabCells : Array Value := (kInts.map fun z => Value.int .u32 z).toArray
noncomputable def laidWorld (os : Os) : World :=
  { World.holding Tryd.prog os ⟨#[], #[], []⟩ with heap := (World.holding Tryd.prog os ⟨#[], #[], []⟩).heap.modify 0 fun
      | .cells _ t frozen => .cells tabCells t frozen
      | o => o }
end Go.Proofs.YtdeggdmoijfhdaaDoor
