/-
  What the rows' list of variables gives the walks of layer 3 (both primes), a world for the witness, and rows of two numbers that came in.
-/
import Derived.Test.YtecibidncelebaaDoorCards
import Derived.Test.YtecibidncelebaaDoorTie
import Derived.Test.YtecibidncelebaaDoorLawFrameW
import Derived.Test.YtecibidncelebaaDoorFAll
namespace Go.Proofs.YtecibidncelebaaDoor
open Go.ChangeShapes Go.WideShapes Go.ChangeAt Go.RowKit Go

theorem gP : Tryd.prog.globalNamed "byname/field.primeP" = some 2 := by kernel_rfl
theorem gPType : (Tryd.prog.globals[2]?).map (·.type) = some 24 := by kernel_rfl
theorem cellsWide : Tryd.prog.cellsOf 24 = 4 := by kernel_rfl
theorem cellsU64 : Tryd.prog.cellsOf 22 = 1 := by kernel_rfl
def pInts : List Int := [18446744069414583343, 18446744073709551615, 18446744073709551615, 18446744073709551615]
theorem pInts_eq : ∀ j, j < 4 → pInts.getD j 0 = (limb PP j : Int) := by decide +kernel
theorem laidMet_tail {P : Program} {W : World} {x : String × DataW Unit} {rest : List (String × DataW Unit)} (h : laidMet P (x :: rest) W) : laidMet P rest W := by
  obtain ⟨ps, ⟨g, t, cs, fuel, p, q, h1, h2, h3, h4, h5, h6⟩, hn, hc⟩ := h
  subst h6
  exact ⟨q, h5, (List.nodup_append.1 hn).2.1, fun b off hb => hc b off (List.mem_append.2 (.inr hb))⟩
theorem globP {W : World} {rest : List (String × DataW Unit)} (h : laidMet Tryd.prog (("byname/field.primeP", Rows.laid_byname_field_primeP) :: rest) W) : Glob 2 PP W := fun j hj => by
  have ht : Lib.TabIs Tryd.prog W "byname/field.primeP" .u64 pInts :=
    Lib.tabIs_of_head (rest := rest) gP gPType Tryd.underlying24 Tryd.underlying22 cellsU64 cellsWide h
  rw [ht.cell gP j (by simpa [pInts] using hj), pInts_eq j hj]
/-- the variables' cells for a witness -/
def pCells : Array Value := (pInts.map fun z => Value.int .u64 z).toArray
def putCells (cs : Array Value) : Obj → Obj
  | .cells _ t frozen => .cells cs t frozen
  | o => o
end Go.Proofs.YtecibidncelebaaDoor
