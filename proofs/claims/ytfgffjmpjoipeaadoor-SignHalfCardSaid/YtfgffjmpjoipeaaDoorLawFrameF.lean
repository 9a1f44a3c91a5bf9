/-
  What the rows' list of variables gives the walks of layer 3 (both primes), a world for the witness, and rows of two numbers that came in.
-/
import Derived.Test.YtfgffjmpjoipeaaDoorCards
import Derived.Test.YtfgffjmpjoipeaaDoorTie
import Derived.Test.YtfgffjmpjoipeaaDoorLawFrameW
import Derived.Test.YtfgffjmpjoipeaaDoorFAll
namespace Go.Proofs.YtfgffjmpjoipeaaDoor
open Go.ChangeShapes Go.WideShapes Go.ChangeAt Go.RowKit Go

theorem gP : Tryd.prog.globalNamed "byname/field.primeP" = some 3 := by kernel_rfl
theorem gN : Tryd.prog.globalNamed "byname/field.primeN" = some 1 := by kernel_rfl
theorem gPType : (Tryd.prog.globals[3]?).map (·.type) = some 24 := by kernel_rfl
theorem gNType : (Tryd.prog.globals[1]?).map (·.type) = some 24 := by kernel_rfl
theorem cellsWide : Tryd.prog.cellsOf 24 = 4 := by kernel_rfl
theorem cellsU64 : Tryd.prog.cellsOf 22 = 1 := by kernel_rfl
def pInts : List Int := [18446744069414583343, 18446744073709551615, 18446744073709551615, 18446744073709551615]
def nInts : List Int := [13822214165235122497, 13451932020343611451, 18446744073709551614, 18446744073709551615]
theorem pInts_eq : ∀ j, j < 4 → pInts.getD j 0 = (limb PP j : Int) := by decide +kernel
theorem nInts_eq : ∀ j, j < 4 → nInts.getD j 0 = (limb NN j : Int) := by decide +kernel
theorem laidMet_tail {P : Program} {W : World} {x : String × DataW Unit} {rest : List (String × DataW Unit)} (h : laidMet P (x :: rest) W) : laidMet P rest W := by
  obtain ⟨ps, ⟨g, t, cs, fuel, p, q, h1, h2, h3, h4, h5, h6⟩, hn, hc⟩ := h
  subst h6
  exact ⟨q, h5, (List.nodup_append.1 hn).2.1, fun b off hb => hc b off (List.mem_append.2 (.inr hb))⟩
theorem globP {W : World} {rest : List (String × DataW Unit)} (h : laidMet Tryd.prog (("byname/field.primeP", Rows.laid_byname_field_primeP) :: rest) W) : Glob 3 PP W := fun j hj => by
  have ht : Lib.TabIs Tryd.prog W "byname/field.primeP" .u64 pInts :=
    Lib.tabIs_of_head (rest := rest) gP gPType Tryd.underlying24 Tryd.underlying22 cellsU64 cellsWide h
  rw [ht.cell gP j (by simpa [pInts] using hj), pInts_eq j hj]
theorem globN {W : World} {rest : List (String × DataW Unit)} (h : laidMet Tryd.prog (("byname/field.primeN", Rows.laid_byname_field_primeN) :: rest) W) : Glob 1 NN W := fun j hj => by
  have ht : Lib.TabIs Tryd.prog W "byname/field.primeN" .u64 nInts :=
    Lib.tabIs_of_head (rest := rest) gN gNType Tryd.underlying24 Tryd.underlying22 cellsU64 cellsWide h
  rw [ht.cell gN j (by simpa [nInts] using hj), nInts_eq j hj]
/-- the variables' cells for a witness -/
def pCells : Array Value := (pInts.map fun z => Value.int .u64 z).toArray
def nCells : Array Value := (nInts.map fun z => Value.int .u64 z).toArray
def putCells (cs : Array Value) : Obj → Obj
  | .cells _ t frozen => .cells cs t frozen
  | o => o
set_option maxRecDepth 100000 in
/-- four cells that came in are a number -/
theorem open_wide_cells {H : Type} {enc : TypeId × Value → H} {W : World} {base : Nat} {sp : Nat → Bool} {held : Bool} {fuel : Nat} {cs : List Value} {x : DataW H × List MemPlace}
    (hf : DataW.trod enc Tryd.prog W base sp held fuel 24 cs = some x) : ∃ n, n < M256 ∧ cs = (wcells n).toList := by
  have hu : Tryd.prog.underlying 24 = some (.array 4 22) := Tryd.underlying24
  have he : Tryd.prog.underlying 22 = some (.int .u64) := Tryd.underlying22
  cases fuel with
  | zero => simp [DataW.trod] at hf
  | succ m =>
    rw [DataW.trod_step] at hf
    unfold DataW.trodStep at hf
    simp only [hu] at hf
    split at hf
    · rename_i hlen
      rw [cellsWide] at hlen
      simp only [Option.map_eq_some_iff] at hf
      obtain ⟨ys, hy, -⟩ := hf
      have each : ∀ i, i < 4 → ∃ z : Int, cs[i]? = some (.int .u64 z) ∧ (Lit.int .u64 z).wf = true := fun i hi => by
        obtain ⟨y, hyi⟩ := mapM_eachW _ _ _ hy i (List.mem_range.2 hi)
        obtain ⟨z, hz, -, wz⟩ := DataW.trod_int he hyi
        rw [cellsU64, Nat.mul_one] at hz
        refine ⟨z, ?_, wz⟩
        have hlt : i < cs.length := by omega
        have h2 := congrArg (·[0]?) hz
        simpa [List.getElem?_take, List.getElem?_drop] using h2
      obtain ⟨z0, c0, w0⟩ := each 0 (by decide)
      obtain ⟨z1, c1, w1⟩ := each 1 (by decide)
      obtain ⟨z2, c2, w2⟩ := each 2 (by decide)
      obtain ⟨z3, c3, w3⟩ := each 3 (by decide)
      have b0 := bounds_u64 w0; have b1 := bounds_u64 w1; have b2 := bounds_u64 w2; have b3 := bounds_u64 w3
      obtain ⟨n, hn, e0, e1, e2, e3⟩ := limbs_num z0.toNat z1.toNat z2.toNat z3.toNat (by omega) (by omega) (by omega) (by omega)
      refine ⟨n, hn, ?_⟩
      rw [wcells_lit, e0, e1, e2, e3]
      apply List.ext_getElem?
      intro i
      match i with
      | 0 => rw [c0]; simp; omega
      | 1 => rw [c1]; simp; omega
      | 2 => rw [c2]; simp; omega
      | 3 => rw [c3]; simp; omega
      | i + 4 => rw [List.getElem?_eq_none (by omega), List.getElem?_eq_none (by simp)]
    · cases hf
set_option maxRecDepth 100000 in
/-- a row of two numbers that came in -/
theorem open_wide2 {H : Type} {enc : TypeId × Value → H} {W : World} {base : Nat} {sp : Nat → Bool} {held : Bool} {r : Reach} {b0 : Nat} {v : Value} {d : DataW H} {ps : List MemPlace}
    (hv : Value.okWide Tryd.prog W r b0 53 v) (hd : DataW.Trod enc Tryd.prog W base sp held 53 v d ps) : ∃ m n, m < M256 ∧ n < M256 ∧ v = .agg (wcells2 m n) := by
  have hu : Tryd.prog.underlying 53 = some (.array 2 24) := Tryd.underlying53
  have hc2 : Tryd.prog.cellsOf 53 = 8 := by kernel_rfl
  simp only [Value.okWide, hu] at hv
  obtain ⟨cs, rfl, h2, _⟩ := hv
  rw [hc2] at h2
  obtain ⟨fuel, hf⟩ := hd
  cases fuel with
  | zero => simp [DataW.trod] at hf
  | succ k =>
    rw [DataW.trod_step] at hf
    unfold DataW.trodStep at hf
    simp only [hu, Value.cells] at hf
    rw [if_pos (by rw [hc2]; simpa using h2)] at hf
    simp only [Option.map_eq_some_iff] at hf
    obtain ⟨ys, hy, -⟩ := hf
    obtain ⟨y0, hy0⟩ := mapM_eachW _ _ _ hy 0 (by simp)
    obtain ⟨y1, hy1⟩ := mapM_eachW _ _ _ hy 1 (by simp)
    rw [cellsWide] at hy0 hy1
    obtain ⟨m, hm, e0⟩ := open_wide_cells hy0
    obtain ⟨n, hn, e1⟩ := open_wide_cells hy1
    refine ⟨m, n, hm, hn, ?_⟩
    congr 1
    apply Array.toList_inj.1
    unfold wcells2
    rw [Array.toList_append, ← e0, ← e1]
    have hl : cs.toList.length = 8 := by simpa using h2
    simp only [Nat.zero_mul, List.drop_zero, Nat.one_mul]
    rw [List.take_of_length_le (l := List.drop 4 cs.toList) (by simp; omega)]
    exact (List.take_append_drop 4 cs.toList).symm
end Go.Proofs.YtfgffjmpjoipeaaDoor
