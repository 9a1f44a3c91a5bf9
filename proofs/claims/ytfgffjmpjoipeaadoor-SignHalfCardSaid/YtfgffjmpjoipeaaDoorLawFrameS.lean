/-
  What the rows' list of variables gives the walks of layer 5 (both primes, the point that is nowhere, the base), a world for the witness, and signatures, hashes and pairs of numbers that came in.
-/
import Derived.Test.YtfgffjmpjoipeaaDoorLawFrameC
import Derived.Test.YtfgffjmpjoipeaaDoorSgCells
namespace Go.Proofs.YtfgffjmpjoipeaaDoor
open Go.ChangeShapes Go.WideShapes Go.ChangeAt Go.RowKit Go Cv

theorem globsS {W : World} (h : laidMetH Tryd.prog [("byname/field.primeP", Rows.laid_byname_field_primeP), ("byname/field.primeN", Rows.laid_byname_field_primeN), ("byname/curve.none", Rows.laid_byname_curve_none), ("byname/curve.base", Rows.laid_byname_curve_base)] W) : Glob 3 PP W ∧ Glob 1 NN W ∧ GlobP 2 0 0 true W ∧ GlobPt 0 gPt W :=
  ⟨globP h, globN (laidMet_tail h), globPoint gNone gNoneType limbs_0 limbs_0 (laidMet_tail (laidMet_tail h)), globPt_g (globPoint gBase gBaseType limbs_gX limbs_gY (laidMet_tail (laidMet_tail (laidMet_tail h))))⟩
noncomputable def laidWorldS (os : Os) : World :=
  { World.holding Tryd.prog os ⟨#[], #[], []⟩ with heap := ((((World.holding Tryd.prog os ⟨#[], #[], []⟩).heap.modify 3 (putCells pCells)).modify 1 (putCells nCells)).modify 2 (putCells noneCells)).modify 0 (putCells baseCells) }
theorem cellsSig : Tryd.prog.cellsOf 35 = 8 := by kernel_rfl
set_option maxRecDepth 100000 in
/-- a hash that came in -/
theorem open_hash {H : Type} {enc : TypeId × Value → H} {W : World} {base : Nat} {sp : Nat → Bool} {held : Bool} {r : Reach} {b0 : Nat} {v : Value} {d : DataW H} {ps : List MemPlace}
    (hv : Value.okWide Tryd.prog W r b0 40 v) (hd : DataW.Trod enc Tryd.prog W base sp held 40 v d ps) : ∃ f : Nat → Nat, (∀ i, f i < 256) ∧ v = .agg (bcells f) :=
  open_b32 Tryd.underlying40 (by kernel_rfl) Tryd.underlying5 hv hd
set_option maxRecDepth 100000 in
/-- a signature that came in -/
theorem open_sig {H : Type} {enc : TypeId × Value → H} {W : World} {base : Nat} {sp : Nat → Bool} {held : Bool} {r : Reach} {b0 : Nat} {v : Value} {d : DataW H} {ps : List MemPlace}
    (hv : Value.okWide Tryd.prog W r b0 35 v) (hd : DataW.Trod enc Tryd.prog W base sp held 35 v d ps) : ∃ x y, x < M256 ∧ y < M256 ∧ v = .agg (wcells2 x y) := by
  simp only [Value.okWide, fields_Sig] at hv
  obtain ⟨cs, rfl, h2, _⟩ := hv
  obtain ⟨fuel, hf⟩ := hd
  have hu := fields_Sig
  cases fuel with
  | zero => simp [DataW.trod] at hf
  | succ m =>
    rw [DataW.trod_step] at hf
    unfold DataW.trodStep at hf
    simp only [hu, Value.cells] at hf
    rw [cellsSig] at h2
    rw [if_pos (by rw [cellsSig]; simpa using h2)] at hf
    simp only [Option.map_eq_some_iff] at hf
    obtain ⟨ys, hy, -⟩ := hf
    have hL := listed_Sig
    generalize (Tryd.prog.fieldsOf 35).toList = fs at hL hy
    rcases fs with _ | ⟨f0, _ | ⟨f1, _ | ⟨f2, fs⟩⟩⟩
    · simp at hL
    · simp at hL
    · simp only [List.map_cons, List.map_nil, List.cons.injEq, Prod.mk.injEq, and_true] at hL
      obtain ⟨⟨t0, o0, -⟩, ⟨t1, o1, -⟩⟩ := hL
      obtain ⟨y0, a0, f0'⟩ := Lib.mapM_at hy 0 f0 rfl
      obtain ⟨y1, a1, f1'⟩ := Lib.mapM_at hy 1 f1 rfl
      rw [t0, o0, cellsWide, List.drop_zero] at f0'
      rw [t1, o1, cellsWide] at f1'
      obtain ⟨x, hx, e0⟩ := open_wide_cells f0'
      obtain ⟨y, hy', e1⟩ := open_wide_cells f1'
      refine ⟨x, y, hx, hy', ?_⟩
      congr 1
      apply Array.toList_inj.1
      unfold wcells2
      rw [Array.toList_append, ← e0, ← e1]
      have hl : cs.toList.length = 8 := by simpa using h2
      rw [List.take_of_length_le (l := List.drop 4 cs.toList) (by simp; omega)]
      exact (List.take_append_drop 4 cs.toList).symm
    · simp at hL
set_option maxRecDepth 100000 in
/-- two numbers of 16 bits that came in -/
theorem open_pair16 {H : Type} {enc : TypeId × Value → H} {W : World} {base : Nat} {sp : Nat → Bool} {held : Bool} {r : Reach} {b0 : Nat} {v : Value} {d : DataW H} {ps : List MemPlace}
    (hv : Value.okWide Tryd.prog W r b0 58 v) (hd : DataW.Trod enc Tryd.prog W base sp held 58 v d ps) : ∃ (j k : Nat), j < 65536 ∧ k < 65536 ∧ v = .agg #[.int .u16 (j : Int), .int .u16 (k : Int)] := by
  obtain ⟨f, rfl, hw⟩ := open_intArr Tryd.underlying58 Tryd.underlying50 (by kernel_rfl) (by kernel_rfl) hv hd
  have hz : ∀ i, i < 2 → 0 ≤ f i ∧ f i < 65536 := fun i hi => bounds_u16 (hw i hi)
  have h0 := hz 0 (by decide)
  have h1 := hz 1 (by decide)
  refine ⟨(f 0).toNat, (f 1).toNat, by omega, by omega, ?_⟩
  have e0 : (((f 0).toNat : Nat) : Int) = f 0 := by omega
  have e1 : (((f 1).toNat : Nat) : Int) = f 1 := by omega
  rw [e0, e1]; rfl
set_option maxRecDepth 100000 in
/-- a number of 16 bits that came in -/
theorem open_u16 {H : Type} {enc : TypeId × Value → H} {W : World} {base : Nat} {sp : Nat → Bool} {held : Bool} {r : Reach} {b0 : Nat} {v : Value} {d : DataW H} {ps : List MemPlace}
    (hv : Value.okWide Tryd.prog W r b0 50 v) (hd : DataW.Trod enc Tryd.prog W base sp held 50 v d ps) : ∃ k : Nat, k < 65536 ∧ v = .int .u16 (k : Int) := by
  obtain ⟨z, rfl, -, -, wz⟩ := open_int Tryd.underlying50 hv hd
  have h0 := bounds_u16 wz
  refine ⟨z.toNat, by omega, ?_⟩
  have e0 : ((z.toNat : Nat) : Int) = z := by omega
  rw [e0]
set_option maxRecDepth 100000 in
/-- a whole number that came in -/
theorem open_i64 {H : Type} {enc : TypeId × Value → H} {W : World} {base : Nat} {sp : Nat → Bool} {held : Bool} {r : Reach} {b0 : Nat} {v : Value} {d : DataW H} {ps : List MemPlace}
    (hv : Value.okWide Tryd.prog W r b0 3 v) (hd : DataW.Trod enc Tryd.prog W base sp held 3 v d ps) : ∃ z : Int, v = .int .i64 z := by
  obtain ⟨z, rfl, -, -, -⟩ := open_int Tryd.underlying3 hv hd
  exact ⟨z, rfl⟩
end Go.Proofs.YtfgffjmpjoipeaaDoor
