/-
  Steps that came in, as a list.
-/
import Derived.Test.YtalcopfhofijlaaLawOpen
import Derived.Test.YtalcopfhofijlaaPcLaw5
import Derived.Lib.LaidTab
import Derived.WideKeyArr2
namespace Go.Proofs.Ytalcopfhofijlaa
open Go.ChangeShapes Go.WideShapes Go.ChangeAt Go.RowKit Go

theorem cellsStep : Try.prog.cellsOf 45 = 3 := by kernel_rfl
theorem cellsIntP : Try.prog.cellsOf 3 = 1 := by kernel_rfl
theorem cellsU64P : Try.prog.cellsOf 26 = 1 := by kernel_rfl
theorem stepFields : ∃ f0 f1 f2, Try.prog.underlying 45 = some (.struct #[f0, f1, f2]) ∧ (f0.type = 3 ∧ f0.offset = 0) ∧ (f1.type = 3 ∧ f1.offset = 1) ∧ (f2.type = 26 ∧ f2.offset = 2) := ⟨_, _, _, Try.underlying45, ⟨rfl, rfl⟩, ⟨rfl, rfl⟩, rfl, rfl⟩
/-- one step -/
theorem open_step {H : Type} {enc : TypeId × Value → H} {W : World} {base : Nat} {sp : Nat → Bool} {held : Bool} {fuel : Nat} {cs : List Value} {x : DataW H × List MemPlace} (h : DataW.trod enc Try.prog W base sp held fuel 45 cs = some x) : ∃ s : Int × Int × Nat, cs = stepC s ∧ s.2.1 < 9223372036854775808 := by
  obtain ⟨f0, f1, f2, hu, ⟨t0, o0⟩, ⟨t1, o1⟩, t2, o2⟩ := stepFields
  obtain ⟨xs, n, _, _, hlen, hxl, hf⟩ := DataW.trod_struct hu h
  rw [cellsStep] at hlen
  have hxl' : xs.length = 3 := hxl
  have g0 := hf 0 f0 rfl
  have g1 := hf 1 f1 rfl
  have g2 := hf 2 f2 rfl
  rw [t0, o0, cellsIntP, List.getElem?_eq_getElem (by omega)] at g0
  rw [t1, o1, cellsIntP, List.getElem?_eq_getElem (by omega)] at g1
  rw [t2, o2, cellsU64P, List.getElem?_eq_getElem (by omega)] at g2
  obtain ⟨a, ha, _, wa⟩ := DataW.trod_int Try.underlying3 g0
  obtain ⟨b, hb, _, wb⟩ := DataW.trod_int Try.underlying3 g1
  obtain ⟨c, hc, _, wc⟩ := DataW.trod_int Try.underlying26 g2
  have hb2 := bounds_i64 wb
  have hc2 := bounds_u64 wc
  match cs, hlen with
  | [u0, u1, u2], _ =>
    simp at ha hb hc
    refine ⟨(a, b, c.toNat), ?_, by dsimp only; omega⟩
    rw [ha, hb, hc]
    show _ = [Value.int .i64 a, Value.int .i64 b, Value.int .u64 ((c.toNat : Nat) : Int)]
    rw [Int.toNat_of_nonneg hc2.1]
/-- a slice of steps that came in -/
theorem open_steps {H : Type} {enc : TypeId × Value → H} {W : World} {base : Nat} {sp : Nat → Bool} {held : Bool} {r : Reach} {b0 : Nat} {v : Value} {d : DataW H} {ps : List MemPlace}
    (hv : Value.okWide Try.prog W r b0 40 v) (hd : DataW.Trod enc Try.prog W base sp held 40 v d ps) : ∃ Ss : List (Int × Int × Nat), AreSteps W v Ss ∧ ∀ s ∈ Ss, s.2.1 < 9223372036854775808 := by
  obtain ⟨ao, len, cap, rfl⟩ := okWide_slice Try.underlying40 hv
  obtain ⟨fuel, hf⟩ := hd
  simp only [Value.cells] at hf
  rcases DataW.trod_slice Try.underlying40 hf with ⟨hcs, _⟩ | ⟨a, len', cap', elems, rest, n, _, hcs, _, hb, hl, hm, hlen, hel, _, _⟩
  · simp at hcs
    obtain ⟨rfl, rfl, rfl⟩ := hcs
    exact ⟨[], ⟨none, 0, rfl, fun k s h => by simp at h⟩, fun s h => by simp at h⟩
  · simp at hcs
    obtain ⟨rfl, rfl, rfl⟩ := hcs
    have each : ∀ i, ∃ s : Int × Int × Nat, i < len → (∀ (j : Nat) (u : Value), (stepC s)[j]? = some u → W.cell? ((a.add (i * 3)).add j) = some u) ∧ s.2.1 < 9223372036854775808 := fun i => by
      by_cases hi : i < len
      · have h1 := hel i hi
        rw [cellsStep, List.getElem?_eq_getElem (by omega), Option.bind_eq_some_iff] at h1
        obtain ⟨cs', hc', hy⟩ := h1
        obtain ⟨s, rfl, hs⟩ := open_step hy
        refine ⟨s, fun _ => ⟨fun j u hu => ?_, hs⟩⟩
        have hj : j < 3 := by have := (List.getElem?_eq_some_iff.1 hu).1; simpa [stepC] using this
        have := (World.cells?_some hc').2.2 j hj
        rw [this]; exact hu
      · exact ⟨(0, 0, 0), fun h => absurd h hi⟩
    obtain ⟨f, hf⟩ := Classical.axiomOfChoice each
    refine ⟨(List.range len).map f, ⟨some a, cap, by simp, fun k s hs => ⟨a, rfl, ?_⟩⟩, fun s hs => ?_⟩
    · have hk : k < len := by have := (List.getElem?_eq_some_iff.1 hs).1; simpa using this
      simp [hk] at hs
      rw [← hs]; exact (hf k hk).1
    · simp at hs
      obtain ⟨k, hk, rfl⟩ := hs
      exact (hf k hk).2
end Go.Proofs.Ytalcopfhofijlaa
