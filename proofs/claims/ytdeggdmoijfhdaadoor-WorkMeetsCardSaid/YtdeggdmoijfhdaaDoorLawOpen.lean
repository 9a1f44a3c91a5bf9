/-
  A slice of bytes that came in, as a list.
-/
import Derived.Test.YtdeggdmoijfhdaaDoorBytesKit
import Derived.OpenShut
import Derived.ChangeOld
import Derived.Deep.DeepHandedRow
import Derived.ShutString
import Derived.Below
namespace Go.Proofs.YtdeggdmoijfhdaaDoor
open Go.ChangeShapes Go.WideShapes Go.ChangeAt Go.RowKit Go

theorem open_bytes_cells {H : Type} {enc : TypeId × Value → H} {P : Program} {W : World} {base : Nat} {sp : Nat → Bool} {held : Bool} {fuel : Nat} {t e : TypeId} {ao : Option Addr} {len cap : Nat} {x : DataW H × List MemPlace}
    (hu : P.underlying t = some (.slice e)) (he : P.underlying e = some (.int .u8)) (hone : P.cellsOf e = 1) (hsp : ∀ b, sp b = true)
    (hf : DataW.trod enc P W base sp held fuel t [.slice ao len cap] = some x) : ∃ l : List UInt8, IsVals W (.slice ao len cap) (l.map VB) := by
  rcases open_ints hu he hone hf with ⟨hcs, _⟩ | ⟨a, len', cap', zs, hcs, _, hl, hm, hz, _, hcell, hwz⟩
  · simp at hcs
    obtain ⟨rfl, rfl, rfl⟩ := hcs
    exact ⟨[], isVals_nil W⟩
  · simp at hcs
    obtain ⟨rfl, rfl, rfl⟩ := hcs
    rw [hsp, if_pos rfl] at hz
    have hlen : ((zs.take len).map fun z => UInt8.ofNat z.toNat).length = len := by simp; omega
    refine ⟨(zs.take len).map fun z => UInt8.ofNat z.toNat, some a, cap, by rw [List.length_map, hlen], by rw [List.length_map, hlen]; exact hl, (fun h => by cases h), fun j u hu => ⟨a, rfl, ?_⟩⟩
    have hj : j < len := by have := (List.getElem?_eq_some_iff.1 hu).1; rw [List.length_map, hlen] at this; exact this
    have hjz : j < zs.length := by omega
    rw [hcell j hjz]
    simp [hj, hjz] at hu
    rw [← hu]
    have hb := bounds_u8 (hwz _ (List.getElem_mem hjz))
    simp [hjz, B]
    omega
theorem open_bytes {H : Type} {enc : TypeId × Value → H} {P : Program} {W : World} {base : Nat} {sp : Nat → Bool} {held : Bool} {r : Reach} {b0 : Nat} {t e : TypeId} {v : Value} {d : DataW H} {ps : List MemPlace}
    (hu : P.underlying t = some (.slice e)) (he : P.underlying e = some (.int .u8)) (hone : P.cellsOf e = 1) (hsp : ∀ b, sp b = true)
    (hv : Value.okWide P W r b0 t v) (hd : DataW.Trod enc P W base sp held t v d ps) : ∃ l : List UInt8, IsVals W v (l.map VB) := by
  obtain ⟨ao, len, cap, rfl⟩ := okWide_slice hu hv
  obtain ⟨fuel, hf⟩ := hd
  exact open_bytes_cells hu he hone hsp (by simpa [Value.cells] using hf)
/-- a slice of slices of bytes that came in -/
theorem open_byteses {H : Type} {enc : TypeId × Value → H} {P : Program} {W : World} {base : Nat} {sp : Nat → Bool} {held : Bool} {r : Reach} {b0 : Nat} {t s e : TypeId} {v : Value} {d : DataW H} {ps : List MemPlace}
    (ht : P.underlying t = some (.slice s)) (hs : P.underlying s = some (.slice e)) (he : P.underlying e = some (.int .u8)) (hone : P.cellsOf e = 1) (hone' : P.cellsOf s = 1) (hsp : ∀ b, sp b = true)
    (hv : Value.okWide P W r b0 t v) (hd : DataW.Trod enc P W base sp held t v d ps) : ∃ Ls : List (List UInt8), AreLists W v Ls := by
  obtain ⟨ao, len, cap, rfl⟩ := okWide_slice ht hv
  obtain ⟨fuel, hf⟩ := hd
  simp only [Value.cells] at hf
  rcases DataW.trod_slice ht hf with ⟨hcs, _⟩ | ⟨a, len', cap', elems, rest, n, _, hcs, _, hb, hl, hm, hlen, hel, _, _⟩
  · simp at hcs
    obtain ⟨rfl, rfl, rfl⟩ := hcs
    exact ⟨[], areLists_nil W⟩
  · simp at hcs
    obtain ⟨rfl, rfl, rfl⟩ := hcs
    have each : ∀ i, ∃ p : Value × List UInt8, i < len → W.cell? (a.add i) = some p.1 ∧ IsVals W p.1 (p.2.map VB) := fun i => by
      by_cases hi : i < len
      · have h1 := hel i hi
        rw [hone', Nat.mul_one, List.getElem?_eq_getElem (by omega), Option.bind_eq_some_iff] at h1
        obtain ⟨cs', hc', hy⟩ := h1
        rcases DataW.trod_slice hs hy with ⟨rfl, _⟩ | ⟨a', l', c', _, _, _, _, rfl, _⟩
        · exact ⟨(.slice none 0 0, []), fun _ => ⟨cell_of_cells?_one hc', isVals_nil W⟩⟩
        · obtain ⟨l, hll⟩ := open_bytes_cells hs he hone hsp hy
          exact ⟨(.slice (some a') l' c', l), fun _ => ⟨cell_of_cells?_one hc', hll⟩⟩
      · exact ⟨(undef, []), fun h => absurd h hi⟩
    obtain ⟨f, hf⟩ := Classical.axiomOfChoice each
    have hlv : ((List.range len).map fun i => (f i).1).length = len := by simp
    refine ⟨(List.range len).map fun i => (f i).2, (List.range len).map fun i => (f i).1, by simp, ⟨some a, cap, by rw [hlv], by rw [hlv]; exact hl, (fun h => by cases h), fun j u hu => ⟨a, rfl, ?_⟩⟩, fun i x L hx hL => ?_⟩
    · have hj : j < len := by have := (List.getElem?_eq_some_iff.1 hu).1; rw [hlv] at this; exact this
      simp [hj] at hu
      rw [← hu]; exact (hf j hj).1
    · have hi : i < len := by have := (List.getElem?_eq_some_iff.1 hx).1; rw [hlv] at this; exact this
      simp [hi] at hx hL
      rw [← hx, ← hL]; exact (hf i hi).2
end Go.Proofs.YtdeggdmoijfhdaaDoor
