/-
  A slice of bytes that came in, as a list.
-/
import Derived.Test.YtmfjgehlkbndjaaGreatDoorBytesKit
import Derived.OpenShut
import Derived.ChangeOld
import Derived.Deep.DeepHandedRow
import Derived.ShutString
import Derived.Below
namespace Go.Proofs.YtmfjgehlkbndjaaGreatDoor
open Go.ChangeShapes Go.WideShapes Go.ChangeAt Go.RowKit Go

theorem open_bytes_cells {H : Type} {enc : TypeId × Value → H} {P : Program} {W : World} {base : Nat} {sp : Nat → Bool} {held : Bool} {fuel : Nat} {t e : TypeId} {ao : Option Addr} {len cap : Nat} {x : DataW H × List MemPlace}
    (hu : P.underlying t = some (.slice e)) (he : P.underlying e = some (.int .u8)) (hone : P.cellsOf e = 1) (hsp : ∀ b, sp b = true)
    (hf : DataW.trod enc P W base sp held fuel t [.slice ao len cap] = some x) : ∃ l : List UInt8, IsVals W (.slice ao len cap) (l.map VB) := by
  rcases open_ints hu he hone hf with ⟨hcs, _⟩ | ⟨a, len', cap', zs, hcs, _, hl, hm, hz, _, hcell, hwz⟩
  · simp at hcs
    obtain ⟨rfl, rfl, rfl⟩ := hcs
    exact ⟨[], isVals_nil W⟩
  · simp at hcs
    obtain ⟨rfl, rfl, rfl⟩ := hcs
    rw [hsp, if_pos rfl] at hz
    have hlen : ((zs.take len).map fun z => UInt8.ofNat z.toNat).length = len := by simp; omega
    refine ⟨(zs.take len).map fun z => UInt8.ofNat z.toNat, some a, cap, by rw [List.length_map, hlen], by rw [List.length_map, hlen]; exact hl, (fun h => by cases h), fun j u hu => ⟨a, rfl, ?_⟩⟩
    have hj : j < len := by have := (List.getElem?_eq_some_iff.1 hu).1; rw [List.length_map, hlen] at this; exact this
    have hjz : j < zs.length := by omega
    rw [hcell j hjz]
    simp [hj, hjz] at hu
    rw [← hu]
    have hb := bounds_u8 (hwz _ (List.getElem_mem hjz))
    simp [hjz, B]
    omega
theorem open_bytes {H : Type} {enc : TypeId × Value → H} {P : Program} {W : World} {base : Nat} {sp : Nat → Bool} {held : Bool} {r : Reach} {b0 : Nat} {t e : TypeId} {v : Value} {d : DataW H} {ps : List MemPlace}
    (hu : P.underlying t = some (.slice e)) (he : P.underlying e = some (.int .u8)) (hone : P.cellsOf e = 1) (hsp : ∀ b, sp b = true)
    (hv : Value.okWide P W r b0 t v) (hd : DataW.Trod enc P W base sp held t v d ps) : ∃ l : List UInt8, IsVals W v (l.map VB) := by
  obtain ⟨ao, len, cap, rfl⟩ := okWide_slice hu hv
  obtain ⟨fuel, hf⟩ := hd
  exact open_bytes_cells hu he hone hsp (by simpa [Value.cells] using hf)
end Go.Proofs.YtmfjgehlkbndjaaGreatDoor
