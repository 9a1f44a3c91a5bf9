/-
  Joined: LawFrame10, LawFrame11.
-/
import Derived.Test.YtmfjgehlkbndjaaDoorLawFrame
import Derived.Test.YtmfjgehlkbndjaaDoorLawOpen
import Derived.Test.YtmfjgehlkbndjaaDoorLawStruct
import Derived.Test.YtmfjgehlkbndjaaDoorTxCells
import Derived.Test.YtmfjgehlkbndjaaDoorBkA
/-
  Transactions that came in, and two slices of bytes as an array.
-/
namespace Go.Proofs.YtmfjgehlkbndjaaDoor
open Go.ChangeShapes Go.WideShapes Go.ChangeAt Go.RowKit Go

theorem cellsHash10 : Tryd.prog.cellsOf 25 = 32 := by kernel_rfl
theorem cellsByte10 : Tryd.prog.cellsOf 5 = 1 := by kernel_rfl
section
variable {H : Type} {enc : TypeId × Value → H} {W : World} {base : Nat} {sp : Nat → Bool} {held : Bool}
end
end Go.Proofs.YtmfjgehlkbndjaaDoor

/-
  Hashes, a head, a block that came in.
-/
namespace Go.Proofs.YtmfjgehlkbndjaaDoor
open Go.ChangeShapes Go.WideShapes Go.ChangeAt Go.RowKit Go

section
variable {H : Type} {enc : TypeId × Value → H} {W : World} {base : Nat} {sp : Nat → Bool} {held : Bool}
set_option maxRecDepth 100000 in
/-- rows that came in -/
theorem open_rows11 {α : Type} {fuel n : Nat} {T E : TypeId} {R : α → List Value} {ok : α → Prop} {v : List Value} {x : DataW H × List MemPlace} (d : α) (hlen : ∀ z, (R z).length = n) (hu : Tryd.prog.underlying T = some (.slice E)) (hc : Tryd.prog.cellsOf E = n)
    (hopen : ∀ (m : Nat) (cs : List Value) (y : DataW H × List MemPlace), DataW.trod enc Tryd.prog W base sp held m E cs = some y → ∃ q : α, ok q ∧ cs = R q)
    (h : DataW.trod enc Tryd.prog W base sp held fuel T v = some x) : ∃ (s : Value) (zs : List α), v = [s] ∧ IsRows n W s (zs.map R) ∧ ∀ z ∈ zs, ok z := by
  rcases DataW.trod_slice hu h with ⟨hcs, _⟩ | ⟨a, len, cap, elems, rest, m, _, hcs, _, hb, hl, hm, hlen', hel, _, _⟩
  · exact ⟨_, [], hcs, isRows_nil _ _, fun z hz => by cases hz⟩
  · have each : ∀ i, ∃ z : α, i < len → ok z ∧ ∀ (j : Nat) (u : Value), (R z)[j]? = some u → W.cell? ((a.add (i * n)).add j) = some u := fun i => by
      by_cases hi : i < len
      · have h1 := hel i hi
        rw [hc, List.getElem?_eq_getElem (by omega), Option.bind_eq_some_iff] at h1
        obtain ⟨cs', hc', hy⟩ := h1
        obtain ⟨q, h2, rfl⟩ := hopen _ _ _ hy
        refine ⟨q, fun _ => ⟨h2, fun j x hx => ?_⟩⟩
        have hj : j < n := by have := (List.getElem?_eq_some_iff.1 hx).1; rw [hlen] at this; exact this
        have := (World.cells?_some hc').2.2 j hj
        rw [this]; exact hx
      · exact ⟨d, fun h => absurd h hi⟩
    obtain ⟨f, hf⟩ := Classical.axiomOfChoice each
    refine ⟨_, (List.range len).map f, hcs, ⟨⟨some a, cap, by simp, by simpa using hl, (fun h => by cases h), fun k r hr => ⟨a, rfl, ?_⟩⟩, fun r hr => ?_⟩, fun z hz => ?_⟩
    · rw [List.map_map, List.getElem?_map] at hr
      by_cases hk : k < len
      · rw [List.getElem?_range hk] at hr
        simp only [Option.map_some, Option.some.injEq, Function.comp] at hr
        subst hr
        exact (hf k hk).2
      · rw [List.getElem?_eq_none (by simp; omega)] at hr; cases hr
    · obtain ⟨z, -, rfl⟩ := List.mem_map.1 hr
      exact hlen z
    · obtain ⟨k, hk, rfl⟩ := List.mem_map.1 hz
      exact (hf k (List.mem_range.1 hk)).1
set_option maxRecDepth 100000 in
theorem open_hashCells {fuel : Nat} {cs : List Value} {x : DataW H × List MemPlace} (h : DataW.trod enc Tryd.prog W base sp held fuel 25 cs = some x) : ∃ l : List UInt8, l.length = 32 ∧ cs = hashR l := by
  obtain ⟨l, hl, c0⟩ := trod_bytes Tryd.underlying25 Tryd.underlying5 cellsByte10 cellsHash10 h
  exact ⟨l, hl, by unfold hashR; rw [list_at32 hl]; exact c0⟩
set_option maxRecDepth 100000 in
theorem open_hashes {r : Reach} {b0 : Nat} {v : Value} {d : DataW H} {ps : List MemPlace}
    (hv : Value.okWide Tryd.prog W r b0 22 v) (hd : DataW.Trod enc Tryd.prog W base sp held 22 v d ps) : ∃ l : List (List UInt8), HashesOf W v l ∧ ∀ x ∈ l, x.length = 32 := by
  obtain ⟨ao, len, cap, rfl⟩ := okWide_slice Tryd.underlying22 hv
  obtain ⟨fuel, hf⟩ := hd
  simp only [Value.cells] at hf
  obtain ⟨s, zs, e, h1, h2⟩ := open_rows11 (ok := fun l : List UInt8 => l.length = 32) (R := hashR) [] hashR_len Tryd.underlying22 cellsHash10 (fun m cs y h => open_hashCells h) hf
  cases e; exact ⟨zs, h1, h2⟩
end
end Go.Proofs.YtmfjgehlkbndjaaDoor
