/-
  Joined: LawFrame10, LawFrame11.
-/
import Derived.Test.YtdeggdmoijfhdaaDoorLawFrame
import Derived.Test.YtdeggdmoijfhdaaDoorLawOpen
import Derived.Test.YtdeggdmoijfhdaaDoorLawStruct
import Derived.Test.YtdeggdmoijfhdaaDoorTxCells
import Derived.Test.YtdeggdmoijfhdaaDoorBkA
/-
  Transactions that came in, and two slices of bytes as an array.
-/
namespace Go.Proofs.YtdeggdmoijfhdaaDoor
open Go.ChangeShapes Go.WideShapes Go.ChangeAt Go.RowKit Go

theorem cellsHash10 : Tryd.prog.cellsOf 24 = 32 := by kernel_rfl
theorem cellsU3210 : Tryd.prog.cellsOf 22 = 1 := by kernel_rfl
theorem cellsI6410 : Tryd.prog.cellsOf 2 = 1 := by kernel_rfl
theorem cellsBytes10 : Tryd.prog.cellsOf 57 = 1 := by kernel_rfl
theorem cellsByte10 : Tryd.prog.cellsOf 5 = 1 := by kernel_rfl
/-- a struct's cells, field by field -/
theorem trod_fields {H : Type} {enc : TypeId × Value → H} {P : Program} {W : World} {base : Nat} {sp : Nat → Bool} {held : Bool} {fuel : Nat} {T : TypeId} {n : Nat} {ls : List (TypeId × Nat × Bool)} {cs : List Value} {x : DataW H × List MemPlace}
    (hu : P.underlying T = some (.struct (P.fieldsOf T))) (hsize : P.cellsOf T = n) (hL : (P.fieldsOf T).toList.map (fun f => (f.type, f.offset, decide (f.name = "_"))) = ls)
    (hf : DataW.trod enc P W base sp held fuel T cs = some x) : cs.length = n ∧ ∀ (i : Nat) (t : TypeId) (o : Nat) (b : Bool), ls[i]? = some (t, o, b) → ∃ (m : Nat) (y : DataW H × List MemPlace), DataW.trod enc P W base sp held m t ((cs.drop o).take (P.cellsOf t)) = some y := by
  cases fuel with
  | zero => simp [DataW.trod] at hf
  | succ m =>
    rw [DataW.trod_step] at hf
    unfold DataW.trodStep at hf
    simp only [hu] at hf
    split at hf
    · rename_i hlen
      rw [hsize] at hlen
      simp only [Option.map_eq_some_iff] at hf
      obtain ⟨ys, hy, -⟩ := hf
      refine ⟨hlen, fun i t o b hi => ?_⟩
      subst hL
      rw [List.getElem?_map] at hi
      cases hfi : (P.fieldsOf T).toList[i]? with
      | none => rw [hfi] at hi; cases hi
      | some f =>
        rw [hfi] at hi
        cases hi
        obtain ⟨y, -, h⟩ := Lib.mapM_at hy i f hfi
        exact ⟨m, y, h⟩
    · cases hf
theorem take_one {cs : List Value} {o n : Nat} {v : Value} (_hl : cs.length = n) (h : (cs.drop o).take 1 = [v]) : cs[o]? = some v := by
  have := congrArg (fun l : List Value => l[0]?) h
  simpa using this
section
variable {H : Type} {enc : TypeId × Value → H} {W : World} {base : Nat} {sp : Nat → Bool} {held : Bool}
theorem open_bytesField {fuel : Nat} {v : List Value} {x : DataW H × List MemPlace} (hsp : ∀ b, sp b = true) (h : DataW.trod enc Tryd.prog W base sp held fuel 57 v = some x) : ∃ (u : Value) (l : List UInt8), v = [u] ∧ IsVals W u (l.map VB) := by
  rcases DataW.trod_slice Tryd.underlying57 h with ⟨e, _⟩ | ⟨a', l', c', _, _, _, _, e, _⟩
  · exact ⟨.slice none 0 0, [], e, isVals_nil W⟩
  · rw [e] at h
    obtain ⟨l, hl⟩ := open_bytes_cells Tryd.underlying57 Tryd.underlying5 cellsByte10 hsp h
    exact ⟨_, l, e, hl⟩
set_option maxRecDepth 100000 in
/-- rows that came in -/
theorem open_rows {α : Type} {fuel n : Nat} {T E : TypeId} {R : α × Value → List Value} {ok : α → Prop} {B : α → List UInt8} {v : List Value} {x : DataW H × List MemPlace} (d : α × Value) (hlen : ∀ z, (R z).length = n) (hu : Tryd.prog.underlying T = some (.slice E)) (hc : Tryd.prog.cellsOf E = n)
    (hopen : ∀ (m : Nat) (cs : List Value) (y : DataW H × List MemPlace), DataW.trod enc Tryd.prog W base sp held m E cs = some y → ∃ (q : α) (u : Value), ok q ∧ cs = R (q, u) ∧ IsVals W u ((B q).map VB))
    (h : DataW.trod enc Tryd.prog W base sp held fuel T v = some x) : ∃ (s : Value) (zs : List (α × Value)), v = [s] ∧ IsRows n W s (zs.map R) ∧ ∀ z ∈ zs, ok z.1 ∧ IsVals W z.2 ((B z.1).map VB) := by
  rcases DataW.trod_slice hu h with ⟨hcs, _⟩ | ⟨a, len, cap, elems, rest, m, _, hcs, _, hb, hl, hm, hlen', hel, _, _⟩
  · exact ⟨_, [], hcs, isRows_nil _ _, fun z hz => by cases hz⟩
  · have each : ∀ i, ∃ z : α × Value, i < len → (ok z.1 ∧ IsVals W z.2 ((B z.1).map VB)) ∧ ∀ (j : Nat) (u : Value), (R z)[j]? = some u → W.cell? ((a.add (i * n)).add j) = some u := fun i => by
      by_cases hi : i < len
      · have h1 := hel i hi
        rw [hc, List.getElem?_eq_getElem (by omega), Option.bind_eq_some_iff] at h1
        obtain ⟨cs', hc', hy⟩ := h1
        obtain ⟨q, u, h2, rfl, h3⟩ := hopen _ _ _ hy
        refine ⟨(q, u), fun _ => ⟨⟨h2, h3⟩, fun j x hx => ?_⟩⟩
        have hj : j < n := by have := (List.getElem?_eq_some_iff.1 hx).1; rw [hlen] at this; exact this
        have := (World.cells?_some hc').2.2 j hj
        rw [this]; exact hx
      · exact ⟨d, fun h => absurd h hi⟩
    obtain ⟨f, hf⟩ := Classical.axiomOfChoice each
    refine ⟨_, (List.range len).map f, hcs, ⟨⟨some a, cap, by simp, by simpa using hl, (fun h => by cases h), fun k r hr => ⟨a, rfl, ?_⟩⟩, fun r hr => ?_⟩, fun z hz => ?_⟩
    · rw [List.map_map, List.getElem?_map] at hr
      by_cases hk : k < len
      · rw [List.getElem?_range hk] at hr
        simp only [Option.map_some, Option.some.injEq, Function.comp] at hr
        subst hr
        exact (hf k hk).2
      · rw [List.getElem?_eq_none (by simp; omega)] at hr; cases hr
    · obtain ⟨z, -, rfl⟩ := List.mem_map.1 hr
      exact hlen z
    · obtain ⟨k, hk, rfl⟩ := List.mem_map.1 hz
      exact (hf k (List.mem_range.1 hk)).1
end
end Go.Proofs.YtdeggdmoijfhdaaDoor

/-
  Hashes, a head, a block that came in.
-/
namespace Go.Proofs.YtdeggdmoijfhdaaDoor
open Go.ChangeShapes Go.WideShapes Go.ChangeAt Go.RowKit Go

theorem cellsHead11 : Tryd.prog.cellsOf 26 = 68 := by kernel_rfl
theorem fields_Head11 : Tryd.prog.underlying 26 = some (.struct (Tryd.prog.fieldsOf 26)) := by kernel_rfl
theorem listed_Head11 : (Tryd.prog.fieldsOf 26).toList.map (fun f => (f.type, f.offset, decide (f.name = "_"))) = [(22, 0, false), (24, 1, false), (24, 33, false), (22, 65, false), (22, 66, false), (22, 67, false)] := by kernel_rfl
theorem drop_cut {α : Type} (cs : List α) (o n : Nat) : cs.drop o = (cs.drop o).take n ++ cs.drop (o + n) := by
  rw [← List.drop_drop]; exact (List.take_append_drop n _).symm
section
variable {H : Type} {enc : TypeId × Value → H} {W : World} {base : Nat} {sp : Nat → Bool} {held : Bool}
set_option maxRecDepth 100000 in
/-- rows that came in -/
theorem open_rows11 {α : Type} {fuel n : Nat} {T E : TypeId} {R : α → List Value} {ok : α → Prop} {v : List Value} {x : DataW H × List MemPlace} (d : α) (hlen : ∀ z, (R z).length = n) (hu : Tryd.prog.underlying T = some (.slice E)) (hc : Tryd.prog.cellsOf E = n)
    (hopen : ∀ (m : Nat) (cs : List Value) (y : DataW H × List MemPlace), DataW.trod enc Tryd.prog W base sp held m E cs = some y → ∃ q : α, ok q ∧ cs = R q)
    (h : DataW.trod enc Tryd.prog W base sp held fuel T v = some x) : ∃ (s : Value) (zs : List α), v = [s] ∧ IsRows n W s (zs.map R) ∧ ∀ z ∈ zs, ok z := by
  rcases DataW.trod_slice hu h with ⟨hcs, _⟩ | ⟨a, len, cap, elems, rest, m, _, hcs, _, hb, hl, hm, hlen', hel, _, _⟩
  · exact ⟨_, [], hcs, isRows_nil _ _, fun z hz => by cases hz⟩
  · have each : ∀ i, ∃ z : α, i < len → ok z ∧ ∀ (j : Nat) (u : Value), (R z)[j]? = some u → W.cell? ((a.add (i * n)).add j) = some u := fun i => by
      by_cases hi : i < len
      · have h1 := hel i hi
        rw [hc, List.getElem?_eq_getElem (by omega), Option.bind_eq_some_iff] at h1
        obtain ⟨cs', hc', hy⟩ := h1
        obtain ⟨q, h2, rfl⟩ := hopen _ _ _ hy
        refine ⟨q, fun _ => ⟨h2, fun j x hx => ?_⟩⟩
        have hj : j < n := by have := (List.getElem?_eq_some_iff.1 hx).1; rw [hlen] at this; exact this
        have := (World.cells?_some hc').2.2 j hj
        rw [this]; exact hx
      · exact ⟨d, fun h => absurd h hi⟩
    obtain ⟨f, hf⟩ := Classical.axiomOfChoice each
    refine ⟨_, (List.range len).map f, hcs, ⟨⟨some a, cap, by simp, by simpa using hl, (fun h => by cases h), fun k r hr => ⟨a, rfl, ?_⟩⟩, fun r hr => ?_⟩, fun z hz => ?_⟩
    · rw [List.map_map, List.getElem?_map] at hr
      by_cases hk : k < len
      · rw [List.getElem?_range hk] at hr
        simp only [Option.map_some, Option.some.injEq, Function.comp] at hr
        subst hr
        exact (hf k hk).2
      · rw [List.getElem?_eq_none (by simp; omega)] at hr; cases hr
    · obtain ⟨z, -, rfl⟩ := List.mem_map.1 hr
      exact hlen z
    · obtain ⟨k, hk, rfl⟩ := List.mem_map.1 hz
      exact (hf k (List.mem_range.1 hk)).1
set_option maxRecDepth 100000 in
theorem open_hashCells {fuel : Nat} {cs : List Value} {x : DataW H × List MemPlace} (h : DataW.trod enc Tryd.prog W base sp held fuel 24 cs = some x) : ∃ l : List UInt8, l.length = 32 ∧ cs = hashR l := by
  obtain ⟨l, hl, c0⟩ := trod_bytes Tryd.underlying24 Tryd.underlying5 cellsByte10 cellsHash10 h
  exact ⟨l, hl, by unfold hashR; rw [list_at32 hl]; exact c0⟩
set_option maxRecDepth 100000 in
theorem open_headCells {fuel : Nat} {cs : List Value} {x : DataW H × List MemPlace} (h : DataW.trod enc Tryd.prog W base sp held fuel 26 cs = some x) : ∃ q : HeadP, q.Is ∧ cs = headR q := by
  obtain ⟨hn, hf⟩ := trod_fields fields_Head11 cellsHead11 listed_Head11 h
  obtain ⟨m0, y0, t0⟩ := hf 0 _ _ _ rfl
  obtain ⟨m1, y1, t1⟩ := hf 1 _ _ _ rfl
  obtain ⟨m2, y2, t2⟩ := hf 2 _ _ _ rfl
  obtain ⟨m3, y3, t3⟩ := hf 3 _ _ _ rfl
  obtain ⟨m4, y4, t4⟩ := hf 4 _ _ _ rfl
  obtain ⟨m5, y5, t5⟩ := hf 5 _ _ _ rfl
  obtain ⟨z0, c0, -, w0⟩ := DataW.trod_int Tryd.underlying22 t0
  obtain ⟨l1, hl1, c1⟩ := trod_bytes Tryd.underlying24 Tryd.underlying5 cellsByte10 cellsHash10 t1
  obtain ⟨l2, hl2, c2⟩ := trod_bytes Tryd.underlying24 Tryd.underlying5 cellsByte10 cellsHash10 t2
  obtain ⟨z3, c3, -, w3⟩ := DataW.trod_int Tryd.underlying22 t3
  obtain ⟨z4, c4, -, w4⟩ := DataW.trod_int Tryd.underlying22 t4
  obtain ⟨z5, c5, -, w5⟩ := DataW.trod_int Tryd.underlying22 t5
  have b0 := bounds_u32 w0
  have b3 := bounds_u32 w3
  have b4 := bounds_u32 w4
  have b5 := bounds_u32 w5
  rw [cellsU3210] at c0 c3 c4 c5
  rw [cellsHash10] at c1 c2
  refine ⟨⟨z0.toNat, l1, l2, z3.toNat, z4.toNat, z5.toNat⟩, ⟨by show z0.toNat < _; omega, hl1, hl2, by show z3.toNat < _; omega, by show z4.toNat < _; omega, by show z5.toNat < _; omega⟩, ?_⟩
  have h5 : cs.drop 67 = (cs.drop 67).take 1 ++ cs.drop 68 := drop_cut cs 67 1
  rw [c5, List.drop_of_length_le (by omega : cs.length ≤ 68)] at h5
  have h4 : cs.drop 66 = (cs.drop 66).take 1 ++ cs.drop 67 := drop_cut cs 66 1
  rw [c4, h5] at h4
  have h3 : cs.drop 65 = (cs.drop 65).take 1 ++ cs.drop 66 := drop_cut cs 65 1
  rw [c3, h4] at h3
  have h2 : cs.drop 33 = (cs.drop 33).take 32 ++ cs.drop 65 := drop_cut cs 33 32
  rw [c2, h3] at h2
  have h1 : cs.drop 1 = (cs.drop 1).take 32 ++ cs.drop 33 := drop_cut cs 1 32
  rw [c1, h2] at h1
  have h0 : cs.drop 0 = (cs.drop 0).take 1 ++ cs.drop 1 := drop_cut cs 0 1
  rw [c0, h1, List.drop_zero] at h0
  rw [h0]
  unfold headR
  rw [list_at32 hl1, list_at32 hl2, show ((z0.toNat : Nat) : Int) = z0 by omega, show ((z3.toNat : Nat) : Int) = z3 by omega, show ((z4.toNat : Nat) : Int) = z4 by omega, show ((z5.toNat : Nat) : Int) = z5 by omega]
  rfl
set_option maxRecDepth 100000 in
theorem trod_agg {r : Reach} {b0 : Nat} {T : TypeId} {fs : Array Field} {v : Value} {d : DataW H} {ps : List MemPlace} (hu : Tryd.prog.underlying T = some (.struct fs)) (hv : Value.okWide Tryd.prog W r b0 T v) (hd : DataW.Trod enc Tryd.prog W base sp held T v d ps) : ∃ (cs : Array Value) (fuel : Nat) (x : DataW H × List MemPlace), v = .agg cs ∧ DataW.trod enc Tryd.prog W base sp held fuel T cs.toList = some x := by
  simp only [Value.okWide, hu] at hv
  obtain ⟨cs, rfl, _, _⟩ := hv
  obtain ⟨fuel, hf⟩ := hd
  exact ⟨cs, fuel, _, rfl, hf⟩
set_option maxRecDepth 100000 in
theorem open_head {r : Reach} {b0 : Nat} {v : Value} {d : DataW H} {ps : List MemPlace}
    (hv : Value.okWide Tryd.prog W r b0 26 v) (hd : DataW.Trod enc Tryd.prog W base sp held 26 v d ps) : ∃ q : HeadP, q.Is ∧ v = .agg (headC q) := by
  obtain ⟨cs, fuel, x, rfl, hf⟩ := trod_agg fields_Head11 hv hd
  obtain ⟨q, hq, e⟩ := open_headCells hf
  exact ⟨q, hq, by unfold headC; rw [← e]⟩
end
end Go.Proofs.YtdeggdmoijfhdaaDoor
