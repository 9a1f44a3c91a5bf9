/-
  Transactions that came in, and two slices of bytes as an array.
-/
import Derived.Test.YtaoaecbdjdcpdaaDoorLawFrame
import Derived.Test.YtaoaecbdjdcpdaaDoorLawOpen
import Derived.Test.YtaoaecbdjdcpdaaDoorLawStruct
import Derived.Test.YtaoaecbdjdcpdaaDoorTxCells
namespace Go.Proofs.YtaoaecbdjdcpdaaDoor
open Go.ChangeShapes Go.WideShapes Go.ChangeAt Go.RowKit Go

theorem cellsIn10 : Tryd.prog.cellsOf 34 = 35 := by kernel_rfl
theorem cellsOut10 : Tryd.prog.cellsOf 36 = 2 := by kernel_rfl
theorem cellsRef10 : Tryd.prog.cellsOf 32 = 33 := by kernel_rfl
theorem cellsHash10 : Tryd.prog.cellsOf 30 = 32 := by kernel_rfl
theorem cellsU3210 : Tryd.prog.cellsOf 22 = 1 := by kernel_rfl
theorem cellsI6410 : Tryd.prog.cellsOf 2 = 1 := by kernel_rfl
theorem cellsBytes10 : Tryd.prog.cellsOf 28 = 1 := by kernel_rfl
theorem cellsByte10 : Tryd.prog.cellsOf 5 = 1 := by kernel_rfl
theorem cellsIns10 : Tryd.prog.cellsOf 23 = 1 := by kernel_rfl
theorem cellsOuts10 : Tryd.prog.cellsOf 24 = 1 := by kernel_rfl
theorem cellsTx10 : Tryd.prog.cellsOf 26 = 4 := by kernel_rfl
theorem cellsLocks10 : Tryd.prog.cellsOf 61 = 2 := by kernel_rfl
theorem fields_In : Tryd.prog.underlying 34 = some (.struct (Tryd.prog.fieldsOf 34)) := by kernel_rfl
theorem fields_Out : Tryd.prog.underlying 36 = some (.struct (Tryd.prog.fieldsOf 36)) := by kernel_rfl
theorem fields_Tx : Tryd.prog.underlying 26 = some (.struct (Tryd.prog.fieldsOf 26)) := by kernel_rfl
theorem fields_Ref10 : Tryd.prog.underlying 32 = some (.struct (Tryd.prog.fieldsOf 32)) := by kernel_rfl
theorem listed_In : (Tryd.prog.fieldsOf 34).toList.map (fun f => (f.type, f.offset, decide (f.name = "_"))) = [(32, 0, false), (28, 33, false), (22, 34, false)] := by kernel_rfl
theorem listed_Out : (Tryd.prog.fieldsOf 36).toList.map (fun f => (f.type, f.offset, decide (f.name = "_"))) = [(2, 0, false), (28, 1, false)] := by kernel_rfl
theorem listed_Tx : (Tryd.prog.fieldsOf 26).toList.map (fun f => (f.type, f.offset, decide (f.name = "_"))) = [(22, 0, false), (23, 1, false), (24, 2, false), (22, 3, false)] := by kernel_rfl
theorem listed_Ref10 : (Tryd.prog.fieldsOf 32).toList.map (fun f => (f.type, f.offset, decide (f.name = "_"))) = [(30, 0, false), (22, 32, false)] := by kernel_rfl
/-- a struct's cells, field by field -/
theorem trod_fields {H : Type} {enc : TypeId × Value → H} {P : Program} {W : World} {base : Nat} {sp : Nat → Bool} {held : Bool} {fuel : Nat} {T : TypeId} {n : Nat} {ls : List (TypeId × Nat × Bool)} {cs : List Value} {x : DataW H × List MemPlace}
    (hu : P.underlying T = some (.struct (P.fieldsOf T))) (hsize : P.cellsOf T = n) (hL : (P.fieldsOf T).toList.map (fun f => (f.type, f.offset, decide (f.name = "_"))) = ls)
    (hf : DataW.trod enc P W base sp held fuel T cs = some x) : cs.length = n ∧ ∀ (i : Nat) (t : TypeId) (o : Nat) (b : Bool), ls[i]? = some (t, o, b) → ∃ (m : Nat) (y : DataW H × List MemPlace), DataW.trod enc P W base sp held m t ((cs.drop o).take (P.cellsOf t)) = some y := by
  cases fuel with
  | zero => simp [DataW.trod] at hf
  | succ m =>
    rw [DataW.trod_step] at hf
    unfold DataW.trodStep at hf
    simp only [hu] at hf
    split at hf
    · rename_i hlen
      rw [hsize] at hlen
      simp only [Option.map_eq_some_iff] at hf
      obtain ⟨ys, hy, -⟩ := hf
      refine ⟨hlen, fun i t o b hi => ?_⟩
      subst hL
      rw [List.getElem?_map] at hi
      cases hfi : (P.fieldsOf T).toList[i]? with
      | none => rw [hfi] at hi; cases hi
      | some f =>
        rw [hfi] at hi
        cases hi
        obtain ⟨y, -, h⟩ := Lib.mapM_at hy i f hfi
        exact ⟨m, y, h⟩
    · cases hf
theorem take_one {cs : List Value} {o n : Nat} {v : Value} (hl : cs.length = n) (h : (cs.drop o).take 1 = [v]) : cs[o]? = some v := by
  have := congrArg (fun l : List Value => l[0]?) h
  simpa using this
section
variable {H : Type} {enc : TypeId × Value → H} {W : World} {base : Nat} {sp : Nat → Bool} {held : Bool}
set_option maxRecDepth 100000 in
theorem open_refCells {fuel : Nat} {cs : List Value} {x : DataW H × List MemPlace} (h : DataW.trod enc Tryd.prog W base sp held fuel 32 cs = some x) : ∃ (l : List UInt8) (n : Nat), l.length = 32 ∧ n < 4294967296 ∧ cs = l.map VB ++ [Value.int .u32 (n : Int)] := by
  obtain ⟨hn, hf⟩ := trod_fields fields_Ref10 cellsRef10 listed_Ref10 h
  obtain ⟨m0, y0, t0⟩ := hf 0 _ _ _ rfl
  obtain ⟨m1, y1, t1⟩ := hf 1 _ _ _ rfl
  obtain ⟨l, hl, c0⟩ := trod_bytes Tryd.underlying30 Tryd.underlying5 cellsByte10 cellsHash10 t0
  obtain ⟨z, c1, -, wz⟩ := DataW.trod_int Tryd.underlying22 t1
  have hb := bounds_u32 wz
  rw [cellsHash10, List.drop_zero] at c0
  rw [cellsU3210] at c1
  refine ⟨l, z.toNat, hl, by omega, ?_⟩
  have e1 : cs.drop 32 = [.int .u32 z] := by
    have : (cs.drop 32).length = 1 := by rw [List.length_drop, hn]
    rw [← c1, List.take_of_length_le (by omega)]
  rw [show ((z.toNat : Nat) : Int) = z by omega, ← c0, ← e1, List.take_append_drop]
theorem open_bytesField {fuel : Nat} {v : List Value} {x : DataW H × List MemPlace} (hsp : ∀ b, sp b = true) (h : DataW.trod enc Tryd.prog W base sp held fuel 28 v = some x) : ∃ (u : Value) (l : List UInt8), v = [u] ∧ IsVals W u (l.map VB) := by
  rcases DataW.trod_slice Tryd.underlying28 h with ⟨e, _⟩ | ⟨a', l', c', _, _, _, _, e, _⟩
  · exact ⟨.slice none 0 0, [], e, isVals_nil W⟩
  · rw [e] at h
    obtain ⟨l, hl⟩ := open_bytes_cells Tryd.underlying28 Tryd.underlying5 cellsByte10 hsp h
    exact ⟨_, l, e, hl⟩
set_option maxRecDepth 100000 in
theorem open_inCells {fuel : Nat} {cs : List Value} {x : DataW H × List MemPlace} (hsp : ∀ b, sp b = true) (h : DataW.trod enc Tryd.prog W base sp held fuel 34 cs = some x) : ∃ (i : InP) (u : Value), i.Is ∧ cs = inR (i, u) ∧ IsVals W u (i.unlock.map VB) := by
  obtain ⟨hn, hf⟩ := trod_fields fields_In cellsIn10 listed_In h
  obtain ⟨m0, y0, t0⟩ := hf 0 _ _ _ rfl
  obtain ⟨m1, y1, t1⟩ := hf 1 _ _ _ rfl
  obtain ⟨m2, y2, t2⟩ := hf 2 _ _ _ rfl
  obtain ⟨l, n, hl, hnn, c0⟩ := open_refCells t0
  obtain ⟨u, k, c1, hu⟩ := open_bytesField hsp t1
  obtain ⟨z, c2, -, wz⟩ := DataW.trod_int Tryd.underlying22 t2
  have hb := bounds_u32 wz
  rw [cellsRef10, List.drop_zero] at c0
  rw [cellsBytes10] at c1
  rw [cellsU3210] at c2
  refine ⟨⟨l, n, k, z.toNat⟩, u, ⟨hl, hnn, by show z.toNat < _; omega⟩, ?_, hu⟩
  have e2 : cs.drop 34 = [.int .u32 z] := by
    have : (cs.drop 34).length = 1 := by rw [List.length_drop, hn]
    rw [← c2, List.take_of_length_le (by omega)]
  have e1 : cs.drop 33 = [u, .int .u32 z] := by
    have h1 : cs.drop 33 = (cs.drop 33).take 1 ++ (cs.drop 33).drop 1 := (List.take_append_drop 1 _).symm
    rw [c1, List.drop_drop, e2] at h1
    exact h1
  unfold inR
  rw [list_at32 hl, show ((z.toNat : Nat) : Int) = z by omega]
  have h0 : cs = cs.take 33 ++ cs.drop 33 := (List.take_append_drop 33 cs).symm
  rw [c0, e1] at h0
  rw [h0]; simp
set_option maxRecDepth 100000 in
theorem open_outCells10 {fuel : Nat} {cs : List Value} {x : DataW H × List MemPlace} (hsp : ∀ b, sp b = true) (h : DataW.trod enc Tryd.prog W base sp held fuel 36 cs = some x) : ∃ (q : Int × List UInt8) (u : Value), outOk q ∧ cs = outR (q, u) ∧ IsVals W u (q.2.map VB) := by
  obtain ⟨hn, hf⟩ := trod_fields fields_Out cellsOut10 listed_Out h
  obtain ⟨m0, y0, t0⟩ := hf 0 _ _ _ rfl
  obtain ⟨m1, y1, t1⟩ := hf 1 _ _ _ rfl
  obtain ⟨z, c0, -, wz⟩ := DataW.trod_int Tryd.underlying2 t0
  obtain ⟨u, k, c1, hu⟩ := open_bytesField hsp t1
  have hb := bounds_i64 wz
  rw [cellsI6410, List.drop_zero] at c0
  rw [cellsBytes10] at c1
  refine ⟨(z, k), u, ⟨by show -9223372036854775808 ≤ z; omega, by show z < _; omega⟩, ?_, hu⟩
  match cs, hn with
  | [v0, v1], _ =>
    simp at c0 c1
    rw [c0, c1]; rfl
set_option maxRecDepth 100000 in
/-- rows that came in -/
theorem open_rows {α : Type} {fuel n : Nat} {T E : TypeId} {R : α × Value → List Value} {ok : α → Prop} {B : α → List UInt8} {v : List Value} {x : DataW H × List MemPlace} (d : α × Value) (hlen : ∀ z, (R z).length = n) (hu : Tryd.prog.underlying T = some (.slice E)) (hc : Tryd.prog.cellsOf E = n)
    (hopen : ∀ (m : Nat) (cs : List Value) (y : DataW H × List MemPlace), DataW.trod enc Tryd.prog W base sp held m E cs = some y → ∃ (q : α) (u : Value), ok q ∧ cs = R (q, u) ∧ IsVals W u ((B q).map VB))
    (h : DataW.trod enc Tryd.prog W base sp held fuel T v = some x) : ∃ (s : Value) (zs : List (α × Value)), v = [s] ∧ IsRows n W s (zs.map R) ∧ ∀ z ∈ zs, ok z.1 ∧ IsVals W z.2 ((B z.1).map VB) := by
  rcases DataW.trod_slice hu h with ⟨hcs, _⟩ | ⟨a, len, cap, elems, rest, m, _, hcs, _, hb, hl, hm, hlen', hel, _, _⟩
  · exact ⟨_, [], hcs, isRows_nil _ _, fun z hz => by cases hz⟩
  · have each : ∀ i, ∃ z : α × Value, i < len → (ok z.1 ∧ IsVals W z.2 ((B z.1).map VB)) ∧ ∀ (j : Nat) (u : Value), (R z)[j]? = some u → W.cell? ((a.add (i * n)).add j) = some u := fun i => by
      by_cases hi : i < len
      · have h1 := hel i hi
        rw [hc, List.getElem?_eq_getElem (by omega), Option.bind_eq_some_iff] at h1
        obtain ⟨cs', hc', hy⟩ := h1
        obtain ⟨q, u, h2, rfl, h3⟩ := hopen _ _ _ hy
        refine ⟨(q, u), fun _ => ⟨⟨h2, h3⟩, fun j x hx => ?_⟩⟩
        have hj : j < n := by have := (List.getElem?_eq_some_iff.1 hx).1; rw [hlen] at this; exact this
        have := (World.cells?_some hc').2.2 j hj
        rw [this]; exact hx
      · exact ⟨d, fun h => absurd h hi⟩
    obtain ⟨f, hf⟩ := Classical.axiomOfChoice each
    refine ⟨_, (List.range len).map f, hcs, ⟨⟨some a, cap, by simp, by simpa using hl, (fun h => by cases h), fun k r hr => ⟨a, rfl, ?_⟩⟩, fun r hr => ?_⟩, fun z hz => ?_⟩
    · rw [List.map_map, List.getElem?_map] at hr
      by_cases hk : k < len
      · rw [List.getElem?_range hk] at hr
        simp only [Option.map_some, Option.some.injEq, Function.comp] at hr
        subst hr
        exact (hf k hk).2
      · rw [List.getElem?_eq_none (by simp; omega)] at hr; cases hr
    · obtain ⟨z, -, rfl⟩ := List.mem_map.1 hr
      exact hlen z
    · obtain ⟨k, hk, rfl⟩ := List.mem_map.1 hz
      exact (hf k (List.mem_range.1 hk)).1
set_option maxRecDepth 100000 in
theorem open_tx {r : Reach} {b0 : Nat} {v : Value} {d : DataW H} {ps : List MemPlace} (hsp : ∀ b, sp b = true)
    (hv : Value.okWide Tryd.prog W r b0 26 v) (hd : DataW.Trod enc Tryd.prog W base sp held 26 v d ps) : ∃ (t : TxP) (a b : Value), v = .agg (txC t.version a b t.end') ∧ t.Is ∧ InsOf W a t.ins ∧ OutsOf W b t.outs := by
  obtain ⟨cs, m, rfl, hn, hf⟩ := open_struct fields_Tx cellsTx10 listed_Tx hv hd
  obtain ⟨y0, t0⟩ := hf 0 _ _ _ rfl
  obtain ⟨y1, t1⟩ := hf 1 _ _ _ rfl
  obtain ⟨y2, t2⟩ := hf 2 _ _ _ rfl
  obtain ⟨y3, t3⟩ := hf 3 _ _ _ rfl
  obtain ⟨n, c0, -, w0⟩ := DataW.trod_int Tryd.underlying22 t0
  obtain ⟨e, c3, -, w3⟩ := DataW.trod_int Tryd.underlying22 t3
  obtain ⟨a, zi, c1, hri, hvi⟩ := open_rows (B := fun i : InP => i.unlock) (ok := InP.Is) (R := inR) (⟨[], 0, [], 0⟩, undef) inR_len Tryd.underlying23 cellsIn10 (fun m cs y h => open_inCells hsp h) t1
  obtain ⟨b, zo, c2, hro, hvo⟩ := open_rows (B := fun q : Int × List UInt8 => q.2) (ok := outOk) (R := outR) ((0, []), undef) outR_len Tryd.underlying24 cellsOut10 (fun m cs y h => open_outCells10 hsp h) t2
  have hb0 := bounds_u32 w0
  have hb3 := bounds_u32 w3
  rw [cellsU3210] at c0 c3
  rw [cellsIns10] at c1
  rw [cellsOuts10] at c2
  refine ⟨⟨n.toNat, zi.map Prod.fst, zo.map Prod.fst, e.toNat⟩, a, b, ?_, ⟨by show n.toNat < _; omega, by show e.toNat < _; omega, fun i hi => ?_, fun q hq => ?_⟩, ⟨zi, rfl, hri, fun z hz => (hvi z hz).2⟩, ⟨zo, rfl, hro, fun z hz => (hvo z hz).2⟩⟩
  · congr 1
    apply Array.toList_inj.1
    have hl : cs.toList.length = 4 := by simpa using hn
    match hcs : cs.toList, hl with
    | [v0, v1, v2, v3], _ =>
      rw [hcs] at c0 c1 c2 c3
      simp at c0 c1 c2 c3
      rw [c0, c1, c2, c3]
      show _ = [Value.int .u32 ((n.toNat : Nat) : Int), a, b, .int .u32 ((e.toNat : Nat) : Int)]
      rw [show ((n.toNat : Nat) : Int) = n by omega, show ((e.toNat : Nat) : Int) = e by omega]
  · obtain ⟨z, hz, rfl⟩ := List.mem_map.1 hi
    exact (hvi z hz).1
  · obtain ⟨z, hz, rfl⟩ := List.mem_map.1 hq
    exact (hvo z hz).1
set_option maxRecDepth 100000 in
theorem open_locks2 {r : Reach} {b0 : Nat} {v : Value} {d : DataW H} {ps : List MemPlace} (hsp : ∀ b, sp b = true)
    (hv : Value.okWide Tryd.prog W r b0 61 v) (hd : DataW.Trod enc Tryd.prog W base sp held 61 v d ps) : ∃ (u v' : Value) (l m : List UInt8), v = .agg #[u, v'] ∧ IsVals W u (l.map VB) ∧ IsVals W v' (m.map VB) := by
  have hu := Tryd.underlying61
  simp only [Value.okWide, hu] at hv
  obtain ⟨cs, rfl, h2, _⟩ := hv
  obtain ⟨fuel, hf⟩ := hd
  cases fuel with
  | zero => simp [DataW.trod] at hf
  | succ k =>
    rw [DataW.trod_step] at hf
    unfold DataW.trodStep at hf
    simp only [hu, Value.cells] at hf
    split at hf
    · rename_i hlen
      rw [cellsLocks10] at hlen
      simp only [Option.map_eq_some_iff] at hf
      obtain ⟨ys, hy, -⟩ := hf
      obtain ⟨y0, -, t0⟩ := Lib.mapM_at hy 0 0 rfl
      obtain ⟨y1, -, t1⟩ := Lib.mapM_at hy 1 1 rfl
      obtain ⟨u, l, c0, hu0⟩ := open_bytesField hsp t0
      obtain ⟨x, m, c1, hx0⟩ := open_bytesField hsp t1
      rw [cellsBytes10] at c0 c1
      refine ⟨u, x, l, m, ?_, hu0, hx0⟩
      congr 1
      apply Array.toList_inj.1
      match hcs : cs.toList, hlen with
      | [v0, v1], _ =>
        rw [hcs] at c0 c1
        simp at c0 c1
        rw [c0, c1]
    · cases hf
end
end Go.Proofs.YtaoaecbdjdcpdaaDoor
