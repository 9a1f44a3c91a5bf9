/-
  Outputs, coins and references that came in.
-/
import Derived.Test.YtgichipcmbnnhaaLawOpen
import Derived.Test.YtgichipcmbnnhaaLawStruct
import Derived.Test.YtgichipcmbnnhaaCoLaw1
import Derived.Lib.LaidTab
import Derived.WideKeyArr2
namespace Go.Proofs.Ytgichipcmbnnhaa
open Go.ChangeShapes Go.WideShapes Go.ChangeAt Go.RowKit Go

theorem cellsOutC : Try.prog.cellsOf 27 = 2 := by kernel_rfl
theorem cellsCoinC : Try.prog.cellsOf 29 = 4 := by kernel_rfl
theorem cellsI64C : Try.prog.cellsOf 2 = 1 := by kernel_rfl
theorem cellsBoolC : Try.prog.cellsOf 4 = 1 := by kernel_rfl
theorem cellsBytesC : Try.prog.cellsOf 25 = 1 := by kernel_rfl
theorem outFields : ∃ f0 f1, Try.prog.underlying 27 = some (.struct #[f0, f1]) ∧ (f0.type = 2 ∧ f0.offset = 0) ∧ (f1.type = 25 ∧ f1.offset = 1) := ⟨_, _, Try.underlying27, ⟨rfl, rfl⟩, rfl, rfl⟩
theorem coinFields : ∃ f0 f1 f2, Try.prog.underlying 29 = some (.struct #[f0, f1, f2]) ∧ (f0.type = 27 ∧ f0.offset = 0) ∧ (f1.type = 2 ∧ f1.offset = 2) ∧ (f2.type = 4 ∧ f2.offset = 3) := ⟨_, _, _, Try.underlying29, ⟨rfl, rfl⟩, ⟨rfl, rfl⟩, rfl, rfl⟩
/-- an output's two cells -/
theorem open_outCells {H : Type} {enc : TypeId × Value → H} {W : World} {base : Nat} {sp : Nat → Bool} {held : Bool} {fuel : Nat} {cs : List Value} {x : DataW H × List MemPlace} (hsp : ∀ b, sp b = true) (h : DataW.trod enc Try.prog W base sp held fuel 27 cs = some x) : ∃ (n : Int) (v : Value) (l : List UInt8), cs = [.int .i64 n, v] ∧ IsVals W v (l.map VB) ∧ -9223372036854775808 ≤ n ∧ n < 9223372036854775808 := by
  obtain ⟨f0, f1, hu, ⟨t0, o0⟩, t1, o1⟩ := outFields
  obtain ⟨xs, n, _, _, hlen, hxl, hf⟩ := DataW.trod_struct hu h
  rw [cellsOutC] at hlen
  have hxl' : xs.length = 2 := hxl
  have g0 := hf 0 f0 rfl
  have g1 := hf 1 f1 rfl
  rw [t0, o0, cellsI64C, List.getElem?_eq_getElem (by omega)] at g0
  rw [t1, o1, cellsBytesC, List.getElem?_eq_getElem (by omega)] at g1
  obtain ⟨a, ha, _, wa⟩ := DataW.trod_int Try.underlying2 g0
  have hb := bounds_i64 wa
  match cs, hlen with
  | [u0, u1], _ =>
    simp at ha
    simp only [List.drop_succ_cons, List.drop_zero, List.take_succ_cons, List.take_zero] at g1
    rcases DataW.trod_slice Try.underlying25 g1 with ⟨e, _⟩ | ⟨a', l', c', _, _, _, _, e, _⟩
    · simp at e
      exact ⟨a, .slice none 0 0, [], by rw [ha, e], isVals_nil W, by omega, by omega⟩
    · simp at e
      rw [e] at g1
      obtain ⟨l, hl⟩ := open_bytes_cells Try.underlying25 Try.underlying5 (by kernel_rfl) hsp g1
      exact ⟨a, _, l, by rw [ha, e], hl, by omega, by omega⟩
/-- an output that came in -/
theorem open_out {H : Type} {enc : TypeId × Value → H} {W : World} {base : Nat} {sp : Nat → Bool} {held : Bool} {r : Reach} {b0 : Nat} {v : Value} {d : DataW H} {ps : List MemPlace} (hsp : ∀ b, sp b = true)
    (hv : Value.okWide Try.prog W r b0 27 v) (hd : DataW.Trod enc Try.prog W base sp held 27 v d ps) : ∃ (n : Int) (u : Value) (l : List UInt8), v = .agg (outC n u) ∧ IsVals W u (l.map VB) ∧ -9223372036854775808 ≤ n ∧ n < 9223372036854775808 := by
  have hF : Try.prog.underlying 27 = some (.struct (Try.prog.fieldsOf 27)) := by kernel_rfl
  obtain ⟨cs, m, rfl, hn, -⟩ := open_struct (ls := [(2, 0, false), (25, 1, false)]) hF cellsOutC (by kernel_rfl) hv hd
  obtain ⟨fuel, hf⟩ := hd
  obtain ⟨n, u, l, e, h1, h2⟩ := open_outCells hsp hf
  refine ⟨n, u, l, ?_, h1, h2⟩
  have e2 : cs.toList = [.int .i64 n, u] := e
  have e3 : cs = outC n u := Array.toList_inj.1 e2
  rw [e3]
/-- a coin that came in -/
theorem open_coin {H : Type} {enc : TypeId × Value → H} {W : World} {base : Nat} {sp : Nat → Bool} {held : Bool} {r : Reach} {b0 : Nat} {v : Value} {d : DataW H} {ps : List MemPlace} (hsp : ∀ b, sp b = true)
    (hv : Value.okWide Try.prog W r b0 29 v) (hd : DataW.Trod enc Try.prog W base sp held 29 v d ps) : ∃ (c : CoinP) (u : Value), v = .agg (coinV c u) ∧ IsVals W u (c.lock.map VB) ∧ -9223372036854775808 ≤ c.value ∧ c.value < 9223372036854775808 := by
  have hF : Try.prog.underlying 29 = some (.struct (Try.prog.fieldsOf 29)) := by kernel_rfl
  obtain ⟨cs, m, rfl, hn, hf⟩ := open_struct (ls := [(27, 0, false), (2, 2, false), (4, 3, false)]) hF cellsCoinC (by kernel_rfl) hv hd
  obtain ⟨y0, t0⟩ := hf 0 _ _ _ rfl
  obtain ⟨y1, t1⟩ := hf 1 _ _ _ rfl
  obtain ⟨y2, t2⟩ := hf 2 _ _ _ rfl
  obtain ⟨n, u, l, c0, h1, h2⟩ := open_outCells hsp t0
  obtain ⟨z, c1, -, -⟩ := DataW.trod_int Try.underlying2 t1
  obtain ⟨b, c2, -⟩ := DataW.trod_bool Try.underlying4 t2
  rw [cellsOutC] at c0
  rw [cellsI64C] at c1
  rw [cellsBoolC] at c2
  refine ⟨⟨n, l, z, b⟩, u, ?_, h1, h2⟩
  unfold coinV coinC
  congr 1
  apply Array.toList_inj.1
  have hl : cs.toList.length = 4 := by simpa using hn
  match hcs : cs.toList, hl with
  | [v0, v1, v2, v3], _ =>
    rw [hcs] at c0 c1 c2
    simp only [List.drop_succ_cons, List.drop_zero, List.take_succ_cons, List.take_zero, List.cons.injEq, and_true] at c0 c1 c2
    rw [c0.1, c0.2, c1, c2]
/-- a reference that came in -/
theorem open_ref {H : Type} {enc : TypeId × Value → H} {W : World} {base : Nat} {sp : Nat → Bool} {held : Bool} {r : Reach} {b0 : Nat} {v : Value} {d : DataW H} {ps : List MemPlace}
    (hv : Value.okWide Try.prog W r b0 43 v) (hd : DataW.Trod enc Try.prog W base sp held 43 v d ps) : ∃ (l : List UInt8) (n : Nat), l.length = 32 ∧ n < 4294967296 ∧ v = .agg (refC l n) := by
  have hF : Try.prog.underlying 43 = some (.struct (Try.prog.fieldsOf 43)) := by kernel_rfl
  have hc33 : Try.prog.cellsOf 43 = 33 := by kernel_rfl
  have hc32 : Try.prog.cellsOf 40 = 32 := by kernel_rfl
  have hc1 : Try.prog.cellsOf 41 = 1 := by kernel_rfl
  obtain ⟨cs, m, rfl, hn, hf⟩ := open_struct (ls := [(40, 0, false), (41, 32, false)]) hF hc33 (by kernel_rfl) hv hd
  obtain ⟨y0, t0⟩ := hf 0 _ _ _ rfl
  obtain ⟨y1, t1⟩ := hf 1 _ _ _ rfl
  obtain ⟨l, hl, c0⟩ := trod_bytes Try.underlying40 Try.underlying5 (by kernel_rfl) hc32 t0
  obtain ⟨z, c1, -, wz⟩ := DataW.trod_int Try.underlying41 t1
  have hb := bounds_u32 wz
  rw [hc32, List.drop_zero] at c0
  rw [hc1] at c1
  refine ⟨l, z.toNat, hl, by omega, ?_⟩
  congr 1
  rw [refC_eq hl]
  apply Array.toList_inj.1
  have hcl : cs.toList.length = 33 := by simpa using hn
  have e1 : cs.toList.drop 32 = [.int .u32 z] := by
    have : (cs.toList.drop 32).length = 1 := by rw [List.length_drop, hcl]
    rw [← c1, List.take_of_length_le (by omega)]
  rw [show ((z.toNat : Nat) : Int) = z by omega]
  show cs.toList = l.map VB ++ [.int .u32 z]
  rw [← c0, ← e1, List.take_append_drop]
/-- outputs that came in -/
theorem open_outs {H : Type} {enc : TypeId × Value → H} {W : World} {base : Nat} {sp : Nat → Bool} {held : Bool} {r : Reach} {b0 : Nat} {v : Value} {d : DataW H} {ps : List MemPlace} (hsp : ∀ b, sp b = true)
    (hv : Value.okWide Try.prog W r b0 34 v) (hd : DataW.Trod enc Try.prog W base sp held 34 v d ps) : ∃ zs : List (Int × Value), AreOuts W v zs := by
  obtain ⟨ao, len, cap, rfl⟩ := okWide_slice Try.underlying34 hv
  obtain ⟨fuel, hf⟩ := hd
  simp only [Value.cells] at hf
  rcases DataW.trod_slice Try.underlying34 hf with ⟨hcs, _⟩ | ⟨a, len', cap', elems, rest, n, _, hcs, _, hb, hl, hm, hlen, hel, _, _⟩
  · simp at hcs
    obtain ⟨rfl, rfl, rfl⟩ := hcs
    exact ⟨[], areOuts_nil W⟩
  · simp at hcs
    obtain ⟨rfl, rfl, rfl⟩ := hcs
    have each : ∀ i, ∃ s : Int × Value, i < len → s.2.oneCell' = true ∧ ∀ (j : Nat) (u : Value), [Value.int .i64 s.1, s.2][j]? = some u → W.cell? ((a.add (i * 2)).add j) = some u := fun i => by
      by_cases hi : i < len
      · have h1 := hel i hi
        rw [cellsOutC, List.getElem?_eq_getElem (by omega), Option.bind_eq_some_iff] at h1
        obtain ⟨cs', hc', hy⟩ := h1
        obtain ⟨n, u, l, rfl, hu, -⟩ := open_outCells hsp hy
        refine ⟨(n, u), fun _ => ⟨vals_oneC hu, fun j x hx => ?_⟩⟩
        have hj : j < 2 := by have := (List.getElem?_eq_some_iff.1 hx).1; simpa using this
        have := (World.cells?_some hc').2.2 j hj
        rw [this]; exact hx
      · exact ⟨(0, undef), fun h => absurd h hi⟩
    obtain ⟨f, hf⟩ := Classical.axiomOfChoice each
    refine ⟨(List.range len).map f, some a, cap, by simp, fun k s hs => ?_⟩
    have hk : k < len := by have := (List.getElem?_eq_some_iff.1 hs).1; simpa using this
    simp [hk] at hs
    rw [← hs]
    exact ⟨(hf k hk).1, a, rfl, (hf k hk).2⟩
end Go.Proofs.Ytgichipcmbnnhaa
