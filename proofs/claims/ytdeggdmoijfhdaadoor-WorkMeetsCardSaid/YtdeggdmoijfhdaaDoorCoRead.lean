/-
  Layer 9: the walks of what reads: references and outputs, the program's and the reference's.
-/
import Derived.Test.YtdeggdmoijfhdaaDoorCoWrite
import Derived.Test.YtdeggdmoijfhdaaDoorPcRd
namespace Go.Proofs.YtdeggdmoijfhdaaDoor
open Go Go.RowKit

variable {Lm : Nat}
def put32 (x : List UInt8) : List UInt8 := x.take 32 ++ List.replicate (32 - x.length) 0
theorem put32_len (x : List UInt8) : (put32 x).length = 32 := by unfold put32; simp; omega
theorem put32_id {x : List UInt8} (h : x.length = 32) : put32 x = x := by unfold put32; rw [h]; simp [List.take_of_length_le (Nat.le_of_eq h)]
theorem ref_put (x : List UInt8) : splice (refC z32 0) 0 ((x.map VB).take 32) = refC (put32 x) 0 := by
  rw [refC_eq (l := z32) rfl, refC_eq (put32_len x)]
  unfold splice put32 z32
  rw [List.map_append, List.map_take, List.map_replicate, List.map_replicate]
  have hxl : (x.map VB).length = x.length := by simp
  generalize x.map VB = m at *
  have hl : (List.take 32 m).length = min 32 m.length := List.length_take
  rw [hl, ← hxl, Nat.zero_add]
  simp only [List.take_zero, List.nil_append]
  rw [List.drop_append_of_le_length (by rw [List.length_replicate]; omega), List.drop_replicate, show 32 - min 32 m.length = 32 - m.length by omega, List.append_assoc]
def fill32 (x : List UInt8) (k : Nat) : List UInt8 := x.take k ++ List.replicate (32 - k) 0
theorem fill32_len {x : List UInt8} (h : x.length = 32) {k : Nat} (hk : k ≤ 32) : (fill32 x k).length = 32 := by unfold fill32; simp; omega
theorem fill32_all {x : List UInt8} (h : x.length = 32) : fill32 x 32 = x := by unfold fill32; simp [List.take_of_length_le (Nat.le_of_eq h)]
theorem fill32_step {x : List UInt8} (h : x.length = 32) {k : Nat} (hk : k < 32) : (fill32 x k).set k (at8 x k) = fill32 x (k + 1) := by
  refine List.ext_getElem? fun j => ?_
  unfold fill32
  rw [List.getElem?_set]
  have ha : at8 x k = x[k] := by simp [at8, show k < x.length by omega]
  have hl : (List.take k x).length = k := by simp; omega
  have hl1 : (List.take (k + 1) x).length = k + 1 := by simp; omega
  by_cases hj : k = j
  · subst hj
    rw [if_pos rfl, if_pos (by simp; omega), List.getElem?_append_left (by omega), ha]
    simp [show k < x.length by omega]
  · rw [if_neg hj]
    by_cases hlt : j < k
    · rw [List.getElem?_append_left (by omega), List.getElem?_append_left (by omega)]
      simp [hlt, show j < k + 1 by omega]
    · rw [List.getElem?_append_right (by omega), List.getElem?_append_right (by omega), hl, hl1]
      simp only [List.getElem?_replicate]
      by_cases h32 : j < 32
      · rw [if_pos (by omega), if_pos (by omega)]
      · rw [if_neg (by omega), if_neg (by omega)]
theorem ref_fill {x : List UInt8} (h : x.length = 32) {k : Nat} (hk : k < 32) : (refC (fill32 x k) 0).setIfInBounds k (VB (at8 x k)) = refC (fill32 x (k + 1)) 0 := by
  rw [refC_eq (fill32_len h (by omega)), refC_eq (fill32_len h (by omega)), ← fill32_step h hk, List.map_set]
  rw [List.setIfInBounds_toArray, List.set_append_left _ _ (by rw [List.length_map, fill32_len h (by omega)]; exact hk)]
theorem fixed4_lt (s : Scn) : (fixedS s 4).1 < 4294967296 := by
  unfold fixedS
  rw [clamp4, rawS_take]
  have h1 := takeS_len s 4
  have h2 := numL_lt (takeS s 4).1
  have h3 : 256 ^ (takeS s 4).1.length ≤ 256 ^ 4 := Nat.pow_le_pow_right (by decide) h1
  have h4 : (256 : Nat) ^ 4 = 4294967296 := by decide
  dsimp only
  omega
/-- bytes, over what is written where no byte lies -/
theorem vals_wroteN {w w' : World} {g : Nat} {T : TypeId} {cs : Array Value} {v : Value} {l : List UInt8} (hv : IsVals w v (l.map VB)) (hr : Row w g T cs) (hno : ∀ (j : Nat) (c : UInt8), cs[j]? ≠ some (VB c)) (hW : Wrote g w w') : IsVals w' v (l.map VB) := by
  obtain ⟨ao, c, rfl, hc, hn, hj⟩ := hv
  refine ⟨ao, c, rfl, hc, hn, fun j u hu => ?_⟩
  obtain ⟨a, rfl, hcell⟩ := hj j u hu
  obtain ⟨x, -, rfl⟩ : ∃ x, x ∈ l ∧ VB x = u := by
    have := List.mem_of_getElem? hu
    simpa using this
  refine ⟨a, rfl, ?_⟩
  have hne : (a.add j).block ≠ g := by
    intro he
    unfold World.cell? at hcell
    rw [he] at hcell
    have hr' : w.heap[g]? = some (.cells cs T (0, 0)) := hr
    rw [hr'] at hcell
    simp only at hcell
    split at hcell
    · cases hcell
    · exact hno _ _ hcell
  rw [World.cell?_of_block (w := w) (hW.other _ hne)]; exact hcell
theorem own_wroteN {w w' : World} {g b : Nat} {T : TypeId} {cs : Array Value} {v : Value} {l : List UInt8} (ho : OwnB w b v l) (hr : Row w g T cs) (hT : T ≠ 5) (hW : Wrote g w w') : OwnB w' b v l := by
  refine ⟨ho.1, ?_⟩
  rcases ho.2 with hn | ⟨k, cap, cur, rfl, hb, hk, rest⟩
  · exact .inl hn
  · refine .inr ⟨k, cap, cur, rfl, hb, ?_, rest⟩
    have hne : k ≠ g := by
      rintro rfl
      have hr' : w.heap[k]? = some (.cells cs T (0, 0)) := hr
      rw [hr'] at hk
      simp only [Option.some.injEq, Obj.cells.injEq] at hk
      exact hT hk.2.1
    rw [hW.other k hne]; exact hk
theorem out_noByte (n : Int) {w : World} {v : Value} {l : List Value} (h : IsVals w v l) (j : Nat) (c : UInt8) : (outC n v)[j]? ≠ some (VB c) := by
  obtain ⟨ao, k, rfl, _⟩ := h
  match j with
  | 0 => simp [outC]
  | 1 => simp [outC]
  | j + 2 => simp [outC]
theorem Rd.wroteN {T U : TypeId} {w w' : World} {g B : Nat} {s : Scn} {cs : Array Value} (h : Rd Lm T w g s) (hr : Row w B U cs) (hno : ∀ (j : Nat) (c : UInt8), cs[j]? ≠ some (VB c)) (hW : Wrote B w w') (hg : g ≠ B) : Rd Lm T w' g s := by
  obtain ⟨v, h1, h2, h3⟩ := h
  exact ⟨v, hW.row h1 hg, vals_wroteN h2 hr hno hW, h3⟩
theorem raw_restLeC (s : Scn) (z : Int) : (rawS s z).2.rest.length ≤ s.rest.length := by
  unfold rawS
  split
  · exact Nat.le_refl _
  · split
    · exact Nat.le_refl _
    · show (List.drop _ _).length ≤ _
      rw [List.length_drop]; omega
theorem fixed_restLeC (s : Scn) (z : Int) : (fixedS s z).2.rest.length ≤ s.rest.length := raw_restLeC s _
section
variable {ops : Array Oper} {Q : Exit → Act → World → Prop} {rest : List Oper} {o : Oper} {a : Act} {w : World} {S : World → Prop}
theorem ySliceArrC {P : Program} {T E : TypeId} {len : Nat} (ht : P.underlying T = some (.array len E)) (hsz : (P.info? E).map (·.size) = some 1) (x : Operand) (g off : Nat) (ho : o.op = .slice T x none none none) (hg : Region.wanted o (yielded ops a.tmps) = true) (hx : a.eval x = .pointer (some ⟨g, off, none⟩)) : YieldsIf P ops S o (.slice (some ⟨g, off, none⟩) len len) a :=
  yOf hg fun w _ => by
    unfold execOp
    simp only [ho, hx, Option.map_none, Sem.run_bind, run_sliceArrAll ht hsz, Result.andThen_ok, Sem.run_pure]
end
def VPost (Lm : Nat) (T : TypeId) (g : Nat) (w : World) (p : Nat × Scn) (e : Ending) (w' : World) : Prop := e = .returned (.int .i64 (i64Z p.1)) ∧ Rd Lm T w' g p.2 ∧ Exc g w w'
def RefPost (Lm : Nat) (T : TypeId) (g : Nat) (w : World) (p : (List UInt8 × Nat) × Scn) (e : Ending) (w' : World) : Prop := e = .returned (.agg (refC p.1.1 p.1.2)) ∧ Rd Lm T w' g p.2 ∧ Exc g w w'
def OutPost (Lm : Nat) (T : TypeId) (g : Nat) (w : World) (p : (Int × List UInt8) × Scn) (e : Ending) (w' : World) : Prop := ∃ v, e = .returned (.agg (outC p.1.1 v)) ∧ OwnB w' w.heap.size v p.1.2 ∧ Rd Lm T w' g p.2 ∧ Exc g w w'
end Go.Proofs.YtdeggdmoijfhdaaDoor
