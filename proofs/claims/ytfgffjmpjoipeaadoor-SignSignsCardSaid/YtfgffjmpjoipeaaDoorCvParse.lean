/-
  Package curve: Parse.
-/
import Derived.Test.YtfgffjmpjoipeaaDoorCvBytes0
namespace Go.Proofs.YtfgffjmpjoipeaaDoor
open Go Go.RowKit

open Cv
def BytesAt (w : World) (ad : Addr) (f : Nat → Nat) : Prop := ∀ j, j < 32 → w.cell? (ad.add j) = some (.int .u8 (f j : Int))
theorem BytesAt.below {w w' : World} {ad : Addr} {f : Nat → Nat} (h : BytesAt w ad f) (hb : Below w.heap.size w w') : BytesAt w' ad f := fun j hj => by
  have := h j hj
  rw [hb.cell (block_lt_of_cell this)]; exact this
theorem add_add (a : Addr) (i j : Nat) (hi : 0 < i) : (a.add i).add j = a.add (i + j) := by
  unfold Addr.add
  rw [if_neg (show i ≠ 0 by omega), if_neg (show i + j ≠ 0 by omega)]
  by_cases hj : j = 0
  · subst hj; rw [if_pos rfl]; rfl
  · rw [if_neg hj]; simp [Nat.add_assoc]
section
variable {ops : Array Oper} {Q : Exit → Act → World → Prop} {rest : List Oper} {o : Oper} {a : Act} {w : World}
theorem kArrPtr (x : Operand) (ad : Addr) (cap : Nat) (ho : o.op = .sliceToArrayPointer 39 x) (hg : Region.wanted o (yielded ops a.tmps) = true) (hx : a.eval x = .slice (some ad) 32 cap)
    (h : wpList Tryd.prog ops Q rest (a.put o.dst (.pointer (some ad))) w) : wpList Tryd.prog ops Q (o :: rest) a w :=
  kPure _ hg (by unfold execOp; simp only [ho, hx, Sem.run_bind, run_arrayAt (P := Tryd.prog) w 39 5 32 (some ad) 32 cap Tryd.underlying39 (Nat.le_refl _), Result.andThen_ok, Sem.run_pure]) h
theorem kLoad32 (x : Operand) (ad : Addr) (f : Nat → Nat) (ho : o.op = .load 39 x) (hg : Region.wanted o (yielded ops a.tmps) = true) (hx : a.eval x = .pointer (some ad)) (hb : BytesAt w ad f)
    (h : wpList Tryd.prog ops Q rest (a.put o.dst (.agg (bcells f))) w) : wpList Tryd.prog ops Q (o :: rest) a w := by
  have hl : (loadCells ad (bcells f).toList.length).run Tryd.prog w = .ok (bcells f).toList.toArray w :=
    run_loadCells_list (P := Tryd.prog) w ad (bcells f).toList (fun j v hv => by
      have hv' : (bcells f)[j]? = some v := by rw [← Array.getElem?_toList]; exact hv
      have hj : j < 32 := by
        rcases Nat.lt_or_ge j 32 with h | h
        · exact h
        · rw [Array.getElem?_eq_none (by rw [bcells_size]; exact h)] at hv'; cases hv'
      unfold bcells at hv'
      rw [tab_get 32 _ j hj] at hv'
      rw [hb j hj]; exact hv')
  have hi := info_arr32
  cases hq : Tryd.prog.info? 39 with
  | none => rw [hq] at hi; cases hi
  | some i =>
    have hs : i.size = 32 := by simpa [hq] using hi
    rw [Array.length_toList, bcells_size, Array.toArray_toList] at hl
    have hr : (loadVar 39 ad).run Tryd.prog w = .ok (.agg (bcells f)) w := by
      simp [loadVar, Sem.run_bind, run_isAgg Tryd.underlying39, aggDesc, sizeOf, typeInfo, hq, hs, hl]
    exact kPure _ hg (by unfold execOp; simp only [ho, hx, Instr.loadAt, Instr.sureAddr, Sem.run_bind, Sem.run_pure, Result.andThen_ok, hr]) h
end
theorem wFrom_as {r : List UInt8} {x : Nat} {fb : Nat → Nat} (hfb : fb = fun j => (r.getD j 0).toNat) (h : numOf r = x) (w : World) : Calls Tryd.prog 33 #[.agg (bcells fb)] w fun e w' => e = .returned (WV x) ∧ Below w.heap.size w w' := by
  subst hfb
  have := wFrom_any (fun j => (r.getD j 0).toNat) (fun i => byte_lt r i) w
  rw [show bnum (fun i => (r.getD (31 - i) 0).toNat) 32 = x from h] at this; exact this
end Go.Proofs.YtfgffjmpjoipeaaDoor
