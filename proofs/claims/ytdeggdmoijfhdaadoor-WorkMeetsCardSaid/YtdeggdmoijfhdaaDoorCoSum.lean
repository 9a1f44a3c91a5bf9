/-
  Layer 9: the walks of Money, Subsidy and Sum, the program's and the reference's; outputs that lie in a slice.
-/
import Derived.Test.YtdeggdmoijfhdaaDoorCoCells
namespace Go.Proofs.YtdeggdmoijfhdaaDoor
open Go Go.RowKit

theorem retT2 {fn : Func} {R : Ending → World → Prop} {P : Program} {a : Act} {w : World} {t u : Tmp} (h : fn.results = #[.tmp t, .tmp u]) (hd : a.defers = []) (hR : R (.returned (.tuple #[a.tmps.getD t undef, a.tmps.getD u undef])) w) : bodyPost P fn R .ret a w :=
  bodyPost_ret (by simp [results, h]) hd hR
/-- the value reads as a list of outputs: values, and what stands for locks -/
def AreOuts (w : World) (v : Value) (zs : List (Int × Value)) : Prop :=
  ∃ ao c, v = .slice ao zs.length c ∧ ∀ (k : Nat) (s : Int × Value), zs[k]? = some s → s.2.oneCell' = true ∧ ∃ a : Addr, ao = some a ∧ ∀ (j : Nat) (u : Value), [Value.int .i64 s.1, s.2][j]? = some u → w.cell? ((a.add (k * 2)).add j) = some u
theorem AreOuts.below {w w' : World} {v : Value} {zs : List (Int × Value)} (h : AreOuts w v zs) (hb : Below w.heap.size w w') : AreOuts w' v zs := by
  obtain ⟨ao, c, e, h1⟩ := h
  refine ⟨ao, c, e, fun k s hs => ?_⟩
  obtain ⟨h0, a, ha, h2⟩ := h1 k s hs
  exact ⟨h0, a, ha, fun j u hu => by rw [hb.cell (block_lt_of_cell (h2 j u hu))]; exact h2 j u hu⟩
theorem areOuts_nil (w : World) : AreOuts w (.slice none 0 0) [] := ⟨none, 0, rfl, fun k s h => by simp at h⟩
theorem AreOuts.one {w : World} {v : Value} {zs : List (Int × Value)} (h : AreOuts w v zs) {k : Nat} {s : Int × Value} (hs : zs[k]? = some s) : s.2.oneCell' = true := by obtain ⟨ao, c, e, h1⟩ := h; exact (h1 k s hs).1
section
variable {ops : Array Oper} {Q : Exit → Act → World → Prop} {rest : List Oper} {o : Oper} {a : Act} {w : World} {S : World → Prop}
end
theorem outC_one2 (n : Int) {v : Value} (h : v.oneCell' = true) : ∀ u ∈ outC n v, u.oneCell' = true := by
  intro u hu
  simp [outC] at hu
  rcases hu with rfl | rfl
  · rfl
  · exact h
/-- what Sum answers -/
def SumPost (w : World) (r : Option Int) (e : Ending) (w' : World) : Prop := e = .returned (.tuple #[.int .i64 (sumV r), .int .i64 (sumE r)]) ∧ Below w.heap.size w w'
end Go.Proofs.YtdeggdmoijfhdaaDoor
