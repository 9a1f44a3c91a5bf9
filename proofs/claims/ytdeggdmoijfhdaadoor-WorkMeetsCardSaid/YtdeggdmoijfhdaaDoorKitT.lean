/-
  My kit: the steps of a drawn region whose last operations wait for all others; a slice of an array that lies in a row.
-/
import Derived.Test.YtdeggdmoijfhdaaDoorKitAll
import Derived.Test.YtdeggdmoijfhdaaDoorKit11
namespace Go.Proofs.YtdeggdmoijfhdaaDoor
open Go Go.RowKit

section
variable {P : Program} {Q : Exit → Act → World → Prop}
theorem tO {h : List Oper} {a a0 : Act} (ho : ∀ s, (∀ (j : Nat) o, h[j]? = some o → o.dst ≠ some s) → a.tmps.getD s undef = a0.tmps.getD s undef) (s : Tmp) (hf : (h.all fun o => o.dst != some s) = true := by kernel_rfl) : a.tmps.getD s undef = a0.tmps.getD s undef := ho s (free2_of hf)
theorem tD {h : List Oper} {a : Act} {w : World} {ss : List Spec} {o : Oper} (hd : ∀ e ∈ o.after, Region.binds .any e = true → specAt ss e.on w (a.tmps.getD (dstOf h e.on) undef)) (j : Nat) (g : Ground) (hm : (⟨j, g⟩ : Edge) ∈ o.after := by simp) (hb : Region.binds .any ⟨j, g⟩ = true := by rfl) : specAt ss j w (a.tmps.getD (dstOf h j) undef) := hd ⟨j, g⟩ hm hb
def tOk (n : Nat) (o : Oper) : Bool := match o.dst with
  | some d => decide (d < n)
  | none => false
theorem tV {ops : Array Oper} {ss : List Spec} {a0 a : Act} {w w' : World} {o : Oper} {i : Nat} {v : Value} (hX : ApartAll [] a w) (hsz : a.tmps.size = a0.tmps.size) (hB : Below w.heap.size w w') (hp : specAt ss i w' v) (hk : tOk a0.tmps.size o = true := by kernel_rfl) :
    wpList P ops (Exit.then (fun a' w' => ∃ v, a' = a.put o.dst v ∧ Below w.heap.size w w' ∧ ApartAll [] a' w' ∧ specAt ss i w' v) (NoPanic Q)) [] (a.put o.dst v) w' := by
  unfold tOk at hk
  cases hd : o.dst with
  | none => rw [hd] at hk; cases hk
  | some d =>
    rw [hd] at hk
    rw [← hd]
    exact symVT hX hsz hd (by simpa using hk) rfl hB hp
end
section
variable {P : Program} {ops : Array Oper} {Q : Exit → Act → World → Prop} {rest : List Oper} {o : Oper} {a : Act} {w : World}
theorem kSliceArr (T E : TypeId) (x : Operand) (len g off : Nat) (ho : o.op = .slice T x none none none) (hg : Region.wanted o (yielded ops a.tmps) = true) (hx : a.eval x = .pointer (some ⟨g, off, none⟩)) (ht : P.underlying T = some (.array len E)) (hsz : (P.info? E).map (·.size) = some 1) (h : wpList P ops Q rest (a.put o.dst (.slice (some ⟨g, off, none⟩) len len)) w) : wpList P ops Q (o :: rest) a w := by
  refine kPure _ hg ?_ h
  unfold execOp
  simp only [ho, hx, Option.map_none, Sem.run_bind, run_sliceArrAll ht hsz, Result.andThen_ok, Sem.run_pure]
end
end Go.Proofs.YtdeggdmoijfhdaaDoor
