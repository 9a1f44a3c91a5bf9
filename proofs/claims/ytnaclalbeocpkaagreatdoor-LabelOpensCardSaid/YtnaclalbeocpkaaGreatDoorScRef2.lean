/-
  Layer 7: the walks of the reference's Needs and goes, and its state in memory.
-/
import Derived.Test.YtnaclalbeocpkaaGreatDoorScRef1
namespace Go.Proofs.YtnaclalbeocpkaaGreatDoor
open Go Go.RowKit

/-- how many pieces a word needs; -1: there is no such word -/
def needI (c : UInt8) : Int := if c = 97 ∨ c = 106 then 0 else if c = 105 ∨ c = 117 ∨ c = 118 ∨ c = 130 ∨ c = 168 ∨ c = 169 then 1 else if c = 109 ∨ c = 120 ∨ c = 124 ∨ c = 135 ∨ c = 136 ∨ c = 172 ∨ c = 173 then 2 else -1
theorem B_neJ {c d : UInt8} (h : c ≠ d) : decide (B c = B d) = false := by
  unfold B
  have : c.toNat ≠ d.toNat := fun e => h (UInt8.toNat_inj.1 e)
  simp; omega
/-- the reference's state in memory: pieces and branches, the upmost and innermost last -/
def StIs (w : World) (cs : Array Value) (s : SSt) : Prop :=
  ∃ sv wv hs, cs = (sv :: wv :: hs).toArray ∧ (hs.length = 32 ∧ ∀ u ∈ hs, u.oneCell' = true) ∧ IsVals w sv (s.stack.reverse.map textV) ∧ IsVals w wv (s.ways.reverse.map Value.bool)
theorem StIs.below {w w' : World} {cs : Array Value} {s : SSt} (h : StIs w cs s) (hb : Below w.heap.size w w') : StIs w' cs s := by
  obtain ⟨sv, wv, hs, h1, h2, h3, h4⟩ := h
  exact ⟨sv, wv, hs, h1, h2, h3.below hb, h4.below hb⟩
theorem info_boolP : (Tryz.prog.info? 4).map (·.size) = some 1 := by kernel_rfl
section
variable {ops : Array Oper} {Q : Exit → Act → World → Prop} {rest : List Oper} {o : Oper} {a : Act} {w : World}
end
theorem goes_false {s : SSt} {k : Nat} (hk : k < s.ways.reverse.length) (h : s.ways.reverse[k] = false) : goesB s = false := by
  unfold goesB
  rw [List.all_eq_false]
  exact ⟨false, by rw [← h]; exact List.mem_reverse.1 (List.getElem_mem hk), by simp⟩
theorem goes_true {s : SSt} (h : ∀ j (hj : j < s.ways.reverse.length), s.ways.reverse[j] = true) : goesB s = true := by
  unfold goesB
  rw [List.all_eq_true]
  intro x hx
  obtain ⟨j, hj, rfl⟩ := List.getElem_of_mem (List.mem_reverse.2 hx)
  exact h j hj
end Go.Proofs.YtnaclalbeocpkaaGreatDoor
