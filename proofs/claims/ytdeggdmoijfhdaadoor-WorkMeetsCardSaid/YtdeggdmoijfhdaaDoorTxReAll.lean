/-
  Joined: TxRead, TxRead2.
-/
import Derived.Test.YtdeggdmoijfhdaaDoorTxWrite
import Derived.Test.YtdeggdmoijfhdaaDoorPcRd
import Derived.Test.YtdeggdmoijfhdaaDoorKitE
/-
  Layer 10: the walks of what reads, the program's.
-/
namespace Go.Proofs.YtdeggdmoijfhdaaDoor
open Go Go.RowKit

variable {Lm : Nat}
theorem exc_then {g : Nat} {w w1 w2 : World} (h : Exc g w w1) (hb : Below w.heap.size w1 w2) : Exc g w w2 :=
  ⟨hb.os.trans h.os, hb.tape.trans h.tape, hb.output.trans h.output, Nat.le_trans h.size hb.size, fun i hi hne => (hb.block i hi).trans (h.block i hi hne)⟩
theorem text_restLeT (s : Scn) (z : Int) : (textS s z).2.rest.length ≤ s.rest.length := by
  have h := count_restLe s z.toNat
  unfold textS
  split
  · exact h
  · split
    · exact Nat.le_refl _
    · show (List.drop _ _).length ≤ _
      rw [List.length_drop]; omega
theorem ref_restLeT (s : Scn) : (refS s).2.rest.length ≤ s.rest.length := by
  have h1 := raw_restLeC s 32
  have h2 := fixed_restLeC (rawS s 32).2 4
  unfold refS
  split <;> exact Nat.le_trans h2 h1
theorem out_restLeT (s : Scn) : (outS s).2.rest.length ≤ s.rest.length := by
  have h1 := fixed_restLeC s 8
  have h2 := text_restLeT (fixedS s 8).2 2000
  unfold outS
  split <;> exact Nat.le_trans h2 h1
theorem in_restLe (s : Scn) : (inS s).2.rest.length ≤ s.rest.length :=
  Nat.le_trans (fixed_restLeC _ 4) (Nat.le_trans (text_restLeT _ 2000) (ref_restLeT s))
theorem list_restLe {α : Type} {f : Scn → α × Scn} (hf : ∀ s : Scn, (f s).2.rest.length ≤ s.rest.length) : ∀ (n : Nat) (s : Scn), (listS f n s).2.rest.length ≤ s.rest.length
  | 0, _ => Nat.le_refl _
  | n + 1, s => Nat.le_trans (list_restLe hf n (f s).2) (hf s)
def insS (s : Scn) : List InP × Scn := listS inS (countS s 200).1 (countS s 200).2
def outsS (s : Scn) : List (Int × List UInt8) × Scn := listS outS (countS s 200).1 (countS s 200).2
theorem ins_restLe (s : Scn) : (insS s).2.rest.length ≤ s.rest.length := Nat.le_trans (list_restLe in_restLe _ _) (count_restLe s 200)
theorem outs_restLe (s : Scn) : (outsS s).2.rest.length ≤ s.rest.length := Nat.le_trans (list_restLe out_restLeT _ _) (count_restLe s 200)
theorem rawTx_eq (s : Scn) : rawTx s = (⟨(fixedS s 4).1, (insS (fixedS s 4).2).1, (outsS (insS (fixedS s 4).2).2).1, (fixedS (outsS (insS (fixedS s 4).2).2).2 4).1⟩, (fixedS (outsS (insS (fixedS s 4).2).2).2 4).2) := rfl
theorem raw_restLeTx (s : Scn) : (rawTx s).2.rest.length ≤ s.rest.length := by
  rw [rawTx_eq]
  exact Nat.le_trans (fixed_restLeC _ 4) (Nat.le_trans (outs_restLe _) (Nat.le_trans (ins_restLe _) (fixed_restLeC s 4)))
def WPost (Lm : Nat) (T : TypeId) (g : Nat) (w : World) (p : Nat × Scn) (e : Ending) (w' : World) : Prop := e = .returned (.int .u32 (p.1 : Int)) ∧ Rd Lm T w' g p.2 ∧ Exc g w w'
def InPost (Lm : Nat) (T : TypeId) (g : Nat) (w : World) (p : InP × Scn) (e : Ending) (w' : World) : Prop := ∃ v, e = .returned (.agg (inC p.1 v)) ∧ OwnB w' w.heap.size v p.1.unlock ∧ Rd Lm T w' g p.2 ∧ Exc g w w'
section
variable {ops : Array Oper} {Q : Exit → Act → World → Prop} {rest : List Oper} {o : Oper} {a : Act} {w : World}
end
theorem read_restLe (s : Scn) : (readS s).2.rest.length ≤ s.rest.length := by
  have h := raw_restLeTx s
  unfold readS
  split <;> exact h
end Go.Proofs.YtdeggdmoijfhdaaDoor

/-
  Layer 10: the walks of what reads, the reference's.
-/
namespace Go.Proofs.YtdeggdmoijfhdaaDoor
open Go Go.RowKit

variable {Lm : Nat}
theorem ownsRow_grown {n m : Nat} {E F : TypeId} {w w' : World} {b b' k : Nat} {v u : Value} {xs : List Value} {L : List (List Value)} (h : w.ownsRow b F m u k xs) (ho : OwnR n E w b' v L) (hE : E ≠ F) (hg : w.grownBy w' v.ownBlock) : w'.ownsRow b F m u k xs := by
  refine ⟨h.1, ?_⟩
  rcases h.2 with hn | ⟨g, cap, cur, rfl, hb, hk, rest⟩
  · exact .inl hn
  · refine .inr ⟨g, cap, cur, rfl, hb, ?_, rest⟩
    rw [hg.block g (Array.getElem?_eq_some_iff.1 hk).1 ?_]
    · exact hk
    · intro e
      rcases ho.1.2 with ⟨rfl, _⟩ | ⟨g', cap', cur', rfl, _, hg', _⟩
      · simp [Value.ownBlock] at e
      · simp only [Value.ownBlock, Option.some.injEq] at e
        subst e
        rw [hg'] at hk
        simp only [Option.some.injEq, Obj.cells.injEq] at hk
        exact hE hk.2.1
theorem inS_eq {s : Scn} {p : (List UInt8 × Nat) × Scn} {q : List UInt8 × Scn} {r : Nat × Scn} (hp : refS s = p) (hq : textS p.2 2000 = q) (hr : fixedS q.2 4 = r) : inS s = (⟨p.1.1, p.1.2, q.1, r.1⟩, r.2) := by
  unfold inS; rw [hp, hq, hr]
section
variable {P : Program} {ops : Array Oper} {S : World → Prop} {o : Oper} {a : Act}
end
end Go.Proofs.YtdeggdmoijfhdaaDoor
