/-
  Layer 10: the walks of what writes: transactions as bytes, the program's and the reference's.
-/
import Derived.Test.YtdeggdmoijfhdaaDoorTxCells
namespace Go.Proofs.YtdeggdmoijfhdaaDoor
open Go Go.RowKit

theorem inL_le {i : InP} (h : i.unlock.length ≤ 2000) (hid : i.id.length = 32) : (inL i).length ≤ 2060 := by
  have h1 := textL_le h
  unfold inL refL
  rw [List.length_append, List.length_append, List.length_append, fixedL_len, fixedL_len, hid]
  omega
def insL (is : List InP) : List UInt8 := (is.map inL).flatten
def outsL (os : List (Int × List UInt8)) : List UInt8 := (os.map outPL).flatten
theorem insL_step {is : List InP} {k : Nat} {i : InP} (h : is[k]? = some i) : insL (is.drop k) = inL i ++ insL (is.drop (k + 1)) := by
  have hk := (List.getElem?_eq_some_iff.1 h)
  obtain ⟨hk, rfl⟩ := hk
  rw [List.drop_eq_getElem_cons hk]; unfold insL; rw [List.map_cons, List.flatten_cons]
theorem outsL_step {os : List (Int × List UInt8)} {k : Nat} {i : Int × List UInt8} (h : os[k]? = some i) : outsL (os.drop k) = outPL i ++ outsL (os.drop (k + 1)) := by
  have hk := (List.getElem?_eq_some_iff.1 h)
  obtain ⟨hk, rfl⟩ := hk
  rw [List.drop_eq_getElem_cons hk]; unfold outsL; rw [List.map_cons, List.flatten_cons]
theorem fst_at {α : Type} {zs : List (α × Value)} {l : List α} (h : zs.map Prod.fst = l) {k : Nat} {z : α × Value} (hz : zs[k]? = some z) : l[k]? = some z.1 := by
  rw [← h, List.getElem?_map, hz]; rfl
theorem fst_len {α : Type} {zs : List (α × Value)} {l : List α} (h : zs.map Prod.fst = l) : zs.length = l.length := by rw [← h, List.length_map]
theorem inL3 (X : List UInt8) (i : InP) : X ++ inL i = X ++ refL i.id i.at' ++ textL i.unlock ++ fixedL i.order 4 := by unfold inL; simp only [List.append_assoc]
theorem txL_split (t : TxP) : txL t = (fixedL t.version 4 ++ countL t.ins.length) ++ insL t.ins ++ countL t.outs.length ++ outsL t.outs ++ fixedL t.end' 4 := by
  unfold txL insL outsL
  simp only [List.append_assoc]
end Go.Proofs.YtdeggdmoijfhdaaDoor
