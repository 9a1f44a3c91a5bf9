/-
  Layer 10: inputs and transactions as cells; slices of inputs and of outputs; what keeps them.
-/
import Derived.Test.YtmfjgehlkbndjaaGreatDoorTxPlain
import Derived.Test.YtmfjgehlkbndjaaGreatDoorKitRows
import Derived.Test.YtmfjgehlkbndjaaGreatDoorCoWrite
import Derived.Test.YtmfjgehlkbndjaaGreatDoorCoRead
namespace Go.Proofs.YtmfjgehlkbndjaaGreatDoor
open Go Go.RowKit

/-- a value that is a slice -/
def SliceV (v : Value) : Prop := ∃ ao n c, v = .slice ao n c
theorem SliceV.one {v : Value} (h : SliceV v) : v.oneCell' = true := by obtain ⟨ao, n, c, rfl⟩ := h; rfl
theorem IsVals.sl {w : World} {v : Value} {l : List Value} (h : IsVals w v l) : SliceV v := by obtain ⟨ao, c, rfl, _⟩ := h; exact ⟨_, _, _, rfl⟩
theorem IsRows.sl {n : Nat} {w : World} {v : Value} {l : List (List Value)} (h : IsRows n w v l) : SliceV v := by obtain ⟨⟨ao, c, rfl, _⟩, _⟩ := h; exact ⟨_, _, _, rfl⟩
def inR (z : InP × Value) : List Value := (List.range 32).map (fun p => VB (at8 z.1.id p)) ++ [Value.int .u32 (z.1.at' : Int), z.2, .int .u32 (z.1.order : Int)]
def inC (i : InP) (u : Value) : Array Value := (inR (i, u)).toArray
def outR (z : (Int × List UInt8) × Value) : List Value := [Value.int .i64 z.1.1, z.2]
def txC (n : Nat) (a b : Value) (e : Nat) : Array Value := #[.int .u32 (n : Int), a, b, .int .u32 (e : Int)]
theorem inR_len (z : InP × Value) : (inR z).length = 35 := by simp [inR]
theorem inC_size (i : InP) (u : Value) : (inC i u).size = 35 := by simp [inC, inR]
theorem outR_len (z : (Int × List UInt8) × Value) : (outR z).length = 2 := rfl
theorem inC_33 (i : InP) (u : Value) : (inC i u)[33]? = some u := by simp [inC, inR]
theorem inC_34 (i : InP) (u : Value) : (inC i u)[34]? = some (.int .u32 (i.order : Int)) := by simp [inC, inR]
theorem inC_ref (i : InP) (u : Value) : (inC i u).extract 0 (0 + 33) = refC i.id i.at' := by
  simp only [inC, inR, refC, List.extract_toArray, List.extract_eq_take_drop]
  simp [List.take_append]
  rw [List.take_of_length_le (by simp)]
theorem inC_put (i : InP) (u v : Value) (l : List UInt8) : (inC i u).setIfInBounds 33 v = inC ⟨i.id, i.at', l, i.order⟩ v := by
  simp [inC, inR]
theorem inC_order (i : InP) (u : Value) (n : Nat) : (inC i u).setIfInBounds 34 (.int .u32 (n : Int)) = inC ⟨i.id, i.at', i.unlock, n⟩ u := by
  simp [inC, inR]
theorem inC_one (i : InP) {u : Value} (hu : u.oneCell' = true) : ∀ v ∈ inC i u, v.oneCell' = true := by
  intro v hv
  simp only [inC, inR, List.mem_toArray, List.mem_append, List.mem_map, List.mem_cons, List.not_mem_nil, or_false] at hv
  rcases hv with ⟨j, -, rfl⟩ | rfl | rfl | rfl
  · rfl
  · rfl
  · exact hu
  · rfl
theorem txC_one (n e : Nat) {a b : Value} (ha : a.oneCell' = true) (hb : b.oneCell' = true) : ∀ v ∈ txC n a b e, v.oneCell' = true := by
  intro v hv
  simp [txC] at hv
  rcases hv with rfl | rfl | rfl | rfl
  · rfl
  · exact ha
  · exact hb
  · rfl
theorem info_InC : (Tryz.prog.info? 62).map (·.size) = some 35 := by kernel_rfl
theorem info_InS (i : InP) (u : Value) : (Tryz.prog.info? 62).map (·.size) = some (inC i u).size := by rw [inC_size]; exact info_InC
theorem info_TxC : (Tryz.prog.info? 34).map (·.size) = some 4 := by kernel_rfl
theorem info_insC : (Tryz.prog.info? 31).map (·.size) = some 1 := by kernel_rfl
theorem info_outsC : (Tryz.prog.info? 32).map (·.size) = some 1 := by kernel_rfl
theorem zero_TxC : ((Tryz.prog.info? 34).bind (·.zero)).map Value.cells = some (txC 0 (.slice none 0 0) (.slice none 0 0) 0) := by kernel_rfl
def in0 : InP := ⟨z32, 0, [], 0⟩
theorem inC_z0 : inC in0 (.slice none 0 0) = ((List.range 32).map (fun _ => VB 0) ++ [Value.int .u32 0, .slice none 0 0, .int .u32 0]).toArray := by
  unfold inC inR in0
  rw [List.map_congr_left (g := fun _ => VB 0) fun j hj => by rw [at_z32 j (List.mem_range.1 hj)]]; rfl
theorem zero_InC0 : ((Tryz.prog.info? 62).bind (·.zero)).map Value.cells = some ((List.range 32).map (fun _ => VB 0) ++ [Value.int .u32 0, .slice none 0 0, .int .u32 0]).toArray := by kernel_rfl
theorem zero_InC : ((Tryz.prog.info? 62).bind (·.zero)).map Value.cells = some (inC in0 (.slice none 0 0)) := by rw [inC_z0]; exact zero_InC0
theorem built_In3s (l : List UInt8) (n k : Nat) (ao : Option Addr) (q c : Nat) : Tryz.prog.built 62 [(0, .agg (refC l n)), (1, .slice ao q c), (2, .int .u32 (k : Int))] = some (inC ⟨l, n, [], k⟩ (.slice ao q c)) := by kernel_rfl
theorem built_In3 {u : Value} (hu : SliceV u) (l x : List UInt8) (n k : Nat) : Tryz.prog.built 62 [(0, .agg (refC l n)), (1, u), (2, .int .u32 (k : Int))] = some (inC ⟨l, n, x, k⟩ u) := by obtain ⟨ao, q, c, rfl⟩ := hu; exact built_In3s _ _ _ _ _ _
theorem built_In2s (l : List UInt8) (n : Nat) (ao : Option Addr) (q c : Nat) : Tryz.prog.built 62 [(0, .agg (refC l n)), (1, .slice ao q c)] = some (inC ⟨l, n, [], 0⟩ (.slice ao q c)) := by kernel_rfl
theorem built_In2 {u : Value} (hu : SliceV u) (l x : List UInt8) (n : Nat) : Tryz.prog.built 62 [(0, .agg (refC l n)), (1, u)] = some (inC ⟨l, n, x, 0⟩ u) := by obtain ⟨ao, q, c, rfl⟩ := hu; exact built_In2s _ _ _ _ _
theorem built_In1 (l : List UInt8) (n : Nat) : Tryz.prog.built 62 [(0, .agg (refC l n))] = some (inC ⟨l, n, [], 0⟩ (.slice none 0 0)) := by kernel_rfl
theorem built_Tx0 : Tryz.prog.built 34 [] = some (txC 0 (.slice none 0 0) (.slice none 0 0) 0) := by kernel_rfl
theorem built_Tx1 (n : Nat) : Tryz.prog.built 34 [(0, .int .u32 (n : Int))] = some (txC n (.slice none 0 0) (.slice none 0 0) 0) := by kernel_rfl
theorem built_Tx4s (n e : Nat) (ao bo : Option Addr) (q c q' c' : Nat) : Tryz.prog.built 34 [(0, .int .u32 (n : Int)), (1, .slice ao q c), (2, .slice bo q' c'), (3, .int .u32 (e : Int))] = some (txC n (.slice ao q c) (.slice bo q' c') e) := by kernel_rfl
theorem built_Tx4 {a b : Value} (ha : SliceV a) (hb : SliceV b) (n e : Nat) : Tryz.prog.built 34 [(0, .int .u32 (n : Int)), (1, a), (2, b), (3, .int .u32 (e : Int))] = some (txC n a b e) := by obtain ⟨_, _, _, rfl⟩ := ha; obtain ⟨_, _, _, rfl⟩ := hb; exact built_Tx4s _ _ _ _ _ _ _ _
theorem built_RefN0 : Tryz.prog.built 60 [(1, .int .u32 4294967295)] = some ((List.range 32).map (fun _ => VB 0) ++ [Value.int .u32 4294967295]).toArray := by kernel_rfl
theorem refC_zn (n : Nat) : refC z32 n = ((List.range 32).map (fun _ => VB 0) ++ [Value.int .u32 (n : Int)]).toArray := by
  unfold refC
  rw [List.map_congr_left (g := fun _ => VB 0) fun j hj => by rw [at_z32 j (List.mem_range.1 hj)]]
theorem built_RefN : Tryz.prog.built 60 [(1, .int .u32 4294967295)] = some (refC z32 4294967295) := by rw [refC_zn]; exact built_RefN0
theorem inCF0 : ∃ f fs, Tryz.prog.underlying 62 = some (.struct fs) ∧ fs[0]? = some f ∧ f.offset = 0 ∧ (Tryz.prog.info? f.type).map (·.size) = some (32 + 1) := ⟨_, _, Tryz.underlying62, rfl, rfl, by kernel_rfl⟩
theorem inCF1 : ∃ f fs, Tryz.prog.underlying 62 = some (.struct fs) ∧ fs[1]? = some f ∧ f.offset = 33 ∧ (Tryz.prog.info? f.type).map (·.size) = some (0 + 1) := ⟨_, _, Tryz.underlying62, rfl, rfl, by kernel_rfl⟩
theorem inCF2 : ∃ f fs, Tryz.prog.underlying 62 = some (.struct fs) ∧ fs[2]? = some f ∧ f.offset = 34 ∧ (Tryz.prog.info? f.type).map (·.size) = some (0 + 1) := ⟨_, _, Tryz.underlying62, rfl, rfl, by kernel_rfl⟩
theorem txCF0 : ∃ f fs, Tryz.prog.underlying 34 = some (.struct fs) ∧ fs[0]? = some f ∧ f.offset = 0 ∧ (Tryz.prog.info? f.type).map (·.size) = some (0 + 1) := ⟨_, _, Tryz.underlying34, rfl, rfl, by kernel_rfl⟩
theorem txCF1 : ∃ f fs, Tryz.prog.underlying 34 = some (.struct fs) ∧ fs[1]? = some f ∧ f.offset = 1 ∧ (Tryz.prog.info? f.type).map (·.size) = some (0 + 1) := ⟨_, _, Tryz.underlying34, rfl, rfl, by kernel_rfl⟩
theorem txCF2 : ∃ f fs, Tryz.prog.underlying 34 = some (.struct fs) ∧ fs[2]? = some f ∧ f.offset = 2 ∧ (Tryz.prog.info? f.type).map (·.size) = some (0 + 1) := ⟨_, _, Tryz.underlying34, rfl, rfl, by kernel_rfl⟩
theorem txCF3 : ∃ f fs, Tryz.prog.underlying 34 = some (.struct fs) ∧ fs[3]? = some f ∧ f.offset = 3 ∧ (Tryz.prog.info? f.type).map (·.size) = some (0 + 1) := ⟨_, _, Tryz.underlying34, rfl, rfl, by kernel_rfl⟩
theorem insInfo0 : (Tryz.prog.info? 62).map (fun i => (i.zero.map Value.cells, i.size, i.bytes)) = some (some ((List.range 32).map (fun _ => VB 0) ++ [Value.int .u32 0, .slice none 0 0, .int .u32 0]).toArray, 35, 72) := by kernel_rfl
theorem outInfo0 : (Tryz.prog.info? 64).map (fun i => (i.zero.map Value.cells, i.size, i.bytes)) = some (some #[Value.int .i64 0, .slice none 0 0], 2, 32) := by kernel_rfl
theorem rowInfo {T : TypeId} {cs : Array Value} {n b : Nat} (h : (Tryz.prog.info? T).map (fun i => (i.zero.map Value.cells, i.size, i.bytes)) = some (some cs, n, b)) : ∃ i z, Tryz.prog.info? T = some i ∧ i.zero = some z ∧ i.size = n ∧ z.cells.size = cs.size ∧ i.bytes = b := by
  cases hq : Tryz.prog.info? T with
  | none => rw [hq] at h; cases h
  | some i =>
    rw [hq] at h
    simp only [Option.map_some, Option.some.injEq, Prod.mk.injEq] at h
    obtain ⟨h1, h2, h3⟩ := h
    cases hz : i.zero with
    | none => rw [hz] at h1; cases h1
    | some z => rw [hz] at h1; simp only [Option.map_some, Option.some.injEq] at h1; exact ⟨i, z, rfl, hz, h2, by rw [h1], h3⟩
theorem built_ins1s (l x : List UInt8) (n k : Nat) (ao : Option Addr) (q c : Nat) : ∀ w, (Instr.buildSlice 31 1 #[(0, .agg (inC ⟨l, n, x, k⟩ (.slice ao q c)))]).run Tryz.prog w = .ok (.slice (some ⟨w.heap.size, 0, none⟩) 1 1) (w.alloc (.cells (inC ⟨l, n, x, k⟩ (.slice ao q c)) 62)) := fun _ => by kernel_rfl
theorem built_ins1 {u : Value} (hu : SliceV u) (i : InP) (w : World) : (Instr.buildSlice 31 1 #[(0, .agg (inC i u))]).run Tryz.prog w = .ok (.slice (some ⟨w.heap.size, 0, none⟩) 1 1) (w.alloc (.cells (inC i u) 62)) := by
  obtain ⟨_, _, _, rfl⟩ := hu
  obtain ⟨l, n, x, k⟩ := i
  exact built_ins1s l x n k _ _ _ w
theorem built_outs1s (n : Int) (ao : Option Addr) (q c : Nat) : ∀ w, (Instr.buildSlice 32 1 #[(0, .agg (outC n (.slice ao q c)))]).run Tryz.prog w = .ok (.slice (some ⟨w.heap.size, 0, none⟩) 1 1) (w.alloc (.cells (outC n (.slice ao q c)) 64)) := fun _ => by kernel_rfl
theorem built_outs1 {u : Value} (hu : SliceV u) (n : Int) (w : World) : (Instr.buildSlice 32 1 #[(0, .agg (outC n u))]).run Tryz.prog w = .ok (.slice (some ⟨w.heap.size, 0, none⟩) 1 1) (w.alloc (.cells (outC n u) 64)) := by
  obtain ⟨_, _, _, rfl⟩ := hu
  exact built_outs1s n _ _ _ w
/-! slices of inputs and of outputs -/
def AreIns (w : World) (v : Value) (zs : List (InP × Value)) : Prop := IsRows 35 w v (zs.map inR) ∧ ∀ z ∈ zs, IsVals w z.2 (z.1.unlock.map VB)
def AreOutsT (w : World) (v : Value) (zs : List ((Int × List UInt8) × Value)) : Prop := IsRows 2 w v (zs.map outR) ∧ ∀ z ∈ zs, IsVals w z.2 (z.1.2.map VB)
def InsOf (w : World) (v : Value) (l : List InP) : Prop := ∃ zs : List (InP × Value), zs.map Prod.fst = l ∧ AreIns w v zs
def OutsOf (w : World) (v : Value) (l : List (Int × List UInt8)) : Prop := ∃ zs : List ((Int × List UInt8) × Value), zs.map Prod.fst = l ∧ AreOutsT w v zs
theorem AreIns.below {w w' : World} {v : Value} {zs : List (InP × Value)} (h : AreIns w v zs) (hb : Below w.heap.size w w') : AreIns w' v zs := ⟨h.1.below hb, fun z hz => (h.2 z hz).below hb⟩
theorem AreOutsT.below {w w' : World} {v : Value} {zs : List ((Int × List UInt8) × Value)} (h : AreOutsT w v zs) (hb : Below w.heap.size w w') : AreOutsT w' v zs := ⟨h.1.below hb, fun z hz => (h.2 z hz).below hb⟩
theorem InsOf.below {w w' : World} {v : Value} {l : List InP} (h : InsOf w v l) (hb : Below w.heap.size w w') : InsOf w' v l := by obtain ⟨zs, e, h⟩ := h; exact ⟨zs, e, h.below hb⟩
theorem OutsOf.below {w w' : World} {v : Value} {l : List (Int × List UInt8)} (h : OutsOf w v l) (hb : Below w.heap.size w w') : OutsOf w' v l := by obtain ⟨zs, e, h⟩ := h; exact ⟨zs, e, h.below hb⟩
theorem InsOf.sl {w : World} {v : Value} {l : List InP} (h : InsOf w v l) : SliceV v := by obtain ⟨zs, e, h⟩ := h; exact h.1.sl
theorem OutsOf.sl {w : World} {v : Value} {l : List (Int × List UInt8)} (h : OutsOf w v l) : SliceV v := by obtain ⟨zs, e, h⟩ := h; exact h.1.sl
theorem AreOutsT.outs {w : World} {v : Value} {zs : List ((Int × List UInt8) × Value)} (h : AreOutsT w v zs) : AreOuts w v (zs.map fun z => (z.1.1, z.2)) := by
  obtain ⟨⟨⟨ao, c, rfl, _, _, hj⟩, _⟩, hv⟩ := h
  refine ⟨ao, c, by simp, fun k s hs => ?_⟩
  rw [List.getElem?_map] at hs
  cases hz : zs[k]? with
  | none => rw [hz] at hs; cases hs
  | some z =>
    rw [hz] at hs
    simp only [Option.map_some, Option.some.injEq] at hs
    subst hs
    obtain ⟨a, ha, hc⟩ := hj k (outR z) (by rw [List.getElem?_map, hz]; rfl)
    exact ⟨(hv z (List.mem_of_getElem? hz)).sl.one, a, ha, fun j u hu => hc j u hu⟩
/-- of one's own, from a block on -/
def OwnIns (w : World) (b : Nat) (v : Value) (l : List InP) : Prop := ∃ zs : List (InP × Value), zs.map Prod.fst = l ∧ OwnR 35 62 w b v (zs.map inR) ∧ ∀ z ∈ zs, OwnB w b z.2 z.1.unlock
def OwnOuts (w : World) (b : Nat) (v : Value) (l : List (Int × List UInt8)) : Prop := ∃ zs : List ((Int × List UInt8) × Value), zs.map Prod.fst = l ∧ OwnR 2 64 w b v (zs.map outR) ∧ ∀ z ∈ zs, OwnB w b z.2 z.1.2
theorem OwnIns.of {w : World} {b : Nat} {v : Value} {l : List InP} (h : OwnIns w b v l) : InsOf w v l := by obtain ⟨zs, e, h1, h2⟩ := h; exact ⟨zs, e, h1.rows, fun z hz => (h2 z hz).vals⟩
theorem OwnOuts.of {w : World} {b : Nat} {v : Value} {l : List (Int × List UInt8)} (h : OwnOuts w b v l) : OutsOf w v l := by obtain ⟨zs, e, h1, h2⟩ := h; exact ⟨zs, e, h1.rows, fun z hz => (h2 z hz).vals⟩
theorem OwnIns.below {w w' : World} {b : Nat} {v : Value} {l : List InP} (h : OwnIns w b v l) (hb : Below w.heap.size w w') : OwnIns w' b v l := by obtain ⟨zs, e, h1, h2⟩ := h; exact ⟨zs, e, h1.below hb, fun z hz => (h2 z hz).below hb⟩
theorem OwnOuts.below {w w' : World} {b : Nat} {v : Value} {l : List (Int × List UInt8)} (h : OwnOuts w b v l) (hb : Below w.heap.size w w') : OwnOuts w' b v l := by obtain ⟨zs, e, h1, h2⟩ := h; exact ⟨zs, e, h1.below hb, fun z hz => (h2 z hz).below hb⟩
theorem OwnIns.less {w : World} {b b' : Nat} {v : Value} {l : List InP} (hb : b' ≤ b) (h : OwnIns w b v l) : OwnIns w b' v l := by obtain ⟨zs, e, h1, h2⟩ := h; exact ⟨zs, e, h1.less hb, fun z hz => own_less hb (h2 z hz)⟩
theorem OwnOuts.less {w : World} {b b' : Nat} {v : Value} {l : List (Int × List UInt8)} (hb : b' ≤ b) (h : OwnOuts w b v l) : OwnOuts w b' v l := by obtain ⟨zs, e, h1, h2⟩ := h; exact ⟨zs, e, h1.less hb, fun z hz => own_less hb (h2 z hz)⟩
theorem ownIns_nil (w : World) (b : Nat) : OwnIns w b (.slice none 0 0) [] := ⟨[], rfl, ownR_nil _ _ _ _, fun z hz => by cases hz⟩
theorem ownOuts_nil (w : World) (b : Nat) : OwnOuts w b (.slice none 0 0) [] := ⟨[], rfl, ownR_nil _ _ _ _, fun z hz => by cases hz⟩
/-- what lies from block b on is as it was -/
structure Over (b : Nat) (w w' : World) : Prop where
  size : w.heap.size ≤ w'.heap.size
  block : ∀ k, b ≤ k → k < w.heap.size → w'.heap[k]? = w.heap[k]?
theorem over_wrote {g b : Nat} {w w' : World} (h : Wrote g w w') (hg : g < b) : Over b w w' := ⟨Nat.le_of_eq h.size.symm, fun k hk _ => h.other k (by omega)⟩
theorem over_exc {g b : Nat} {w w' : World} (h : Exc g w w') (hg : g < b) : Over b w w' := ⟨h.size, fun k hk hl => by have h' : w.grownBy w' (some g) := h; exact h'.block k hl (fun e => by cases e; omega)⟩
theorem ownsRow_over {w w' : World} {b : Nat} {e : TypeId} {size : Nat} {v : Value} {n : Nat} {xs : List Value} (h : w.ownsRow b e size v n xs) (hb : Over b w w') : w'.ownsRow b e size v n xs := by
  refine ⟨h.1, ?_⟩
  rcases h.2 with hn | ⟨g, cap, cur, rfl, hbg, hg, rest⟩
  · exact .inl hn
  · exact .inr ⟨g, cap, cur, rfl, hbg, by rw [hb.block g hbg (Array.getElem?_eq_some_iff.1 hg).1]; exact hg, rest⟩
theorem OwnB.over {w w' : World} {b : Nat} {v : Value} {l : List UInt8} (h : OwnB w b v l) (hb : Over b w w') : OwnB w' b v l := ownsRow_over h hb
theorem OwnR.over {n : Nat} {E : TypeId} {w w' : World} {b : Nat} {v : Value} {L : List (List Value)} (h : OwnR n E w b v L) (hb : Over b w w') : OwnR n E w' b v L := ⟨ownsRow_over h.1 hb, h.2⟩
theorem OwnIns.over {w w' : World} {b : Nat} {v : Value} {l : List InP} (h : OwnIns w b v l) (hb : Over b w w') : OwnIns w' b v l := by obtain ⟨zs, e, h1, h2⟩ := h; exact ⟨zs, e, h1.over hb, fun z hz => (h2 z hz).over hb⟩
theorem OwnOuts.over {w w' : World} {b : Nat} {v : Value} {l : List (Int × List UInt8)} (h : OwnOuts w b v l) (hb : Over b w w') : OwnOuts w' b v l := by obtain ⟨zs, e, h1, h2⟩ := h; exact ⟨zs, e, h1.over hb, fun z hz => (h2 z hz).over hb⟩
/-- bytes of one's own, where a row of another kind has grown -/
theorem ownB_grown {n : Nat} {E : TypeId} {w w' : World} {b b' : Nat} {v u : Value} {l : List UInt8} {L : List (List Value)} (h : OwnB w b u l) (ho : OwnR n E w b' v L) (hE : E ≠ 5) (hg : w.grownBy w' v.ownBlock) : OwnB w' b u l := by
  refine ⟨h.1, ?_⟩
  rcases h.2 with hn | ⟨k, cap, cur, rfl, hb, hk, rest⟩
  · exact .inl hn
  · refine .inr ⟨k, cap, cur, rfl, hb, ?_, rest⟩
    rw [hg.block k (Array.getElem?_eq_some_iff.1 hk).1 ?_]
    · exact hk
    · intro e
      rcases ho.1.2 with ⟨rfl, _⟩ | ⟨g, cap', cur', rfl, _, hg', _⟩
      · simp [Value.ownBlock] at e
      · simp only [Value.ownBlock, Option.some.injEq] at e
        subst e
        rw [hg'] at hk
        simp only [Option.some.injEq, Obj.cells.injEq] at hk
        exact hE hk.2.1
theorem row_app {w w' : World} {b g : Nat} {v : Value} {l : List UInt8} {T : TypeId} {cs : Array Value} (h : OwnB w b v l) (hr : Row w g T cs) (hT : T ≠ 5) (hg : w.grownBy w' v.ownBlock) : Row w' g T cs := by
  unfold Row at *
  rw [hg.block g (Array.getElem?_eq_some_iff.1 hr).1 ?_]
  · exact hr
  · intro e
    rcases h.2 with ⟨rfl, _⟩ | ⟨k, cap, cur, rfl, _, hk, _⟩
    · simp [Value.ownBlock] at e
    · simp only [Value.ownBlock, Option.some.injEq] at e
      subst e
      rw [hr] at hk
      simp only [Option.some.injEq, Obj.cells.injEq] at hk
      exact hT hk.2.1
/-- a reader, where nothing below has turned -/
theorem Rd.under {Lm : Nat} {T : TypeId} {w w' : World} {g B : Nat} {s : Scn} (h : Rd Lm T w g s) (hB : Below B w w') (hg : g < B) (hL : Lm ≤ B) : Rd Lm T w' g s := by
  obtain ⟨v, h1, h2, h3⟩ := h
  refine ⟨v, h1.below hB hg, ?_, h3⟩
  obtain ⟨ao, c, rfl, hc, hn, hj⟩ := h2
  refine ⟨ao, c, rfl, hc, hn, fun j u hu => ?_⟩
  obtain ⟨a, rfl, hcell⟩ := hj j u hu
  refine ⟨a, rfl, ?_⟩
  have hlm : a.block < Lm := h3 (fun e => by rw [e] at hu; simp at hu) a.block rfl
  have hblk : (a.add j).block = a.block := by unfold Addr.add; split <;> rfl
  rw [World.cell?_of_block (w := w) (by rw [hblk]; exact hB.block _ (by omega))]
  exact hcell
section
variable {ops : Array Oper} {Q : Exit → Act → World → Prop} {rest : List Oper} {o : Oper} {a : Act} {w : World}
theorem kLoadIn (x : Operand) (g : Nat) (i : InP) (u : Value) (hr : Row w g 62 (inC i u)) (ho : o.op = .load 62 x) (hg : Region.wanted o (yielded ops a.tmps) = true) (hx : a.eval x = .pointer (some ⟨g, 0, none⟩)) (h : wpList Tryz.prog ops Q rest (a.put o.dst (.agg (inC i u))) w) : wpList Tryz.prog ops Q (o :: rest) a w :=
  kLoadRow _ _ _ g _ _ ho hg hx hr Tryz.underlying62 rfl (info_InS _ _) h
theorem kLoadTx (x : Operand) (g : Nat) (n e : Nat) (u v : Value) (hr : Row w g 34 (txC n u v e)) (ho : o.op = .load 34 x) (hg : Region.wanted o (yielded ops a.tmps) = true) (hx : a.eval x = .pointer (some ⟨g, 0, none⟩)) (h : wpList Tryz.prog ops Q rest (a.put o.dst (.agg (txC n u v e))) w) : wpList Tryz.prog ops Q (o :: rest) a w :=
  kLoadRow _ _ _ g _ _ ho hg hx hr Tryz.underlying34 rfl info_TxC h
theorem kLoadInRef (x : Operand) (g : Nat) (i : InP) (u : Value) (hr : Row w g 62 (inC i u)) (ho : o.op = .load 60 x) (hg : Region.wanted o (yielded ops a.tmps) = true) (hx : a.eval x = .pointer (some ⟨g, 0, none⟩)) (h : wpList Tryz.prog ops Q rest (a.put o.dst (.agg (refC i.id i.at'))) w) : wpList Tryz.prog ops Q (o :: rest) a w :=
  kLoadAs _ _ _ g 0 33 _ _ _ ho hg hx hr Tryz.underlying60 rfl info_RefC (by rw [inC_size]; decide) (inC_ref _ _) h
theorem kStoreIn (x y : Operand) (g : Nat) (i : InP) (u : Value) (cs : Array Value) (hr : Row w g 62 cs) (hc : cs.size = 35) (hu : u.oneCell' = true) (ho : o.op = .store 62 x y) (hg : Region.wanted o (yielded ops a.tmps) = true) (hx : a.eval x = .pointer (some ⟨g, 0, none⟩)) (hy : a.eval y = .agg (inC i u)) (h : ∀ w1, Row w1 g 62 (inC i u) → Wrote g w w1 → wpList Tryz.prog ops Q rest (a.put o.dst undef) w1) : wpList Tryz.prog ops Q (o :: rest) a w :=
  kStoreRow _ _ _ _ g _ _ ho hg hx hy hr (info_InS _ _) (by rw [hc, inC_size]) (inC_one i hu) h
theorem kStoreTx (x y : Operand) (g : Nat) (n e : Nat) (u v : Value) (cs : Array Value) (hr : Row w g 34 cs) (hc : cs.size = 4) (hu : u.oneCell' = true) (hv : v.oneCell' = true) (ho : o.op = .store 34 x y) (hg : Region.wanted o (yielded ops a.tmps) = true) (hx : a.eval x = .pointer (some ⟨g, 0, none⟩)) (hy : a.eval y = .agg (txC n u v e)) (h : ∀ w1, Row w1 g 34 (txC n u v e) → Wrote g w w1 → wpList Tryz.prog ops Q rest (a.put o.dst undef) w1) : wpList Tryz.prog ops Q (o :: rest) a w :=
  kStoreRow _ _ _ _ g _ _ ho hg hx hy hr info_TxC (by rw [hc]; rfl) (txC_one n e hu hv) h
theorem kLenIns (x : Operand) (v : Value) (zs : List (InP × Value)) (m : Nat) (hv : AreIns w v zs) (hm : zs.length = m) (ho : o.op = .call { callee := .builtin .len, args := #[x], argTypes := #[31] }) (hg : Region.wanted o (yielded ops a.tmps) = true) (hx : a.eval x = v) (h : wpList Tryz.prog ops Q rest (a.put o.dst (.int .i64 (m : Int))) w) : wpList Tryz.prog ops Q (o :: rest) a w :=
  kLenRows (n := 35) Tryz.underlying31 x v _ m hv.1 (by rw [List.length_map]; exact hm) ho hg hx h
theorem kLenOutsT (x : Operand) (v : Value) (zs : List ((Int × List UInt8) × Value)) (m : Nat) (hv : AreOutsT w v zs) (hm : zs.length = m) (ho : o.op = .call { callee := .builtin .len, args := #[x], argTypes := #[32] }) (hg : Region.wanted o (yielded ops a.tmps) = true) (hx : a.eval x = v) (h : wpList Tryz.prog ops Q rest (a.put o.dst (.int .i64 (m : Int))) w) : wpList Tryz.prog ops Q (o :: rest) a w :=
  kLenRows (n := 2) Tryz.underlying32 x v _ m hv.1 (by rw [List.length_map]; exact hm) ho hg hx h
theorem kIndexIn (x y : Operand) (v : Value) (zs : List (InP × Value)) (k : Nat) (z : InP × Value) (hv : AreIns w v zs) (hz : zs[k]? = some z) (ho : o.op = .indexAddr 31 x y) (hg : Region.wanted o (yielded ops a.tmps) = true) (hx : a.eval x = v) (hy : a.eval y = .int .i64 (k : Int))
    (h : ∀ b : Addr, (∀ (j : Nat) (u : Value), (inR z)[j]? = some u → w.cell? (b.add j) = some u) → wpList Tryz.prog ops Q rest (a.put o.dst (.pointer (some b))) w) : wpList Tryz.prog ops Q (o :: rest) a w :=
  kIndexRows Tryz.underlying31 info_InC x y v _ k (inR z) hv.1 (by rw [List.getElem?_map, hz]; rfl) ho hg hx hy h
theorem kIndexOutT (x y : Operand) (v : Value) (zs : List ((Int × List UInt8) × Value)) (k : Nat) (z : (Int × List UInt8) × Value) (hv : AreOutsT w v zs) (hz : zs[k]? = some z) (ho : o.op = .indexAddr 32 x y) (hg : Region.wanted o (yielded ops a.tmps) = true) (hx : a.eval x = v) (hy : a.eval y = .int .i64 (k : Int))
    (h : ∀ b : Addr, (∀ (j : Nat) (u : Value), (outR z)[j]? = some u → w.cell? (b.add j) = some u) → wpList Tryz.prog ops Q rest (a.put o.dst (.pointer (some b))) w) : wpList Tryz.prog ops Q (o :: rest) a w :=
  kIndexRows Tryz.underlying32 info_OutC x y v _ k (outR z) hv.1 (by rw [List.getElem?_map, hz]; rfl) ho hg hx hy h
theorem kLoadInAt (x : Operand) (b : Addr) (i : InP) (u : Value) (hb : ∀ (j : Nat) (t : Value), (inR (i, u))[j]? = some t → w.cell? (b.add j) = some t) (ho : o.op = .load 62 x) (hg : Region.wanted o (yielded ops a.tmps) = true) (hx : a.eval x = .pointer (some b)) (h : wpList Tryz.prog ops Q rest (a.put o.dst (.agg (inC i u))) w) : wpList Tryz.prog ops Q (o :: rest) a w :=
  kLoadRowAt Tryz.underlying62 rfl info_InC x b _ (inR_len _) hb ho hg hx h
theorem kLoadOutT (x : Operand) (b : Addr) (n : Int) (l : List UInt8) (u : Value) (hb : ∀ (j : Nat) (t : Value), (outR ((n, l), u))[j]? = some t → w.cell? (b.add j) = some t) (ho : o.op = .load 64 x) (hg : Region.wanted o (yielded ops a.tmps) = true) (hx : a.eval x = .pointer (some b)) (h : wpList Tryz.prog ops Q rest (a.put o.dst (.agg (outC n u))) w) : wpList Tryz.prog ops Q (o :: rest) a w :=
  kLoadRowAt Tryz.underlying64 rfl info_OutC x b _ (outR_len _) hb ho hg hx h
/-- one row as a slice -/
theorem kBuildIn1 (x0 : Operand) (i : InP) (u : Value) (hu : SliceV u) (ho : o.op = .buildSlice 31 1 #[(0, x0)]) (hg : Region.wanted o (yielded ops a.tmps) = true) (hx0 : a.eval x0 = .agg (inC i u))
    (h : ∀ w1, Row w1 w.heap.size 62 (inC i u) → w.heap.size < w1.heap.size → Below w.heap.size w w1 → wpList Tryz.prog ops Q rest (a.put o.dst (.slice (some ⟨w.heap.size, 0, none⟩) 1 1)) w1) : wpList Tryz.prog ops Q (o :: rest) a w := by
  refine BigFrame.wpList_want hg fun K hK => ?_
  unfold Oper.wp execOp
  simp only [ho, List.map_toArray, List.map_cons, List.map_nil, hx0, Sem.run_bind, built_ins1 hu i w, Result.andThen_ok, Sem.run_pure]
  exact hK _ _ (h _ (heap_alloc_new w _) (by simp) ((Below.refl _ _).alloc (Nat.le_refl _) _))
theorem kBuildOut1T (x0 : Operand) (n : Int) (l : List UInt8) (u : Value) (hu : SliceV u) (ho : o.op = .buildSlice 32 1 #[(0, x0)]) (hg : Region.wanted o (yielded ops a.tmps) = true) (hx0 : a.eval x0 = .agg (outC n u))
    (h : ∀ w1, Row w1 w.heap.size 64 (outR ((n, l), u)).toArray → w.heap.size < w1.heap.size → Below w.heap.size w w1 → wpList Tryz.prog ops Q rest (a.put o.dst (.slice (some ⟨w.heap.size, 0, none⟩) 1 1)) w1) : wpList Tryz.prog ops Q (o :: rest) a w := by
  refine BigFrame.wpList_want hg fun K hK => ?_
  unfold Oper.wp execOp
  simp only [ho, List.map_toArray, List.map_cons, List.map_nil, hx0, Sem.run_bind, built_outs1 hu n w, Result.andThen_ok, Sem.run_pure]
  exact hK _ _ (h _ (heap_alloc_new w _) (by simp) ((Below.refl _ _).alloc (Nat.le_refl _) _))
/-- append to bytes of one's own: no other row turns -/
theorem kAppBg (s x : Operand) (ho : o.op = .call { callee := .builtin .append, args := #[s, x], argTypes := #[38, 38] }) (hg : o.guard = none) (base : Nat) (v y : Value) (xs news : List UInt8) (hown : OwnB w base v xs) (hy : IsVals w y (news.map VB)) (hs : a.eval s = v) (hx : a.eval x = y)
    (hlen : xs.length + news.length ≤ 1000000000) (hbase : base ≤ w.heap.size)
    (h : ∀ v' w', OwnB w' base v' (xs ++ news) → Below base w w' → w.grownBy w' v.ownBlock → wpList Tryz.prog ops Q rest (a.put o.dst v') w') : wpList Tryz.prog ops Q (o :: rest) a w := by
  obtain ⟨i, hi, hz, hsize, hby⟩ := b8Info
  refine kAppend s x _ _ ho hg base i _ Tryz.underlying38 hi hz hsize rfl v y (xs.map VB) (news.map VB) hs hown hx hy (vbs_one _) (by simp [maxLen]; omega) (by rw [hby]; simp; omega) hbase fun v' w' h1 h2 => ?_
  rw [← List.map_append] at h1
  exact h v' w' h1 (below_grown hown h2 hbase) h2
/-- inputs are appended to inputs of one's own -/
theorem kAppIns (s x : Operand) (ho : o.op = .call { callee := .builtin .append, args := #[s, x], argTypes := #[31, 31] }) (hg : o.guard = none) (base : Nat) (v y : Value) (L M : List (InP × Value)) (hs : a.eval s = v) (hown : OwnR 35 62 w base v (L.map inR)) (hx : a.eval x = y) (hy : IsRows 35 w y (M.map inR)) (h1 : ∀ z ∈ M, z.2.oneCell' = true) (hlen : L.length + M.length ≤ 1000000000) (hbase : base ≤ w.heap.size)
    (h : ∀ v' w', OwnR 35 62 w' base v' ((L ++ M).map inR) → Below base w w' → w.grownBy w' v.ownBlock → wpList Tryz.prog ops Q rest (a.put o.dst v') w') : wpList Tryz.prog ops Q (o :: rest) a w := by
  obtain ⟨j, z, e1, e2, e3, e4, e5⟩ := rowInfo insInfo0
  refine kAppendRows (n := 35) s x ho hg base j z Tryz.underlying31 e1 e2 e3 e4 (by decide) v y _ _ hs hown hx hy (fun r hr u hu => ?_) (by simp [maxLen]; omega) (by rw [e5]; simp; omega) hbase (fun v' w' h1 h2 h3 => h v' w' (by rw [List.map_append]; exact h1) h2 h3)
  obtain ⟨z, hz, rfl⟩ := List.mem_map.1 hr
  exact inC_one z.1 (h1 z hz) u (by simpa [inC] using hu)
theorem kAppOuts (s x : Operand) (ho : o.op = .call { callee := .builtin .append, args := #[s, x], argTypes := #[32, 32] }) (hg : o.guard = none) (base : Nat) (v y : Value) (L M : List ((Int × List UInt8) × Value)) (hs : a.eval s = v) (hown : OwnR 2 64 w base v (L.map outR)) (hx : a.eval x = y) (hy : IsRows 2 w y (M.map outR)) (h1 : ∀ z ∈ M, z.2.oneCell' = true) (hlen : L.length + M.length ≤ 1000000000) (hbase : base ≤ w.heap.size)
    (h : ∀ v' w', OwnR 2 64 w' base v' ((L ++ M).map outR) → Below base w w' → w.grownBy w' v.ownBlock → wpList Tryz.prog ops Q rest (a.put o.dst v') w') : wpList Tryz.prog ops Q (o :: rest) a w := by
  obtain ⟨j, z, e1, e2, e3, e4, e5⟩ := rowInfo outInfo0
  refine kAppendRows (n := 2) s x ho hg base j z Tryz.underlying32 e1 e2 e3 e4 (by decide) v y _ _ hs hown hx hy (fun r hr u hu => ?_) (by simp [maxLen]; omega) (by rw [e5]; simp; omega) hbase (fun v' w' h1 h2 h3 => h v' w' (by rw [List.map_append]; exact h1) h2 h3)
  obtain ⟨z, hz, rfl⟩ := List.mem_map.1 hr
  simp only [outR, List.mem_cons, List.not_mem_nil, or_false] at hu
  rcases hu with rfl | rfl
  · rfl
  · exact h1 z hz
end
end Go.Proofs.YtmfjgehlkbndjaaGreatDoor
