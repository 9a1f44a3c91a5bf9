/-
  Layer 10: inputs and transactions as cells; slices of inputs and of outputs; what keeps them.
-/
import Derived.Test.YtdeggdmoijfhdaaDoorTxPlain
import Derived.Test.YtdeggdmoijfhdaaDoorKitRows
import Derived.Test.YtdeggdmoijfhdaaDoorCoWrite
import Derived.Test.YtdeggdmoijfhdaaDoorCoRead
namespace Go.Proofs.YtdeggdmoijfhdaaDoor
open Go Go.RowKit

/-- a value that is a slice -/
def SliceV (v : Value) : Prop := ∃ ao n c, v = .slice ao n c
theorem SliceV.one {v : Value} (h : SliceV v) : v.oneCell' = true := by obtain ⟨ao, n, c, rfl⟩ := h; rfl
theorem IsVals.sl {w : World} {v : Value} {l : List Value} (h : IsVals w v l) : SliceV v := by obtain ⟨ao, c, rfl, _⟩ := h; exact ⟨_, _, _, rfl⟩
theorem IsRows.sl {n : Nat} {w : World} {v : Value} {l : List (List Value)} (h : IsRows n w v l) : SliceV v := by obtain ⟨⟨ao, c, rfl, _⟩, _⟩ := h; exact ⟨_, _, _, rfl⟩
def inR (z : InP × Value) : List Value := (List.range 32).map (fun p => VB (at8 z.1.id p)) ++ [Value.int .u32 (z.1.at' : Int), z.2, .int .u32 (z.1.order : Int)]
def inC (i : InP) (u : Value) : Array Value := (inR (i, u)).toArray
def outR (z : (Int × List UInt8) × Value) : List Value := [Value.int .i64 z.1.1, z.2]
def txC (n : Nat) (a b : Value) (e : Nat) : Array Value := #[.int .u32 (n : Int), a, b, .int .u32 (e : Int)]
theorem inR_len (z : InP × Value) : (inR z).length = 35 := by simp [inR]
theorem inC_size (i : InP) (u : Value) : (inC i u).size = 35 := by simp [inC, inR]
theorem outR_len (z : (Int × List UInt8) × Value) : (outR z).length = 2 := rfl
theorem inC_33 (i : InP) (u : Value) : (inC i u)[33]? = some u := by simp [inC, inR]
theorem inC_34 (i : InP) (u : Value) : (inC i u)[34]? = some (.int .u32 (i.order : Int)) := by simp [inC, inR]
theorem inC_ref (i : InP) (u : Value) : (inC i u).extract 0 (0 + 33) = refC i.id i.at' := by
  simp only [inC, inR, refC, List.extract_toArray, List.extract_eq_take_drop]
  simp [List.take_append]
  rw [List.take_of_length_le (by simp)]
theorem inC_put (i : InP) (u v : Value) (l : List UInt8) : (inC i u).setIfInBounds 33 v = inC ⟨i.id, i.at', l, i.order⟩ v := by
  simp [inC, inR]
theorem inC_order (i : InP) (u : Value) (n : Nat) : (inC i u).setIfInBounds 34 (.int .u32 (n : Int)) = inC ⟨i.id, i.at', i.unlock, n⟩ u := by
  simp [inC, inR]
theorem inR_put (i : InP) (u v : Value) (l : List UInt8) : (inR (i, u)).set 33 v = inR (⟨i.id, i.at', l, i.order⟩, v) := by
  simp [inR]
theorem inC_one (i : InP) {u : Value} (hu : u.oneCell' = true) : ∀ v ∈ inC i u, v.oneCell' = true := by
  intro v hv
  simp only [inC, inR, List.mem_toArray, List.mem_append, List.mem_map, List.mem_cons, List.not_mem_nil, or_false] at hv
  rcases hv with ⟨j, -, rfl⟩ | rfl | rfl | rfl
  · rfl
  · rfl
  · exact hu
  · rfl
theorem txC_one (n e : Nat) {a b : Value} (ha : a.oneCell' = true) (hb : b.oneCell' = true) : ∀ v ∈ txC n a b e, v.oneCell' = true := by
  intro v hv
  simp [txC] at hv
  rcases hv with rfl | rfl | rfl | rfl
  · rfl
  · exact ha
  · exact hb
  · rfl
def in0 : InP := ⟨z32, 0, [], 0⟩
theorem inC_z0 : inC in0 (.slice none 0 0) = ((List.range 32).map (fun _ => VB 0) ++ [Value.int .u32 0, .slice none 0 0, .int .u32 0]).toArray := by
  unfold inC inR in0
  rw [List.map_congr_left (g := fun _ => VB 0) fun j hj => by rw [at_z32 j (List.mem_range.1 hj)]]; rfl
theorem refC_zn (n : Nat) : refC z32 n = ((List.range 32).map (fun _ => VB 0) ++ [Value.int .u32 (n : Int)]).toArray := by
  unfold refC
  rw [List.map_congr_left (g := fun _ => VB 0) fun j hj => by rw [at_z32 j (List.mem_range.1 hj)]]
theorem rowInfo {T : TypeId} {cs : Array Value} {n b : Nat} (h : (Tryd.prog.info? T).map (fun i => (i.zero.map Value.cells, i.size, i.bytes)) = some (some cs, n, b)) : ∃ i z, Tryd.prog.info? T = some i ∧ i.zero = some z ∧ i.size = n ∧ z.cells.size = cs.size ∧ i.bytes = b := by
  cases hq : Tryd.prog.info? T with
  | none => rw [hq] at h; cases h
  | some i =>
    rw [hq] at h
    simp only [Option.map_some, Option.some.injEq, Prod.mk.injEq] at h
    obtain ⟨h1, h2, h3⟩ := h
    cases hz : i.zero with
    | none => rw [hz] at h1; cases h1
    | some z => rw [hz] at h1; simp only [Option.map_some, Option.some.injEq] at h1; exact ⟨i, z, rfl, hz, h2, by rw [h1], h3⟩
/-! slices of inputs and of outputs -/
def AreIns (w : World) (v : Value) (zs : List (InP × Value)) : Prop := IsRows 35 w v (zs.map inR) ∧ ∀ z ∈ zs, IsVals w z.2 (z.1.unlock.map VB)
def AreOutsT (w : World) (v : Value) (zs : List ((Int × List UInt8) × Value)) : Prop := IsRows 2 w v (zs.map outR) ∧ ∀ z ∈ zs, IsVals w z.2 (z.1.2.map VB)
def InsOf (w : World) (v : Value) (l : List InP) : Prop := ∃ zs : List (InP × Value), zs.map Prod.fst = l ∧ AreIns w v zs
def OutsOf (w : World) (v : Value) (l : List (Int × List UInt8)) : Prop := ∃ zs : List ((Int × List UInt8) × Value), zs.map Prod.fst = l ∧ AreOutsT w v zs
theorem AreIns.below {w w' : World} {v : Value} {zs : List (InP × Value)} (h : AreIns w v zs) (hb : Below w.heap.size w w') : AreIns w' v zs := ⟨h.1.below hb, fun z hz => (h.2 z hz).below hb⟩
theorem AreOutsT.below {w w' : World} {v : Value} {zs : List ((Int × List UInt8) × Value)} (h : AreOutsT w v zs) (hb : Below w.heap.size w w') : AreOutsT w' v zs := ⟨h.1.below hb, fun z hz => (h.2 z hz).below hb⟩
theorem InsOf.below {w w' : World} {v : Value} {l : List InP} (h : InsOf w v l) (hb : Below w.heap.size w w') : InsOf w' v l := by obtain ⟨zs, e, h⟩ := h; exact ⟨zs, e, h.below hb⟩
theorem OutsOf.below {w w' : World} {v : Value} {l : List (Int × List UInt8)} (h : OutsOf w v l) (hb : Below w.heap.size w w') : OutsOf w' v l := by obtain ⟨zs, e, h⟩ := h; exact ⟨zs, e, h.below hb⟩
theorem InsOf.sl {w : World} {v : Value} {l : List InP} (h : InsOf w v l) : SliceV v := by obtain ⟨zs, e, h⟩ := h; exact h.1.sl
theorem OutsOf.sl {w : World} {v : Value} {l : List (Int × List UInt8)} (h : OutsOf w v l) : SliceV v := by obtain ⟨zs, e, h⟩ := h; exact h.1.sl
theorem insOf_nil (w : World) : InsOf w (.slice none 0 0) [] := ⟨[], rfl, isRows_nil _ _, fun z hz => by cases hz⟩
theorem outsOf_nil (w : World) : OutsOf w (.slice none 0 0) [] := ⟨[], rfl, isRows_nil _ _, fun z hz => by cases hz⟩
theorem AreOutsT.outs {w : World} {v : Value} {zs : List ((Int × List UInt8) × Value)} (h : AreOutsT w v zs) : AreOuts w v (zs.map fun z => (z.1.1, z.2)) := by
  obtain ⟨⟨⟨ao, c, rfl, _, _, hj⟩, _⟩, hv⟩ := h
  refine ⟨ao, c, by simp, fun k s hs => ?_⟩
  rw [List.getElem?_map] at hs
  cases hz : zs[k]? with
  | none => rw [hz] at hs; cases hs
  | some z =>
    rw [hz] at hs
    simp only [Option.map_some, Option.some.injEq] at hs
    subst hs
    obtain ⟨a, ha, hc⟩ := hj k (outR z) (by rw [List.getElem?_map, hz]; rfl)
    exact ⟨(hv z (List.mem_of_getElem? hz)).sl.one, a, ha, fun j u hu => hc j u hu⟩
/-- what lies from block b on is as it was -/
structure Over (b : Nat) (w w' : World) : Prop where
  size : w.heap.size ≤ w'.heap.size
  block : ∀ k, b ≤ k → k < w.heap.size → w'.heap[k]? = w.heap[k]?
theorem over_wrote {g b : Nat} {w w' : World} (h : Wrote g w w') (hg : g < b) : Over b w w' := ⟨Nat.le_of_eq h.size.symm, fun k hk _ => h.other k (by omega)⟩
theorem over_exc {g b : Nat} {w w' : World} (h : Exc g w w') (hg : g < b) : Over b w w' := ⟨h.size, fun k hk hl => by have h' : w.grownBy w' (some g) := h; exact h'.block k hl (fun e => by cases e; omega)⟩
theorem ownsRow_over {w w' : World} {b : Nat} {e : TypeId} {size : Nat} {v : Value} {n : Nat} {xs : List Value} (h : w.ownsRow b e size v n xs) (hb : Over b w w') : w'.ownsRow b e size v n xs := by
  refine ⟨h.1, ?_⟩
  rcases h.2 with hn | ⟨g, cap, cur, rfl, hbg, hg, rest⟩
  · exact .inl hn
  · exact .inr ⟨g, cap, cur, rfl, hbg, by rw [hb.block g hbg (Array.getElem?_eq_some_iff.1 hg).1]; exact hg, rest⟩
theorem OwnB.over {w w' : World} {b : Nat} {v : Value} {l : List UInt8} (h : OwnB w b v l) (hb : Over b w w') : OwnB w' b v l := ownsRow_over h hb
theorem OwnR.over {n : Nat} {E : TypeId} {w w' : World} {b : Nat} {v : Value} {L : List (List Value)} (h : OwnR n E w b v L) (hb : Over b w w') : OwnR n E w' b v L := ⟨ownsRow_over h.1 hb, h.2⟩
/-- bytes of one's own, where a row of another kind has grown -/
theorem ownB_grown {n : Nat} {E : TypeId} {w w' : World} {b b' : Nat} {v u : Value} {l : List UInt8} {L : List (List Value)} (h : OwnB w b u l) (ho : OwnR n E w b' v L) (hE : E ≠ 5) (hg : w.grownBy w' v.ownBlock) : OwnB w' b u l := by
  refine ⟨h.1, ?_⟩
  rcases h.2 with hn | ⟨k, cap, cur, rfl, hb, hk, rest⟩
  · exact .inl hn
  · refine .inr ⟨k, cap, cur, rfl, hb, ?_, rest⟩
    rw [hg.block k (Array.getElem?_eq_some_iff.1 hk).1 ?_]
    · exact hk
    · intro e
      rcases ho.1.2 with ⟨rfl, _⟩ | ⟨g, cap', cur', rfl, _, hg', _⟩
      · simp [Value.ownBlock] at e
      · simp only [Value.ownBlock, Option.some.injEq] at e
        subst e
        rw [hg'] at hk
        simp only [Option.some.injEq, Obj.cells.injEq] at hk
        exact hE hk.2.1
theorem row_app {w w' : World} {b g : Nat} {v : Value} {l : List UInt8} {T : TypeId} {cs : Array Value} (h : OwnB w b v l) (hr : Row w g T cs) (hT : T ≠ 5) (hg : w.grownBy w' v.ownBlock) : Row w' g T cs := by
  unfold Row at *
  rw [hg.block g (Array.getElem?_eq_some_iff.1 hr).1 ?_]
  · exact hr
  · intro e
    rcases h.2 with ⟨rfl, _⟩ | ⟨k, cap, cur, rfl, _, hk, _⟩
    · simp [Value.ownBlock] at e
    · simp only [Value.ownBlock, Option.some.injEq] at e
      subst e
      rw [hr] at hk
      simp only [Option.some.injEq, Obj.cells.injEq] at hk
      exact hT hk.2.1
/-- a reader, where nothing below has turned -/
theorem Rd.under {Lm : Nat} {T : TypeId} {w w' : World} {g B : Nat} {s : Scn} (h : Rd Lm T w g s) (hB : Below B w w') (hg : g < B) (hL : Lm ≤ B) : Rd Lm T w' g s := by
  obtain ⟨v, h1, h2, h3⟩ := h
  refine ⟨v, h1.below hB hg, ?_, h3⟩
  obtain ⟨ao, c, rfl, hc, hn, hj⟩ := h2
  refine ⟨ao, c, rfl, hc, hn, fun j u hu => ?_⟩
  obtain ⟨a, rfl, hcell⟩ := hj j u hu
  refine ⟨a, rfl, ?_⟩
  have hlm : a.block < Lm := h3 (fun e => by rw [e] at hu; simp at hu) a.block rfl
  have hblk : (a.add j).block = a.block := by unfold Addr.add; split <;> rfl
  rw [World.cell?_of_block (w := w) (by rw [hblk]; exact hB.block _ (by omega))]
  exact hcell
section
variable {ops : Array Oper} {Q : Exit → Act → World → Prop} {rest : List Oper} {o : Oper} {a : Act} {w : World}
/-- append to bytes of one's own: no other row turns -/
theorem kAppBg (s x : Operand) (ho : o.op = .call { callee := .builtin .append, args := #[s, x], argTypes := #[57, 57] }) (hg : o.guard = none) (base : Nat) (v y : Value) (xs news : List UInt8) (hown : OwnB w base v xs) (hy : IsVals w y (news.map VB)) (hs : a.eval s = v) (hx : a.eval x = y)
    (hlen : xs.length + news.length ≤ 1000000000) (hbase : base ≤ w.heap.size)
    (h : ∀ v' w', OwnB w' base v' (xs ++ news) → Below base w w' → w.grownBy w' v.ownBlock → wpList Tryd.prog ops Q rest (a.put o.dst v') w') : wpList Tryd.prog ops Q (o :: rest) a w := by
  obtain ⟨i, hi, hz, hsize, hby⟩ := b8Info
  refine kAppend s x _ _ ho hg base i _ Tryd.underlying57 hi hz hsize rfl v y (xs.map VB) (news.map VB) hs hown hx hy (vbs_one _) (by simp [maxLen]; omega) (by rw [hby]; simp; omega) hbase fun v' w' h1 h2 => ?_
  rw [← List.map_append] at h1
  exact h v' w' h1 (below_grown hown h2 hbase) h2
end
end Go.Proofs.YtdeggdmoijfhdaaDoor
