/-
  My kit, second part: slices of elements of one cell: what they read as; made, appended to, copied, cut; a slice of a call's own.
-/
import Derived.Test.YtajpdmcbdekpbaaDoorKit
import Derived.Laws.AppendOwnNone
namespace Go.Proofs.YtajpdmcbdekpbaaDoor
open Go Go.RowKit

/-- The value reads as a list of these cells. -/
def IsVals (w : World) (v : Value) (l : List Value) : Prop :=
  ∃ ao c, v = .slice ao l.length c ∧ l.length ≤ c ∧ (ao = none → c = 0) ∧ ∀ j u, l[j]? = some u → ∃ a, ao = some a ∧ w.cell? (a.add j) = some u

theorem IsVals.below {w w' : World} {v : Value} {l : List Value} (h : IsVals w v l) (hb : Below w.heap.size w w') : IsVals w' v l := by
  obtain ⟨ao, c, rfl, hc, hn, hj⟩ := h
  refine ⟨ao, c, rfl, hc, hn, fun j u hu => ?_⟩
  obtain ⟨a, rfl, hcell⟩ := hj j u hu
  exact ⟨a, rfl, by rw [hb.cell (block_lt_of_cell hcell)]; exact hcell⟩
theorem IsVals.wrote {w w' : World} {v : Value} {l : List Value} {g : Nat} (h : IsVals w v l) (hb : Wrote g w w') (hB : ∀ (j : Nat) (u : Value), l[j]? = some u → ∀ a, v.ownBlock = some a → a ≠ g) : IsVals w' v l := by
  obtain ⟨ao, c, rfl, hc, hn, hj⟩ := h
  refine ⟨ao, c, rfl, hc, hn, fun j u hu => ?_⟩
  obtain ⟨a, rfl, hcell⟩ := hj j u hu
  have hne : a.block ≠ g := hB j u hu a.block rfl
  have hblk : (a.add j).block = a.block := by unfold Addr.add; split <;> rfl
  exact ⟨a, rfl, by rw [World.cell?_of_block (w := w) (by rw [hblk]; exact hb.other _ hne)]; exact hcell⟩
theorem isVals_nil (w : World) : IsVals w (.slice none 0 0) [] := ⟨none, 0, rfl, Nat.le_refl _, fun _ => rfl, fun j u h => by simp at h⟩
theorem isVals_own {w : World} {base : Nat} {E : TypeId} {v : Value} {l : List Value} {n : Nat} (h : w.ownsRow base E 1 v n l) : IsVals w v l := by
  have hl : l.length = n := by have := h.1; omega
  rcases h.2 with ⟨rfl, rfl⟩ | ⟨g, cap, cur, rfl, _, hg, hnc, _, hcs, ht⟩
  · rw [List.length_eq_zero_iff.1 hl]; exact isVals_nil w
  · refine ⟨some ⟨g, 0, none⟩, cap, by rw [hl], by omega, (fun h => by cases h), fun j u hu => ⟨⟨g, 0, none⟩, rfl, ?_⟩⟩
    rw [add_none, Nat.zero_add, cell_of_row w g j cur E _ hg]
    have hj : j < l.length := (List.getElem?_eq_some_iff.1 hu).1
    rw [← ht] at hu
    rw [List.getElem?_take, if_pos (by omega)] at hu
    simpa using hu
theorem isVals_row {w : World} {g : Nat} {E : TypeId} {cs : Array Value} (h : Row w g E cs) (off n c : Nat) (hn : off + n ≤ cs.size) (hc : n ≤ c) : IsVals w (.slice (some ⟨g, off, none⟩) n c) (cs.extract off (off + n)).toList := by
  have hl : (cs.extract off (off + n)).toList.length = n := by simp; omega
  refine ⟨some ⟨g, off, none⟩, c, by rw [hl], by omega, (fun h => by cases h), fun j u hu => ⟨_, rfl, ?_⟩⟩
  have hj : j < n := by have := (List.getElem?_eq_some_iff.1 hu).1; omega
  rw [add_none, h.cell]
  have hu' : (cs.extract off (off + n))[j]? = some u := by rw [← Array.getElem?_toList]; exact hu
  rw [Array.getElem?_extract] at hu'
  split at hu'
  · exact hu'
  · cases hu'

theorem isVals_lit {w : World} {g : Nat} {E : TypeId} {l : List Value} (h : Row w g E l.toArray) : IsVals w (.slice (some ⟨g, 0, none⟩) l.length l.length) l := by
  have := isVals_row h 0 l.length l.length (by simp) (Nat.le_refl _)
  simpa using this
theorem ownsRow_below {w w' : World} {base : Nat} {e : TypeId} {size : Nat} {v : Value} {n : Nat} {xs : List Value} (h : w.ownsRow base e size v n xs) (hb : Below w.heap.size w w') : w'.ownsRow base e size v n xs := by
  refine ⟨h.1, ?_⟩
  rcases h.2 with hn | ⟨g, cap, cur, rfl, hbg, hg, rest⟩
  · exact .inl hn
  · exact .inr ⟨g, cap, cur, rfl, hbg, by rw [hb.block g (Array.getElem?_eq_some_iff.1 hg).1]; exact hg, rest⟩
theorem below_grown {w w' : World} {base : Nat} {e : TypeId} {size : Nat} {v : Value} {n : Nat} {xs : List Value} (h : w.ownsRow base e size v n xs) (hg : w.grownBy w' v.ownBlock) (hB : base ≤ w.heap.size) : Below base w w' :=
  (Below.refl _ _).grown hg hB (fun k hk => (h.lt k hk).1)

section
variable {P : Program} {ops : Array Oper} {Q : Exit → Act → World → Prop} {rest : List Oper} {o : Oper} {a : Act} {w : World}

/-- append(s, x...), s a slice of the call's own (or nil), x whatever reads as a list. -/
theorem kAppend (s x : Operand) (T E : TypeId) (ho : o.op = .call { callee := .builtin .append, args := #[s, x], argTypes := #[T, T] }) (hg : o.guard = none)
    (base : Nat) (i : TypeInfo) (z : Value) (ht : P.underlying T = some (.slice E)) (hi : P.info? E = some i) (hz : i.zero = some z) (hsize : i.size = 1) (hzs : z.cells.size = 1)
    (v y : Value) (xs news : List Value) (hs : a.eval s = v) (hown : w.ownsRow base E 1 v xs.length xs) (hx : a.eval x = y) (hy : IsVals w y news) (h1 : ∀ u ∈ news, u.oneCell' = true)
    (h63 : xs.length + news.length ≤ maxLen) (hbytes : (xs.length + news.length) * i.bytes ≤ 140737488355328) (hbase : base ≤ w.heap.size)
    (h : ∀ v' w', w'.ownsRow base E 1 v' (xs ++ news).length (xs ++ news) → w.grownBy w' v.ownBlock → wpList P ops Q rest (a.put o.dst v') w') : wpList P ops Q (o :: rest) a w := by
  obtain ⟨ao, c, rfl, hc, hn, hj⟩ := hy
  cases ao with
  | none =>
    have e0 : news = [] := by
      cases news with
      | nil => rfl
      | cons u us => obtain ⟨a, ha, _⟩ := hj 0 u rfl; cases ha
    subst e0
    have hc0 := hn rfl
    subst hc0
    refine wpList_append_own_none hg s x T ho base E i 1 ht hi v xs.length xs hs hown hx ?_
    exact h v w (by simpa using hown) ⟨rfl, rfl, rfl, Nat.le_refl _, fun _ _ _ => rfl⟩
  | some ad =>
    refine wpList_append_own w hg s x T ho base E i z 1 i.bytes ht hi hz hsize rfl hzs (by decide) v xs.length xs hs hown ad news.length c news hx (by omega) (fun j u hu => ?_) h1 h63 hbytes hbase ?_
    · obtain ⟨a', ha, hcell⟩ := hj j u hu
      cases ha; exact hcell
    · intro v' w' hown' hg' _
      exact h v' w' (by rw [List.length_append]; exact hown') hg'

/-- make([]E, l, c). -/
theorem kMake (T E : TypeId) (x y : Operand) (ho : o.op = .makeSlice T x y) (hg : Region.wanted o (yielded ops a.tmps) = true) (i : TypeInfo) (z : Value) (ht : P.underlying T = some (.slice E)) (hi : P.info? E = some i) (hz : i.zero = some z)
    (hsize : i.size = 1) (zv : Value) (hzs : z.cells = #[zv]) (kl kc : IntKind) (l c : Int) (n m : Nat) (hx : a.eval x = .int kl l) (hy : a.eval y = .int kc c) (hl : l = (n : Int)) (hc : c = (m : Int)) (hnm : n ≤ m) (hbytes : i.bytes * m ≤ 281474976710656) (h63 : m ≤ 9223372036854775807)
    (h : ∀ w1, Row w1 w.heap.size E (Array.replicate m zv) → w1.heap.size = w.heap.size + 1 → Below w.heap.size w w1 → wpList P ops Q rest (a.put o.dst (.slice (some ⟨w.heap.size, 0, none⟩) n m)) w1) : wpList P ops Q (o :: rest) a w := by
  refine BigFrame.wpList_want hg fun K hK => ?_
  unfold Oper.wp execOp
  have hb' : (i.bytes : Int) * c ≤ 281474976710656 := by
    subst hc
    have h : ((i.bytes * m : Nat) : Int) ≤ 281474976710656 := by omega
    rwa [Int.natCast_mul] at h
  have hr := run_make (P := P) w T E i z ht hi hz kl kc l c (by omega) (by omega) hb' (by omega)
  have e1 : l.toNat = n := by omega
  have e2 : c.toNat = m := by omega
  have e3 : madeCells z.cells m = Array.replicate m zv := by
    rw [hzs]
    apply Array.ext
    · simp [madeCells]
    · intro k h1 h2; simp [madeCells, Nat.mod_one]
  rw [e1, e2, hsize, Nat.mul_one, e3] at hr
  simp only [ho, hx, hy, Sem.run_bind, hr, Result.andThen_ok, Sem.run_pure]
  exact hK _ _ (h _ (heap_alloc_new w _) (by simp) ((Below.refl _ _).alloc (Nat.le_refl _) _))

/-- copy(d, s): d a part of a row of the call's own. -/
theorem kCopy (d s : Operand) (T T2 E U : TypeId) (ho : o.op = .call { callee := .builtin .copy, args := #[d, s], argTypes := #[T, T2] }) (hg : Region.wanted o (yielded ops a.tmps) = true)
    (ht : P.underlying T = some (.slice E)) (hsz : (P.info? E).map (·.size) = some 1) (g off dLen dCap : Nat) (hd : a.eval d = .slice (some ⟨g, off, none⟩) dLen dCap) (y : Value) (hs : a.eval s = y) (l : List Value) (hy : IsVals w y l) (h1 : ∀ u ∈ l, u.oneCell' = true)
    (cs : Array Value) (hr : Row w g U cs) (hfit : off + dLen ≤ cs.size)
    (h : ∀ w1, Row w1 g U (splice cs off (l.take dLen)) → Wrote g w w1 → wpList P ops Q rest (a.put o.dst (.int .i64 ((min l.length dLen : Nat) : Int))) w1) : wpList P ops Q (o :: rest) a w := by
  refine BigFrame.wpList_want hg fun K hK => ?_
  obtain ⟨ao, c, rfl, hc, hn, hj⟩ := hy
  unfold Oper.wp
  cases ao with
  | none =>
    have e0 : l = [] := by
      cases l with
      | nil => rfl
      | cons u us => obtain ⟨a, ha, _⟩ := hj 0 u rfl; cases ha
    subst e0
    have hc0 := hn rfl
    subst hc0
    have hrun := run_copy_nil P w T T2 o.type E ⟨g, off, none⟩ dLen dCap ht (by cases hq : P.info? E <;> simp [hq] at hsz ⊢)
    have hs' : a.eval s = .slice none 0 0 := hs
    have e : splice cs off (List.take dLen []) = cs := by simp [splice]
    simp [execOp, ho, resolve, invoke, builtin, hd, hs', hrun, Result.andThen]
    have := h w (by rw [e]; exact hr) ⟨rfl, rfl, rfl, rfl, fun _ _ => rfl⟩
    simp at this
    exact hK _ _ this
  | some ad =>
    have hlen : (l.take dLen).length = Nat.min l.length dLen := by rw [List.length_take]; exact Nat.min_comm _ _
    have hle : (l.take dLen).length ≤ dLen := List.length_take_le _ _
    have hrun := run_copy_row P w T T2 o.type E g off dLen dCap ad l.length c cs U (l.take dLen) ht hsz hr hlen
      (fun j v hv => by
        have hv' : l[j]? = some v := by rw [List.getElem?_take] at hv; split at hv <;> simp_all
        obtain ⟨a', ha, hcell⟩ := hj j v hv'
        cases ha; exact hcell) (by omega) (fun v hv => h1 v (List.mem_of_mem_take hv))
    have hthis := h _ (setRow_heap w g cs _ U _ hr) (wrote_setRow w g _)
    have e : (l.take dLen).length = min l.length dLen := hlen
    rw [← e] at hthis
    have hrun' : (execOp a.eval o).run P w = .ok (.value (.int .i64 ((l.take dLen).length : Int))) (w.setRow g (splice cs off (l.take dLen))) := by
      simp only [execOp, ho, resolve, invoke, builtin, hd, hs, Sem.run_bind, Sem.run_pure, Result.andThen_ok, List.map_toArray, List.map_cons, List.map_nil, hrun]
      rfl
    rw [hrun']
    exact hK _ _ hthis

/-- x[n:] of a slice. -/
theorem kSliceFrom (T E : TypeId) (x y : Operand) (ho : o.op = .slice T x (some y) none none) (hg : Region.wanted o (yielded ops a.tmps) = true) (ht : P.underlying T = some (.slice E)) (hsz : (P.info? E).map (·.size) = some 1)
    (v : Value) (l : List Value) (hx : a.eval x = v) (hv : IsVals w v l) (k : IntKind) (i : Int) (n : Nat) (hy : a.eval y = .int k i) (hi : i = (n : Int)) (hn : n ≤ l.length)
    (h : ∀ v', IsVals w v' (l.drop n) → v'.ownBlock = v.ownBlock → wpList P ops Q rest (a.put o.dst v') w) : wpList P ops Q (o :: rest) a w := by
  refine BigFrame.wpList_want hg fun K hK => ?_
  obtain ⟨ao, c, rfl, hc, hnone, hj⟩ := hv
  unfold Oper.wp execOp
  subst hi
  have hrun : (Instr.sliceAt T (.slice ao l.length c) (some (.int k (n : Int))) none none).run P w = .ok (.slice (if c = n then ao else ao.map (·.add n)) (l.length - n) (c - n)) w := by
    cases hq : P.info? E with
    | none => simp [hq] at hsz
    | some t =>
      have hs' : t.size = 1 := by simpa [hq] using hsz
      have hb : (Instr.sliceBound (.int k (n : Int)) l.length .sliceB).run P w = .ok n w := by
        have := run_sliceBound (P := P) (w := w) k (n : Int) l.length .sliceB (by omega) (by omega)
        simpa using this
      simp [Instr.sliceAt, run_underlying ht, Instr.slice, Instr.sliceBounds, hb, sizeOf, typeInfo, hq, hs']
  simp only [ho, hx, hy, Option.map_some, Option.map_none, Sem.run_bind, hrun, Result.andThen_ok, Sem.run_pure]
  refine hK _ _ (h _ ⟨if c = n then ao else ao.map (·.add n), c - n, by rw [List.length_drop], by rw [List.length_drop]; omega, fun hno => ?_, fun j u hu => ?_⟩ ?_)
  · by_cases e : c = n
    · omega
    · rw [if_neg e] at hno
      have : ao = none := by cases ao <;> simp_all
      have := hnone this; omega
  · rw [List.getElem?_drop] at hu
    obtain ⟨b, rfl, hcell⟩ := hj _ u hu
    have hlt := (List.getElem?_eq_some_iff.1 hu).1
    rw [if_neg (by omega)]
    refine ⟨b.add n, rfl, ?_⟩
    have e : (b.add n).add j = b.add (n + j) := by
      obtain ⟨bb, bo, bs⟩ := b
      unfold Addr.add
      by_cases hn0 : n = 0 <;> by_cases hj0 : j = 0 <;> simp [hn0, hj0, Nat.add_assoc]
    rw [e]; exact hcell
  · by_cases e : c = n
    · rw [if_pos e]; cases ao <;> rfl
    · rw [if_neg e]
      cases ao with
      | none => rfl
      | some b => simp [Value.ownBlock, Addr.add]; split <;> rfl
theorem map_range (f : Nat → Value) (n : Nat) : Array.map f (Array.range n) = ((List.range n).map f).toArray := by
  apply Array.ext
  · simp
  · intro k h1 h2; simp
theorem cells_one {v : Value} (h : v.oneCell' = true) : v.cells = #[v] := by cases v <;> first | rfl | cases h

/-- A slice of one element that is written out. -/
theorem kBuildSlice1 (T E : TypeId) (x0 : Operand) (v0 : Value) (ho : o.op = .buildSlice T 1 #[(0, x0)]) (hg : Region.wanted o (yielded ops a.tmps) = true) (ht : P.underlying T = some (.slice E)) (i : TypeInfo) (z : Value) (hi : P.info? E = some i) (hz : i.zero = some z) (hsize : i.size = 1)
    (hx0 : a.eval x0 = v0) (h0 : v0.oneCell' = true)
    (h : ∀ w1, Row w1 w.heap.size E #[v0] → w1.heap.size = w.heap.size + 1 → Below w.heap.size w w1 → wpList P ops Q rest (a.put o.dst (.slice (some ⟨w.heap.size, 0, none⟩) 1 1)) w1) : wpList P ops Q (o :: rest) a w := by
  refine BigFrame.wpList_want hg fun K hK => ?_
  unfold Oper.wp execOp
  have hrun : (Instr.buildSlice T 1 #[(0, v0)]).run P w = .ok (.slice (some ⟨w.heap.size, 0, none⟩) 1 1) (w.alloc (.cells #[v0] E)) := by
    simp [Instr.buildSlice, run_underlying ht, sizeOf, typeInfo, hi, hsize, zeroValue, hz, Instr.fill, cells_one h0, newRow, newObj, Sem.run]
    rw [map_range]; rfl
  simp only [ho, List.map_toArray, List.map_cons, List.map_nil, hx0, Sem.run_bind, hrun, Result.andThen_ok, Sem.run_pure]
  exact hK _ _ (h _ (heap_alloc_new w _) (by simp) ((Below.refl _ _).alloc (Nat.le_refl _) _))
/-- A slice of two elements that is written out. -/
theorem kBuildSlice2 (T E : TypeId) (x0 x1 : Operand) (v0 v1 : Value) (ho : o.op = .buildSlice T 2 #[(0, x0), (1, x1)]) (hg : Region.wanted o (yielded ops a.tmps) = true) (ht : P.underlying T = some (.slice E)) (i : TypeInfo) (z : Value) (hi : P.info? E = some i) (hz : i.zero = some z) (hsize : i.size = 1)
    (hx0 : a.eval x0 = v0) (h0 : v0.oneCell' = true) (hx1 : a.eval x1 = v1) (h1 : v1.oneCell' = true)
    (h : ∀ w1, Row w1 w.heap.size E #[v0, v1] → w1.heap.size = w.heap.size + 1 → Below w.heap.size w w1 → wpList P ops Q rest (a.put o.dst (.slice (some ⟨w.heap.size, 0, none⟩) 2 2)) w1) : wpList P ops Q (o :: rest) a w := by
  refine BigFrame.wpList_want hg fun K hK => ?_
  unfold Oper.wp execOp
  have hrun : (Instr.buildSlice T 2 #[(0, v0), (1, v1)]).run P w = .ok (.slice (some ⟨w.heap.size, 0, none⟩) 2 2) (w.alloc (.cells #[v0, v1] E)) := by
    simp [Instr.buildSlice, run_underlying ht, sizeOf, typeInfo, hi, hsize, zeroValue, hz, Instr.fill, cells_one h0, cells_one h1, newRow, newObj, Sem.run]
    rw [map_range]; rfl
  simp only [ho, List.map_toArray, List.map_cons, List.map_nil, hx0, hx1, Sem.run_bind, hrun, Result.andThen_ok, Sem.run_pure]
  exact hK _ _ (h _ (heap_alloc_new w _) (by simp) ((Below.refl _ _).alloc (Nat.le_refl _) _))
/-- A slice of three elements that is written out. -/
theorem kBuildSlice3 (T E : TypeId) (x0 x1 x2 : Operand) (v0 v1 v2 : Value) (ho : o.op = .buildSlice T 3 #[(0, x0), (1, x1), (2, x2)]) (hg : Region.wanted o (yielded ops a.tmps) = true) (ht : P.underlying T = some (.slice E)) (i : TypeInfo) (z : Value) (hi : P.info? E = some i) (hz : i.zero = some z) (hsize : i.size = 1)
    (hx0 : a.eval x0 = v0) (h0 : v0.oneCell' = true) (hx1 : a.eval x1 = v1) (h1 : v1.oneCell' = true) (hx2 : a.eval x2 = v2) (h2 : v2.oneCell' = true)
    (h : ∀ w1, Row w1 w.heap.size E #[v0, v1, v2] → w1.heap.size = w.heap.size + 1 → Below w.heap.size w w1 → wpList P ops Q rest (a.put o.dst (.slice (some ⟨w.heap.size, 0, none⟩) 3 3)) w1) : wpList P ops Q (o :: rest) a w := by
  refine BigFrame.wpList_want hg fun K hK => ?_
  unfold Oper.wp execOp
  have hrun : (Instr.buildSlice T 3 #[(0, v0), (1, v1), (2, v2)]).run P w = .ok (.slice (some ⟨w.heap.size, 0, none⟩) 3 3) (w.alloc (.cells #[v0, v1, v2] E)) := by
    simp [Instr.buildSlice, run_underlying ht, sizeOf, typeInfo, hi, hsize, zeroValue, hz, Instr.fill, cells_one h0, cells_one h1, cells_one h2, newRow, newObj, Sem.run]
    rw [map_range]; rfl
  simp only [ho, List.map_toArray, List.map_cons, List.map_nil, hx0, hx1, hx2, Sem.run_bind, hrun, Result.andThen_ok, Sem.run_pure]
  exact hK _ _ (h _ (heap_alloc_new w _) (by simp) ((Below.refl _ _).alloc (Nat.le_refl _) _))

/-- The address of an element of a slice. -/
theorem kIndexAddrS (T E : TypeId) (x y : Operand) (k : IntKind) (g off len cap : Nat) (i : Int) (j : Nat) (ho : o.op = .indexAddr T x y) (hg : Region.wanted o (yielded ops a.tmps) = true)
    (hx : a.eval x = .slice (some ⟨g, off, none⟩) len cap) (hy : a.eval y = .int k i) (hu : P.underlying T = some (.slice E))
    (hs : (P.info? E).map (·.size) = some 1) (hi : i = (j : Int)) (hj : j < len)
    (h : wpList P ops Q rest (a.put o.dst (.pointer (some ⟨g, off + j, none⟩))) w) : wpList P ops Q (o :: rest) a w := by
  refine BigFrame.wpList_want hg fun K hK => ?_
  unfold Oper.wp execOp
  subst hi
  have hrun : (Instr.indexAt T (.slice (some ⟨g, off, none⟩) len cap) (.int k (j : Int))).run P w = .ok (.pointer (some ⟨g, off + j, none⟩)) w := by
    cases hq : P.info? E with
    | none => simp [hq] at hs
    | some t =>
      have hs' : t.size = 1 := by simpa [hq] using hs
      have hc : (0 : Int) ≤ (j : Int) ∧ (j : Int) < (len : Int) := by omega
      simp [Instr.indexAt, asIntOf, run_underlying hu, hc, sizeOf, typeInfo, hq, hs', add_none]
      intro hle; omega
  simp only [ho, hx, hy, Sem.run_bind, hrun, Result.andThen_ok, Sem.run_pure]
  exact hK _ _ h

/-- An element of a list of cells: address and load in one. -/
theorem kIndexAddrV (T E : TypeId) (x y : Operand) (k : IntKind) (v : Value) (l : List Value) (i : Int) (j : Nat) (u : Value) (ho : o.op = .indexAddr T x y) (hg : Region.wanted o (yielded ops a.tmps) = true)
    (hx : a.eval x = v) (hv : IsVals w v l) (hy : a.eval y = .int k i) (ht : P.underlying T = some (.slice E))
    (hs : (P.info? E).map (·.size) = some 1) (hi : i = (j : Int)) (hj : l[j]? = some u)
    (h : ∀ b, w.cell? b = some u → wpList P ops Q rest (a.put o.dst (.pointer (some b))) w) : wpList P ops Q (o :: rest) a w := by
  refine BigFrame.wpList_want hg fun K hK => ?_
  unfold Oper.wp execOp
  subst hi
  obtain ⟨ao, c, rfl, hc, hnone, hcells⟩ := hv
  obtain ⟨b, rfl, hcell⟩ := hcells j u hj
  have hjl := (List.getElem?_eq_some_iff.1 hj).1
  have hrun : (Instr.indexAt T (.slice (some b) l.length c) (.int k (j : Int))).run P w = .ok (.pointer (some (b.add j))) w := by
    cases hq : P.info? E with
    | none => simp [hq] at hs
    | some t =>
      have hs' : t.size = 1 := by simpa [hq] using hs
      have hc : (0 : Int) ≤ (j : Int) ∧ (j : Int) < (l.length : Int) := by omega
      simp [Instr.indexAt, asIntOf, run_underlying ht, hc, sizeOf, typeInfo, hq, hs']
      intro hle; omega
  simp only [ho, hx, hy, Sem.run_bind, hrun, Result.andThen_ok, Sem.run_pure]
  exact hK _ _ (h _ hcell)
theorem kLoadCell (T : TypeId) (x : Operand) (b : Addr) (v : Value) (d : TypeDesc) (ho : o.op = .load T x) (hg : Region.wanted o (yielded ops a.tmps) = true)
    (hx : a.eval x = .pointer (some b)) (hr : w.cell? b = some v) (hu : P.underlying T = some d) (hd : aggDesc d = false)
    (h : wpList P ops Q rest (a.put o.dst v) w) : wpList P ops Q (o :: rest) a w := by
  refine BigFrame.wpList_want hg fun K hK => ?_
  unfold Oper.wp execOp
  have hl : (loadVar T b).run P w = .ok v w := by simp [loadVar, Sem.run_bind, run_isAgg hu, hd, load, Sem.run, hr]
  simp only [ho, hx, Instr.loadAt, Instr.sureAddr, Sem.run_bind, Sem.run_pure, Result.andThen_ok, hl]
  exact hK _ _ h

/-- len(x) of a slice that reads as a list. -/
theorem kLen (T : TypeId) (x : Operand) (E : TypeId) (v : Value) (l : List Value) (ho : o.op = .call { callee := .builtin .len, args := #[x], argTypes := #[T] }) (hg : Region.wanted o (yielded ops a.tmps) = true) (hx : a.eval x = v) (hv : IsVals w v l) (ht : P.underlying T = some (.slice E))
    (h : wpList P ops Q rest (a.put o.dst (.int .i64 (l.length : Int))) w) : wpList P ops Q (o :: rest) a w := by
  refine BigFrame.wpList_want hg fun K hK => ?_
  obtain ⟨ao, c, rfl, hc, hnone, hcells⟩ := hv
  unfold Oper.wp
  have hrun : (execOp a.eval o).run P w = .ok (.value (.int .i64 (l.length : Int))) w := by
    simp [execOp, ho, resolve, invoke, builtin, hx, Builtin.len_, run_underlying ht, goInt]
  rw [hrun]
  exact hK _ _ h
/-- x[n:] of an array variable. -/
theorem kSliceArrFrom (T E : TypeId) (len : Nat) (x y : Operand) (ho : o.op = .slice T x (some y) none none) (hg : Region.wanted o (yielded ops a.tmps) = true) (ht : P.underlying T = some (.array len E)) (hsz : (P.info? E).map (·.size) = some 1)
    (g off : Nat) (hx : a.eval x = .pointer (some ⟨g, off, none⟩)) (k : IntKind) (i : Int) (n : Nat) (hy : a.eval y = .int k i) (hi : i = (n : Int)) (hn : n < len)
    (h : wpList P ops Q rest (a.put o.dst (.slice (some ⟨g, off + n, none⟩) (len - n) (len - n))) w) : wpList P ops Q (o :: rest) a w := by
  refine BigFrame.wpList_want hg fun K hK => ?_
  unfold Oper.wp execOp
  subst hi
  have hrun : (Instr.sliceAt T (.pointer (some ⟨g, off, none⟩)) (some (.int k (n : Int))) none none).run P w = .ok (.slice (some ⟨g, off + n, none⟩) (len - n) (len - n)) w := by
    cases hq : P.info? E with
    | none => simp [hq] at hsz
    | some t =>
      have hs' : t.size = 1 := by simpa [hq] using hsz
      have hb : (Instr.sliceBound (.int k (n : Int)) len .sliceB).run P w = .ok n w := by
        have := run_sliceBound (P := P) (w := w) k (n : Int) len .sliceB (by omega) (by omega)
        simpa using this
      have hne : ¬ len = n := by omega
      simp [Instr.sliceAt, run_underlying ht, Instr.sureAddr, Instr.sliceBounds, hb, sizeOf, typeInfo, hq, hs', hne, add_none]
  simp only [ho, hx, hy, Option.map_some, Option.map_none, Sem.run_bind, hrun, Result.andThen_ok, Sem.run_pure]
  exact hK _ _ h
/-- x[:] of an array variable. -/
theorem kSliceArrAll (T E : TypeId) (len : Nat) (x : Operand) (ho : o.op = .slice T x none none none) (hg : Region.wanted o (yielded ops a.tmps) = true) (ht : P.underlying T = some (.array len E)) (hsz : (P.info? E).map (·.size) = some 1)
    (g off : Nat) (hx : a.eval x = .pointer (some ⟨g, off, none⟩))
    (h : wpList P ops Q rest (a.put o.dst (.slice (some ⟨g, off, none⟩) len len)) w) : wpList P ops Q (o :: rest) a w := by
  refine BigFrame.wpList_want hg fun K hK => ?_
  unfold Oper.wp execOp
  have hrun : (Instr.sliceAt T (.pointer (some ⟨g, off, none⟩)) none none none).run P w = .ok (.slice (some ⟨g, off, none⟩) len len) w := by
    cases hq : P.info? E with
    | none => simp [hq] at hsz
    | some t =>
      simp [Instr.sliceAt, run_underlying ht, Instr.sureAddr, Instr.sliceBounds, sizeOf, typeInfo, hq, Addr.add]
  simp only [ho, hx, Option.map_none, Sem.run_bind, hrun, Result.andThen_ok, Sem.run_pure]
  exact hK _ _ h
/-- x[:n] of an array variable. -/
theorem kSliceArrTo (T E : TypeId) (len : Nat) (x y : Operand) (ho : o.op = .slice T x none (some y) none) (hg : Region.wanted o (yielded ops a.tmps) = true) (ht : P.underlying T = some (.array len E)) (hsz : (P.info? E).map (·.size) = some 1)
    (g off : Nat) (hx : a.eval x = .pointer (some ⟨g, off, none⟩)) (k : IntKind) (i : Int) (n : Nat) (hy : a.eval y = .int k i) (hi : i = (n : Int)) (hn : n ≤ len)
    (h : wpList P ops Q rest (a.put o.dst (.slice (some ⟨g, off, none⟩) n len)) w) : wpList P ops Q (o :: rest) a w := by
  refine BigFrame.wpList_want hg fun K hK => ?_
  unfold Oper.wp execOp
  subst hi
  have hrun : (Instr.sliceAt T (.pointer (some ⟨g, off, none⟩)) none (some (.int k (n : Int))) none).run P w = .ok (.slice (some ⟨g, off, none⟩) n len) w := by
    cases hq : P.info? E with
    | none => simp [hq] at hsz
    | some t =>
      have hb : (Instr.sliceBound (.int k (n : Int)) len .sliceAlen).run P w = .ok n w := by
        have := run_sliceBound (P := P) (w := w) k (n : Int) len .sliceAlen (by omega) (by omega)
        simpa using this
      simp [Instr.sliceAt, run_underlying ht, Instr.sureAddr, Instr.sliceBounds, hb, sizeOf, typeInfo, hq, Addr.add]
  simp only [ho, hx, hy, Option.map_some, Option.map_none, Sem.run_bind, hrun, Result.andThen_ok, Sem.run_pure]
  exact hK _ _ h
end

end Go.Proofs.YtajpdmcbdekpbaaDoor
