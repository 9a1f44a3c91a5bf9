/-
  My kit: slices whose elements have several cells: what they read as; indexed, loaded, made, appended to, written in place.
-/
import Derived.Test.YtdeggdmoijfhdaaDoorKitAll
namespace Go.Proofs.YtdeggdmoijfhdaaDoor
open Go Go.RowKit

theorem flat_get {α : Type} {n : Nat} : ∀ (M : List (List α)) (j : Nat) (u : α), (∀ x ∈ M, x.length = n) → M.flatten[j]? = some u → ∃ x, M[j / n]? = some x ∧ x[j % n]? = some u
  | [], j, u, _, h => by simp at h
  | x :: M, j, u, hl, h => by
    have hx : x.length = n := hl x (by simp)
    rw [List.flatten_cons] at h
    by_cases hj : j < n
    · rw [List.getElem?_append_left (by omega)] at h
      refine ⟨x, ?_, ?_⟩
      · rw [Nat.div_eq_of_lt hj]; rfl
      · rw [Nat.mod_eq_of_lt hj]; exact h
    · rw [List.getElem?_append_right (by omega), hx] at h
      obtain ⟨y, h1, h2⟩ := flat_get M (j - n) u (fun z hz => hl z (by simp [hz])) h
      have hn : 0 < n := by
        rcases Nat.eq_zero_or_pos n with e | e
        · exfalso
          have he : x.length = 0 := by omega
          rw [e] at h1 h2
          simp only [Nat.sub_zero, Nat.div_zero, Nat.mod_zero] at h1 h2
          have hy : y.length = 0 := by rw [hl y (by simp [List.mem_of_getElem? h1]), e]
          rw [List.eq_nil_of_length_eq_zero hy] at h2
          simp at h2
        · exact e
      have e1 : j / n = (j - n) / n + 1 := by rw [← Nat.add_div_right _ hn]; congr 1; omega
      have e2 : j % n = (j - n) % n := by rw [← Nat.mod_eq_sub_mod (by omega)]
      exact ⟨y, by rw [e1]; exact h1, by rw [e2]; exact h2⟩
theorem flat_len {α : Type} {n : Nat} : ∀ (M : List (List α)), (∀ x ∈ M, x.length = n) → M.flatten.length = M.length * n
  | [], _ => by simp
  | x :: M, hl => by
    rw [List.flatten_cons, List.length_append, flat_len M fun z hz => hl z (by simp [hz]), hl x (by simp), List.length_cons, Nat.add_mul, Nat.one_mul, Nat.add_comm]
theorem flat_at {α : Type} {n : Nat} : ∀ (M : List (List α)) (k i : Nat) (x : List α) (u : α), (∀ x ∈ M, x.length = n) → M[k]? = some x → x[i]? = some u → M.flatten[k * n + i]? = some u
  | [], k, i, x, u, _, h, _ => by simp at h
  | y :: M, 0, i, x, u, hl, h, hu => by
    simp only [List.getElem?_cons_zero, Option.some.injEq] at h
    subst h
    have hi := (List.getElem?_eq_some_iff.1 hu).1
    rw [List.flatten_cons, Nat.zero_mul, Nat.zero_add, List.getElem?_append_left hi]; exact hu
  | y :: M, k + 1, i, x, u, hl, h, hu => by
    have hy : y.length = n := hl y (by simp)
    rw [List.flatten_cons, List.getElem?_append_right (by rw [hy, Nat.add_mul]; omega), hy, show (k + 1) * n + i - n = k * n + i by rw [Nat.add_mul]; omega]
    exact flat_at M k i x u (fun z hz => hl z (by simp [hz])) (by simpa using h) hu
/-- the value reads as these rows of n cells each -/
def IsRows (n : Nat) (w : World) (v : Value) (L : List (List Value)) : Prop :=
  (∃ ao c, v = .slice ao L.length c ∧ L.length ≤ c ∧ (ao = none → c = 0) ∧ ∀ (k : Nat) (x : List Value), L[k]? = some x → ∃ a : Addr, ao = some a ∧ ∀ (j : Nat) (u : Value), x[j]? = some u → w.cell? ((a.add (k * n)).add j) = some u) ∧ ∀ x ∈ L, x.length = n
theorem IsRows.below {n : Nat} {w w' : World} {v : Value} {L : List (List Value)} (h : IsRows n w v L) (hb : Below w.heap.size w w') : IsRows n w' v L := by
  obtain ⟨⟨ao, c, rfl, hc, hn, hj⟩, hl⟩ := h
  refine ⟨⟨ao, c, rfl, hc, hn, fun k x hx => ?_⟩, hl⟩
  obtain ⟨a, rfl, hcell⟩ := hj k x hx
  exact ⟨a, rfl, fun j u hu => by rw [hb.cell (block_lt_of_cell (hcell j u hu))]; exact hcell j u hu⟩
theorem isRows_nil (n : Nat) (w : World) : IsRows n w (.slice none 0 0) [] := ⟨⟨none, 0, rfl, Nat.le_refl _, fun _ => rfl, fun k x h => by simp at h⟩, fun x h => by simp at h⟩
theorem IsRows.len {n : Nat} {w : World} {v : Value} {L : List (List Value)} (h : IsRows n w v L) {k : Nat} {x : List Value} (hx : L[k]? = some x) : x.length = n := h.2 x (List.mem_of_getElem? hx)
/-- a slice of one's own, of rows of n cells each -/
def OwnR (n : Nat) (E : TypeId) (w : World) (base : Nat) (v : Value) (L : List (List Value)) : Prop := w.ownsRow base E n v L.length L.flatten ∧ ∀ x ∈ L, x.length = n
theorem OwnR.below {n : Nat} {E : TypeId} {w w' : World} {base : Nat} {v : Value} {L : List (List Value)} (h : OwnR n E w base v L) (hb : Below w.heap.size w w') : OwnR n E w' base v L := ⟨ownsRow_below h.1 hb, h.2⟩
theorem ownR_nil (n : Nat) (E : TypeId) (w : World) (base : Nat) : OwnR n E w base (.slice none 0 0) [] := ⟨World.ownsRow_nil w base E n, fun x h => by simp at h⟩
theorem ownR_empty {n g base : Nat} {E : TypeId} {w : World} (hb : base ≤ g) (h : Row w g E #[]) : OwnR n E w base (.slice (some ⟨g, 0, none⟩) 0 0) [] :=
  ⟨⟨by simp, .inr ⟨g, 0, #[], rfl, hb, h, Nat.le_refl _, by simp [maxLen], by simp, by simp⟩⟩, fun x h => by simp at h⟩
theorem OwnR.less {n b b' : Nat} {E : TypeId} {w : World} {v : Value} {L : List (List Value)} (hb : b' ≤ b) (h : OwnR n E w b v L) : OwnR n E w b' v L := by
  refine ⟨⟨h.1.1, ?_⟩, h.2⟩
  rcases h.1.2 with hn | ⟨g, cap, cur, e, h1, rest⟩
  · exact .inl hn
  · exact .inr ⟨g, cap, cur, e, by omega, rest⟩
theorem OwnR.rows {n base : Nat} {E : TypeId} {w : World} {v : Value} {L : List (List Value)} (h : OwnR n E w base v L) : IsRows n w v L := by
  obtain ⟨h, hl⟩ := h
  refine ⟨?_, hl⟩
  rcases h.2 with ⟨rfl, h0⟩ | ⟨g, cap, cur, rfl, _, hg, hnc, _, hcs, ht⟩
  · rw [List.length_eq_zero_iff.1 h0]
    exact ⟨none, 0, rfl, Nat.le_refl _, fun _ => rfl, fun k x h => by simp at h⟩
  · refine ⟨some ⟨g, 0, none⟩, cap, rfl, hnc, (fun h => by cases h), fun k x hx => ⟨_, rfl, fun j u hu => ?_⟩⟩
    have hf := flat_at L k j x u hl hx hu
    rw [← ht, List.getElem?_take] at hf
    split at hf
    · rw [add_none, add_none, Nat.zero_add, cell_of_row w g _ cur E _ hg]
      simpa using hf
    · cases hf
/-- one row that was laid alone -/
theorem isRows_one {n g : Nat} {E : TypeId} {w : World} {x : List Value} (h : Row w g E x.toArray) (hx : x.length = n) : IsRows n w (.slice (some ⟨g, 0, none⟩) 1 1) [x] := by
  refine ⟨⟨some ⟨g, 0, none⟩, 1, rfl, Nat.le_refl _, (fun h => by cases h), fun k y hy => ⟨_, rfl, fun j u hu => ?_⟩⟩, fun y hy => by simp at hy; subst hy; exact hx⟩
  match k with
  | 0 =>
    simp only [List.getElem?_cons_zero, Option.some.injEq] at hy
    subst hy
    rw [add_none, add_none, Nat.zero_mul]
    simp only [Nat.zero_add]
    rw [h.cell]
    simpa using hu
  | k + 1 => simp at hy
section
variable {P : Program} {ops : Array Oper} {Q : Exit → Act → World → Prop} {rest : List Oper} {o : Oper} {a : Act} {w : World}
theorem kLenRows {T E : TypeId} {n : Nat} (ht : P.underlying T = some (.slice E)) (x : Operand) (v : Value) (L : List (List Value)) (m : Nat) (hv : IsRows n w v L) (hm : L.length = m) (ho : o.op = .call { callee := .builtin .len, args := #[x], argTypes := #[T] }) (hg : Region.wanted o (yielded ops a.tmps) = true) (hx : a.eval x = v) (h : wpList P ops Q rest (a.put o.dst (.int .i64 (m : Int))) w) : wpList P ops Q (o :: rest) a w := by
  obtain ⟨⟨ao, c, rfl, _⟩, _⟩ := hv
  subst hm
  refine kPure _ hg ?_ h
  simp [execOp, ho, resolve, invoke, builtin, hx, Builtin.len_, run_underlying ht, goInt]
theorem kIndexRows {T E : TypeId} {n : Nat} (ht : P.underlying T = some (.slice E)) (hi : (P.info? E).map (·.size) = some n) (x y : Operand) (v : Value) (L : List (List Value)) (k : Nat) (r : List Value) (hv : IsRows n w v L) (hr : L[k]? = some r) (ho : o.op = .indexAddr T x y) (hg : Region.wanted o (yielded ops a.tmps) = true) (hx : a.eval x = v) (hy : a.eval y = .int .i64 (k : Int))
    (h : ∀ b : Addr, (∀ (j : Nat) (u : Value), r[j]? = some u → w.cell? (b.add j) = some u) → wpList P ops Q rest (a.put o.dst (.pointer (some b))) w) : wpList P ops Q (o :: rest) a w := by
  obtain ⟨⟨ao, c, rfl, _, _, h1⟩, _⟩ := hv
  obtain ⟨ad, rfl, h2⟩ := h1 k r hr
  have hk : k < L.length := (List.getElem?_eq_some_iff.1 hr).1
  refine kPure _ hg ?_ (h _ h2)
  have hrun : (Instr.indexAt T (.slice (some ad) L.length c) (.int .i64 (k : Int))).run P w = .ok (.pointer (some (ad.add (k * n)))) w := by
    cases hq : P.info? E with
    | none => simp [hq] at hi
    | some t =>
      have hs' : t.size = n := by simpa [hq] using hi
      simp [Instr.indexAt, asIntOf, run_underlying ht, sizeOf, typeInfo, hq, hs', hk]
  unfold execOp
  simp only [ho, hx, hy, Sem.run_bind, hrun, Result.andThen_ok, Sem.run_pure]
/-- a whole row is loaded -/
theorem kLoadRowAt {E : TypeId} {d : TypeDesc} {n : Nat} (hu : P.underlying E = some d) (hd : aggDesc d = true) (hi : (P.info? E).map (·.size) = some n) (x : Operand) (b : Addr) (r : List Value) (hl : r.length = n) (hb : ∀ (j : Nat) (u : Value), r[j]? = some u → w.cell? (b.add j) = some u) (ho : o.op = .load E x) (hg : Region.wanted o (yielded ops a.tmps) = true) (hx : a.eval x = .pointer (some b))
    (h : wpList P ops Q rest (a.put o.dst (.agg r.toArray)) w) : wpList P ops Q (o :: rest) a w := by
  subst hl
  refine kPure _ hg ?_ h
  have hl := run_loadCells_list (P := P) w b r hb
  have hrun : (loadVar E b).run P w = .ok (.agg r.toArray) w := by
    cases hq : P.info? E with
    | none => simp [hq] at hi
    | some t =>
      have hs' : t.size = r.length := by simpa [hq] using hi
      simp [loadVar, Sem.run_bind, run_isAgg hu, hd, sizeOf, typeInfo, hq, hs', hl]
  unfold execOp
  simp only [ho, hx, Instr.loadAt, Instr.sureAddr, Sem.run_bind, Sem.run_pure, Result.andThen_ok, hrun]
/-- one cell of a row, at an address -/
theorem kLoadAt {T : TypeId} {d : TypeDesc} (hu : P.underlying T = some d) (hd : aggDesc d = false) (x : Operand) (b : Addr) (u : Value) (hb : w.cell? b = some u) (ho : o.op = .load T x) (hg : Region.wanted o (yielded ops a.tmps) = true) (hx : a.eval x = .pointer (some b)) (h : wpList P ops Q rest (a.put o.dst u) w) : wpList P ops Q (o :: rest) a w :=
  kLoadCell _ _ b u _ ho hg hx hb hu hd h
/-- rows are appended to rows of one's own -/
theorem kAppendRows {T E : TypeId} {n : Nat} (s x : Operand) (ho : o.op = .call { callee := .builtin .append, args := #[s, x], argTypes := #[T, T] }) (hg : o.guard = none)
    (base : Nat) (i : TypeInfo) (z : Value) (ht : P.underlying T = some (.slice E)) (hi : P.info? E = some i) (hz : i.zero = some z) (hsize : i.size = n) (hzs : z.cells.size = n) (hn0 : 0 < n)
    (v y : Value) (L M : List (List Value)) (hs : a.eval s = v) (hown : OwnR n E w base v L) (hx : a.eval x = y) (hy : IsRows n w y M) (h1 : ∀ r ∈ M, ∀ u ∈ r, u.oneCell' = true)
    (h63 : L.length + M.length ≤ maxLen) (hbytes : (L.length + M.length) * i.bytes ≤ 140737488355328) (hbase : base ≤ w.heap.size)
    (h : ∀ v' w', OwnR n E w' base v' (L ++ M) → Below base w w' → w.grownBy w' v.ownBlock → wpList P ops Q rest (a.put o.dst v') w') : wpList P ops Q (o :: rest) a w := by
  obtain ⟨⟨ao, c, rfl, hc, hn, hj⟩, hml⟩ := hy
  have hLM : ∀ x ∈ L ++ M, x.length = n := fun x hx => by
    rcases List.mem_append.1 hx with hx | hx
    · exact hown.2 x hx
    · exact hml x hx
  cases ao with
  | none =>
    have e0 : M = [] := by
      cases M with
      | nil => rfl
      | cons u us => obtain ⟨a, ha, _⟩ := hj 0 u rfl; cases ha
    subst e0
    have hc0 := hn rfl
    subst hc0
    refine wpList_append_own_none hg s x T ho base E i n ht hi v L.length L.flatten hs hown.1 hx ?_
    exact h v w (by rw [List.append_nil]; exact hown) ⟨rfl, rfl, rfl, Nat.le_refl _, fun _ _ => rfl⟩ ⟨rfl, rfl, rfl, Nat.le_refl _, fun _ _ _ => rfl⟩
  | some ad =>
    refine wpList_append_own w hg s x T ho base E i z n i.bytes ht hi hz hsize rfl hzs hn0 v L.length L.flatten hs hown.1 ad M.length c M.flatten hx (flat_len M hml) (fun j u hu => ?_) (fun u hu => ?_) h63 hbytes hbase ?_
    · obtain ⟨y, hy1, hy2⟩ := flat_get M j u hml hu
      obtain ⟨a', ha, hcell⟩ := hj _ y hy1
      cases ha
      have := hcell _ u hy2
      rw [addr_add, Nat.mul_comm, Nat.div_add_mod] at this
      exact this
    · obtain ⟨r, hr, hur⟩ := List.mem_flatten.1 hu
      exact h1 r hr u hur
    · intro v' w' hown' hg' _
      exact h v' w' ⟨by rw [List.length_append, List.flatten_append]; exact hown', hLM⟩ (below_grown hown.1 hg' hbase) hg'
end
/-- a row of one's own in memory -/
theorem OwnR.row {n base : Nat} {E : TypeId} {w : World} {v : Value} {L : List (List Value)} (h : OwnR n E w base v L) (hL : L ≠ []) : ∃ g cap cur, v = .slice (some ⟨g, 0, none⟩) L.length cap ∧ base ≤ g ∧ Row w g E cur ∧ cur.size = cap * n ∧ L.length ≤ cap ∧ cap ≤ maxLen ∧ cur.toList.take (L.length * n) = L.flatten := by
  rcases h.1.2 with ⟨_, h0⟩ | ⟨g, cap, cur, rfl, hb, hg, hnc, hcm, hcs, ht⟩
  · exact absurd (List.length_eq_zero_iff.1 h0) hL
  · exact ⟨g, cap, cur, rfl, hb, hg, hcs, hnc, hcm, ht⟩
theorem flat_set {α : Type} {n : Nat} : ∀ (M : List (List α)) (k i : Nat) (u : α) (r : List α), (∀ x ∈ M, x.length = n) → M[k]? = some r → i < n → M.flatten.set (k * n + i) u = (M.set k (r.set i u)).flatten
  | [], k, i, u, r, _, h, _ => by simp at h
  | y :: M, 0, i, u, r, hl, h, hi => by
    simp only [List.getElem?_cons_zero, Option.some.injEq] at h
    subst h
    have hy : y.length = n := hl y (by simp)
    rw [List.flatten_cons, Nat.zero_mul, Nat.zero_add, List.set_append_left _ _ (by omega)]; rfl
  | y :: M, k + 1, i, u, r, hl, h, hi => by
    have hy : y.length = n := hl y (by simp)
    rw [List.flatten_cons, List.set_append_right _ _ (by rw [hy, Nat.add_mul]; omega), hy, show (k + 1) * n + i - n = k * n + i by rw [Nat.add_mul]; omega, flat_set M k i u r (fun z hz => hl z (by simp [hz])) (by simpa using h) hi]; rfl
/-- a cell of a row of one's own is written -/
theorem OwnR.set {n base g : Nat} {E : TypeId} {w w' : World} {cap : Nat} {cur : Array Value} {L : List (List Value)} (h : OwnR n E w base (.slice (some ⟨g, 0, none⟩) L.length cap) L) (hr : Row w g E cur) {k i : Nat} {u : Value} {r : List Value} (hk : L[k]? = some r) (hi : i < n) (hr' : Row w' g E (cur.setIfInBounds (k * n + i) u)) : OwnR n E w' base (.slice (some ⟨g, 0, none⟩) L.length cap) (L.set k (r.set i u)) := by
  have hkl : k < L.length := (List.getElem?_eq_some_iff.1 hk).1
  have hrl : r.length = n := h.2 r (List.mem_of_getElem? hk)
  have hall : ∀ x ∈ L.set k (r.set i u), x.length = n := fun x hx => by
    rcases List.mem_or_eq_of_mem_set hx with hx | rfl
    · exact h.2 x hx
    · rw [List.length_set]; exact hrl
  refine ⟨⟨by rw [flat_len _ hall], ?_⟩, hall⟩
  rcases h.1.2 with ⟨e, _⟩ | ⟨g', cap', cur', e, hb, hg, hnc, hcm, hcs, ht⟩
  · cases e
  · simp only [Value.slice.injEq, Option.some.injEq, Addr.mk.injEq, and_true, true_and] at e
    obtain ⟨rfl, rfl⟩ := e
    have hcur : cur' = cur := by
      have h1 : w.heap[g]? = some (.cells cur E (0, 0)) := hr
      rw [h1] at hg
      simp only [Option.some.injEq, Obj.cells.injEq] at hg
      exact hg.1.symm
    subst hcur
    refine .inr ⟨g, cap, cur'.setIfInBounds (k * n + i) u, by rw [List.length_set], hb, hr', by rw [List.length_set]; exact hnc, hcm, by rw [Array.size_setIfInBounds]; exact hcs, ?_⟩
    rw [Array.toList_setIfInBounds, List.length_set, List.take_set, ht]
    exact flat_set L k i u r h.2 hk hi
end Go.Proofs.YtdeggdmoijfhdaaDoor
