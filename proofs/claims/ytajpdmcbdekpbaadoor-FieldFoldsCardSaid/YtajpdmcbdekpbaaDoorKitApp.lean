/-
  My kit: an append that keeps what it read; elements of a slice of the call's own in drawn regions.
-/
import Derived.Test.YtajpdmcbdekpbaaDoorKitEq
namespace Go.Proofs.YtajpdmcbdekpbaaDoor
open Go Go.RowKit

section
variable {P : Program} {ops : Array Oper} {Q : Exit → Act → World → Prop} {rest : List Oper} {o : Oper} {a : Act} {w : World}

theorem run_append_keep (base : Nat) (t ty e : TypeId) (i : TypeInfo) (z : Value) (ht : P.underlying t = some (.slice e)) (hi : P.info? e = some i) (hz : i.zero = some z) (hsize : i.size = 1) (hzs : z.cells.size = 1)
    (g n cap : Nat) (xs : List Value) (hown : w.ownsRow base e 1 (.slice (some ⟨g, 0, none⟩) n cap) n xs)
    (ad : Addr) (m c : Nat) (news : List Value) (hl : news.length = m) (hnews : ∀ j u, news[j]? = some u → w.cell? (ad.add j) = some u) (h1 : ∀ u ∈ news, u.oneCell' = true)
    (h63 : n + m ≤ maxLen) (hbytes : (n + m) * i.bytes ≤ 140737488355328) (hbase : base ≤ w.heap.size) :
    ∃ v' w', (Builtin.append_ #[t, t] ty #[.slice (some ⟨g, 0, none⟩) n cap, .slice (some ad) m c]).run P w = .ok v' w' ∧ w'.ownsRow base e 1 v' (n + m) (xs ++ news) ∧ w.grownBy w' (some g) ∧
      ∀ j u, xs[j]? = some u → w'.cell? ⟨g, j, none⟩ = some u := by
  obtain ⟨v', w', hr, h2, h3, -⟩ := run_append_own (P := P) w base t ty e i z 1 i.bytes ht hi hz hsize rfl hzs (by decide) _ n xs hown ad m c news (by simpa using hl) hnews h1 h63 hbytes hbase
  refine ⟨v', w', hr, h2, h3, ?_⟩
  have holds : ∀ j u, xs[j]? = some u → w.cell? ((⟨g, 0, none⟩ : Addr).add j) = some u := hown.cells (g := g) rfl
  have hsm : n + m ≤ 9223372036854775807 := by simp only [maxLen] at h63; omega
  rcases hown.2 with ⟨hh, -⟩ | ⟨g', cap', cur, hh, hbg, hg, hnc, hcm, hcs, htake⟩
  · cases hh
  · simp only [Value.slice.injEq, Option.some.injEq, Addr.mk.injEq, and_true, true_and] at hh
    obtain ⟨rfl, rfl⟩ := hh
    by_cases hroom : n + m ≤ cap
    · have hr2 := run_append_room (P := P) w t ty e i ht hi g n cap cur hg ad m c news (by rw [hsize]; simpa using hl) hnews h1 hroom (by rw [hsize, hl, hcs]; omega)
      rw [hr] at hr2
      simp only [Result.ok.injEq] at hr2
      obtain ⟨rfl, rfl⟩ := hr2
      intro j u hu
      have := h2.cells (g := g) rfl j u (by rw [List.getElem?_append_left (List.getElem?_eq_some_iff.1 hu).1]; exact hu)
      rwa [add_none, Nat.zero_add] at this
    · have hr2 := run_append_grow (P := P) w t ty e i z ht hi hz ⟨g, 0, none⟩ n cap xs (by rw [hown.1, hsize]) holds ad m c news (by rw [hsize]; simpa using hl) hnews (by omega) (by omega) (growslice_fits (by omega) hbytes)
      rw [hr] at hr2
      simp only [Result.ok.injEq] at hr2
      obtain ⟨rfl, rfl⟩ := hr2
      intro j u hu
      have h0 := holds j u hu
      rw [add_none, Nat.zero_add] at h0
      rw [← h0]
      have hlt : g < w.heap.size := (Array.getElem?_eq_some_iff.1 hg).1
      unfold World.cell?
      rw [show (World.alloc _ _).heap[g]? = w.drew.heap[g]? from heap_alloc_old w.drew _ hlt]
      rfl

/-- append(s, x...) that keeps what s read. -/
theorem kAppendKeep (s x : Operand) (T E : TypeId) (ho : o.op = .call { callee := .builtin .append, args := #[s, x], argTypes := #[T, T] }) (hg : Region.wanted o (yielded ops a.tmps) = true)
    (base : Nat) (i : TypeInfo) (z : Value) (ht : P.underlying T = some (.slice E)) (hi : P.info? E = some i) (hz : i.zero = some z) (hsize : i.size = 1) (hzs : z.cells.size = 1)
    (g n cap : Nat) (y : Value) (xs news : List Value) (hs : a.eval s = .slice (some ⟨g, 0, none⟩) n cap) (hown : w.ownsRow base E 1 (.slice (some ⟨g, 0, none⟩) n cap) n xs) (hx : a.eval x = y) (hy : IsVals w y news) (hnn : news ≠ []) (h1 : ∀ u ∈ news, u.oneCell' = true)
    (h63 : n + news.length ≤ maxLen) (hbytes : (n + news.length) * i.bytes ≤ 140737488355328) (hbase : base ≤ w.heap.size)
    (h : ∀ v' w', w'.ownsRow base E 1 v' (n + news.length) (xs ++ news) → w.grownBy w' (some g) → (∀ j u, xs[j]? = some u → w'.cell? ⟨g, j, none⟩ = some u) → wpList P ops Q rest (a.put o.dst v') w') : wpList P ops Q (o :: rest) a w := by
  obtain ⟨ao, c, rfl, hc, hn, hj⟩ := hy
  cases ao with
  | none =>
    cases news with
    | nil => exact absurd rfl hnn
    | cons u us => obtain ⟨a, ha, _⟩ := hj 0 u rfl; cases ha
  | some ad =>
    obtain ⟨v', w', hr, h2, h3, h4⟩ := run_append_keep (P := P) (w := w) base T o.type E i z ht hi hz hsize hzs g n cap xs hown ad news.length c news rfl (fun j u hu => by obtain ⟨a', ha, hcell⟩ := hj j u hu; cases ha; exact hcell) h1 h63 hbytes hbase
    refine BigFrame.wpList_want hg fun K hK => ?_
    unfold Oper.wp execOp
    simp only [ho, resolve, invoke, builtin, Sem.run_bind, Sem.run_pure, Result.andThen_ok, List.map_toArray, List.map_cons, List.map_nil, hs, hx, hr]
    exact hK _ _ (h v' w' h2 h3 h4)
end

theorem run_indexAddrG {P : Program} {w : World} {T E : TypeId} {k : IntKind} {g len cap j : Nat} {i : Int} (ht : P.underlying T = some (.slice E)) (hs : (P.info? E).map (·.size) = some 1) (hi : i = (j : Int)) (hj : j < len) :
    (Instr.indexAt T (.slice (some ⟨g, 0, none⟩) len cap) (.int k i)).run P w = .ok (.pointer (some ⟨g, j, none⟩)) w := by
  subst hi
  cases hq : P.info? E with
  | none => simp [hq] at hs
  | some t =>
    have hs' : t.size = 1 := by simpa [hq] using hs
    have hc : (0 : Int) ≤ (j : Int) ∧ (j : Int) < (len : Int) := by omega
    simp [Instr.indexAt, asIntOf, run_underlying ht, hc, sizeOf, typeInfo, hq, hs', add_none]
    intro hle; omega

section
variable {P : Program} {ops : Array Oper} {C : World → Prop} {Q : Act → Prop} {rest : List Oper} {o : Oper} {a : Act}
theorem qIndexAddrG (T E : TypeId) (x y : Operand) (k : IntKind) (g len cap : Nat) (i : Int) (j : Nat) (ho : o.op = .indexAddr T x y) (hg : Region.wanted o (yielded ops a.tmps) = true)
    (hx : a.eval x = .slice (some ⟨g, 0, none⟩) len cap) (hy : a.eval y = .int k i) (ht : P.underlying T = some (.slice E)) (hs : (P.info? E).map (·.size) = some 1) (hi : i = (j : Int)) (hj : j < len)
    (h : wpQuiet P ops C Q rest (a.put o.dst (.pointer (some ⟨g, j, none⟩)))) : wpQuiet P ops C Q (o :: rest) a := by
  refine qStep _ hg (fun w _ => ?_) h
  unfold execOp
  simp only [ho, hx, hy, Sem.run_bind, run_indexAddrG ht hs hi hj, Result.andThen_ok, Sem.run_pure]
end

section
variable {P : Program} {ops : Array Oper} {S : World → Prop} {Q : Exit → Act → World → Prop} {L : Act → World → Prop} {bs : List Bool} {o : Oper} {rest : List Oper} {a : Act} {w : World}
theorem mixIndexAddrG (T E : TypeId) (x y : Operand) (k : IntKind) (g len cap : Nat) (i : Int) (j : Nat) (hS : S w) (ho : o.op = .indexAddr T x y) (hg : Region.wanted o (yielded ops a.tmps) = true)
    (hx : a.eval x = .slice (some ⟨g, 0, none⟩) len cap) (hy : a.eval y = .int k i) (ht : P.underlying T = some (.slice E)) (hs : (P.info? E).map (·.size) = some 1) (hi : i = (j : Int)) (hj : j < len)
    (h : wpMix P ops Q S L bs rest (a.put o.dst (.pointer (some ⟨g, j, none⟩))) w) : wpMix P ops Q S L (true :: bs) (o :: rest) a w :=
  mixQuiet _ hS hg (fun w _ => by unfold execOp; simp only [ho, hx, hy, Sem.run_bind, run_indexAddrG ht hs hi hj, Result.andThen_ok, Sem.run_pure]) h
theorem mixLoadCell (T : TypeId) (x : Operand) (g off : Nat) (v : Value) (d : TypeDesc) (hS : S w) (ho : o.op = .load T x) (hg : Region.wanted o (yielded ops a.tmps) = true)
    (hx : a.eval x = .pointer (some ⟨g, off, none⟩)) (hr : ∀ w, S w → w.cell? ⟨g, off, none⟩ = some v) (hu : P.underlying T = some d) (hd : aggDesc d = false)
    (h : wpMix P ops Q S L bs rest (a.put o.dst v) w) : wpMix P ops Q S L (true :: bs) (o :: rest) a w := by
  refine mixQuiet _ hS hg (fun w hw => ?_) h
  unfold execOp
  have hcell := hr w hw
  have hl : (loadVar T ⟨g, off, none⟩).run P w = .ok v w := by simp [loadVar, Sem.run_bind, run_isAgg hu, hd, load, Sem.run, hcell]
  simp only [ho, hx, Instr.loadAt, Instr.sureAddr, Sem.run_bind, Sem.run_pure, Result.andThen_ok, hl]
end

section
variable {P : Program} {ops : Array Oper} {Q : Exit → Act → World → Prop} {rest : List Oper} {o : Oper} {a : Act} {w : World}
/-- A slice of no element. -/
theorem kBuildSlice0 (T E : TypeId) (ho : o.op = .buildSlice T 0 #[]) (hg : Region.wanted o (yielded ops a.tmps) = true) (ht : P.underlying T = some (.slice E)) (i : TypeInfo) (hi : P.info? E = some i)
    (h : ∀ w1, Row w1 w.heap.size E #[] → w1.heap.size = w.heap.size + 1 → Below w.heap.size w w1 → wpList P ops Q rest (a.put o.dst (.slice (some ⟨w.heap.size, 0, none⟩) 0 0)) w1) : wpList P ops Q (o :: rest) a w := by
  refine BigFrame.wpList_want hg fun K hK => ?_
  unfold Oper.wp execOp
  have hrun : (Instr.buildSlice T 0 #[]).run P w = .ok (.slice (some ⟨w.heap.size, 0, none⟩) 0 0) (w.alloc (.cells #[] E)) := by
    simp [Instr.buildSlice, run_underlying ht, sizeOf, typeInfo, hi, Instr.fill, newRow, newObj, Sem.run]
    rw [map_range]; rfl
  simp only [ho, List.map_toArray, List.map_nil, Sem.run_bind, hrun, Result.andThen_ok, Sem.run_pure]
  exact hK _ _ (h _ (heap_alloc_new w _) (by simp) ((Below.refl _ _).alloc (Nat.le_refl _) _))
theorem kLenN (T : TypeId) (x : Operand) (E : TypeId) (v : Value) (l : List Value) (n : Nat) (ho : o.op = .call { callee := .builtin .len, args := #[x], argTypes := #[T] }) (hg : Region.wanted o (yielded ops a.tmps) = true) (hx : a.eval x = v) (hv : IsVals w v l) (hn : l.length = n) (ht : P.underlying T = some (.slice E))
    (h : wpList P ops Q rest (a.put o.dst (.int .i64 (n : Int))) w) : wpList P ops Q (o :: rest) a w := by
  subst hn; exact kLen T x E v l ho hg hx hv ht h
end
theorem own_empty {w : World} {g base : Nat} {E : TypeId} (hb : base ≤ g) (h : Row w g E #[]) : w.ownsRow base E 1 (.slice (some ⟨g, 0, none⟩) 0 0) 0 [] :=
  ⟨rfl, .inr ⟨g, 0, _, rfl, hb, h, Nat.zero_le _, by decide, by simp, by simp⟩⟩
end Go.Proofs.YtajpdmcbdekpbaaDoor
