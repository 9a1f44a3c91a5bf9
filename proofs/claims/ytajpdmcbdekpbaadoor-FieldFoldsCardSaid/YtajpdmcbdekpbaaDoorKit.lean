/-
  A small kit of laws of my own, over whatever program: regions that draw their order and end in one forced tail, over a class of worlds; rows of cells that are made, read and written whole, the world behind each step a variable.
-/
import Derived.WalkKit
import Derived.WalkSpells
import Derived.WalkLawsBesides
import Derived.Lib.Hide
import Derived.StillTail
import Derived.Deep.Quiet
import Derived.Lib.QuietBelow
import Derived.BigQuiet
namespace Go.Proofs.YtajpdmcbdekpbaaDoor
open Go Go.RowKit Go.Sort

section
variable {P : Program} {ops : Array Oper} {md : Region.Mode} {C : World → Prop}

/-- The head of a region in whatever order, each of its operations quiet over the class; then what L says. -/
def headAny (P : Program) (md : Region.Mode) (ops : Array Oper) (C : World → Prop) (n : Nat) (L : Array Bool → Act → Prop) : Nat → Array Bool → Act → Prop
  | 0, listed, a => L listed a
  | f + 1, listed, a => Region.ready md ops listed ≠ [] ∧ ∀ i ∈ Region.ready md ops listed, i < n ∧ qOp P ops C i (headAny P md ops C n L f (listed.setIfInBounds i true)) a

theorem any_of_headAny {n g : Nat} {L : Array Bool → Act → Prop} {Q' : Exit → Act → World → Prop} (hL : ∀ listed a w, C w → L listed a → wpAny P md ops Q' g listed a w) :
    ∀ (f : Nat) (listed : Array Bool) (a : Act) (w : World), C w → headAny P md ops C n L f listed a → wpAny P md ops Q' (f + g) listed a w
  | 0, listed, a, w, hw, h => by rw [Nat.zero_add]; exact hL _ _ _ hw h
  | f + 1, listed, a, w, hw, h => by
    rw [show f + 1 + g = (f + g) + 1 by omega]
    exact ⟨fun h0 => absurd h0 h.1, fun i hi => wpOp_of_qOp hw (fun a' w' hw' h' => any_of_headAny hL f _ a' w' hw' h') (h.2 i hi).2⟩

theorem headAny_first {n i : Nat} {oi : Oper} {v : Value} {L : Array Bool → Act → Prop} (hi : ops[i]? = some oi) (hsel : ∀ (j : Nat) (o : Oper) cs b, ops[j]? = some o → o.op ≠ .select cs b)
    (hs : Region.sinkB md ops n = true) (hc : Region.chainB md ops n = true) (hn : n < ops.size) (hin : i < n)
    (hdone : ∀ listed a, L listed a → ∀ j ∈ Region.ready md ops listed, n ≤ j) (f : Nat) :
    ∀ (listed : Array Bool) (a : Act), HeadInv md ops n listed →
      (∀ j oj, ops[j]? = some oj → j ≠ i → listed.getD j true = false → (∀ e ∈ oj.after, Region.binds md e = true → e.on ≠ i) → oi.apart ops oj = true) →
      i ∈ Region.ready md ops listed → YieldsIn P ops C oi v a →
      headAny P md ops C n L f (listed.setIfInBounds i true) (a.put oi.dst v) → headAny P md ops C n L (f + 1) listed a := by
  induction f with
  | zero =>
    intro listed a inv _ hr hy H
    have early : ∀ j ∈ Region.ready md ops listed, j < n := fun j hj => by
      rcases Nat.lt_or_ge j n with h | h
      · exact h
      · exact absurd hj (tail_waits hs hc hn inv _ i rfl hin (mem_ready.1 hr).1 j h)
    refine ⟨fun h => (by rw [h] at hr; cases hr), fun j hj => ⟨early j hj, ?_⟩⟩
    by_cases hji : j = i
    · subst hji; exact hy.qOp hi H
    · have h1 := hdone _ _ H j (ready_mono hj hji)
      have h2 := early j hj
      omega
  | succ f ih =>
    intro listed a inv hfree hr hy H
    have hun := (mem_ready.1 hr).1
    have early : ∀ j ∈ Region.ready md ops listed, j < n := fun j hj => by
      rcases Nat.lt_or_ge j n with h | h
      · exact h
      · exact absurd hj (tail_waits hs hc hn inv _ i rfl hin hun j h)
    refine ⟨fun h => (by rw [h] at hr; cases hr), fun j hj => ⟨early j hj, ?_⟩⟩
    by_cases hji : j = i
    · subst hji; exact hy.qOp hi H
    · obtain ⟨hjun, oj, hoj, hall⟩ := mem_ready.1 hj
      have hnot : ∀ e ∈ oj.after, Region.binds md e = true → e.on ≠ i := fun e he hb heq => by
        have h1 := hall e he hb
        rw [heq, getD_both hun] at h1
        cases h1
      have h2 := qOp_put hoj (hfree j oj hoj hji hjun hnot) (fun cs b => hsel i oi cs b hi) (fun cs b => hsel j oj cs b hoj) hy (H.2 j (ready_mono hj hji)).2
      refine qOp_mono (fun a' h3 => ih (listed.setIfInBounds j true) a' (inv.set hj (early j hj)) (fun k ok hk hki hu hno => ?_) (ready_mono hr (Ne.symm hji)) h3.1 ?_) h2
      · refine hfree k ok hk hki ?_ hno
        by_cases hjk : j = k
        · subst hjk; exact hjun
        · rw [getD_set_ne true hjk] at hu; exact hu
      · rw [Array.setIfInBounds_comm _ _ hji]; exact h3.2

theorem headAny_lex {n g : Nat} {Lq : Act → Prop} (hsel : Region.noSelect ops = true) (hs : Region.sinkB md ops n = true) (hc : Region.chainB md ops n = true) (hn : n < ops.size) :
    ∀ (l : List Oper) (k : Nat) (listed : Array Bool) (a : Act), (∀ j, j < l.length → l[j]? = ops[k + j]?) → k + l.length = n → HeadInv md ops n listed →
    Region.lexHead md ops g l.length k listed = true → wpQuiet P ops C Lq l a →
    headAny P md ops C n (fun listed' a' => Region.seqB md ops g n listed' = true ∧ Lq a') l.length listed a
  | [], k, listed, a, _, hk, _, hB, h => by
    obtain rfl : k = n := by simpa using hk
    exact ⟨by simpa [Region.lexHead] using hB, h⟩
  | o :: l, k, listed, a, hl, hk, inv, hB, h => by
    have h0 : ops[k]? = some o := by simpa using (hl 0 (by simp)).symm
    simp only [List.length_cons, Region.lexHead, Bool.and_eq_true] at hB
    obtain ⟨⟨hr, hf⟩, hB'⟩ := hB
    have hkn : k < n := by simp only [List.length_cons] at hk; omega
    have hr' : k ∈ Region.ready md ops listed := by simpa using hr
    have hq : qOp P ops C k (wpQuiet P ops C Lq l) a := by unfold qOp; simp only [h0]; exact h
    obtain ⟨v, hy, hK⟩ := yieldsIn_of_qOp h0 hq
    exact headAny_first h0 (Region.noSelect_spec hsel) hs hc hn hkn (fun listed' a' hL => seqB_ready hL.1) l.length listed a inv (Region.free_spec h0 hf) hr' hy
      (headAny_lex hsel hs hc hn l (k + 1) _ _ (fun j hj => by have := hl (j + 1) (by simp; omega); simpa [Nat.add_assoc, Nat.add_comm 1 j] using this) (by simp only [List.length_cons] at hk; omega) (inv.set hr' hkn) hB' hK)

/-- A REGION THAT DRAWS ITS ORDER: its first n operations are quiet over the class C of worlds, the others follow in one forced order. -/
theorem region_qtail {id : Nat} {Q : Exit → Act → World → Prop} {a : Act} {w : World} {l : List Oper} (n : Nat) (hm : P.follows .mixedOrders = true) (hB : Region.lexTailB .any l.toArray n = true)
    (hC : C { w with drawn := w.drawn + 1 })
    (h : wpQuiet P l.toArray C (fun a' => ∀ w', C w' → wpList P l.toArray Q (l.drop n) a' w') (l.take n) a) : (Code.region id l.toArray true).wp P Q a w := by
  simp only [Region.lexTailB, Bool.and_eq_true, decide_eq_true_eq] at hB
  obtain ⟨⟨⟨⟨hsel, hn⟩, hs⟩, hc⟩, hlex⟩ := hB
  have htl : (l.take n).length = n := by have : n < l.length := by simpa using hn
                                         simp; omega
  have hdl : (l.drop n).length = l.toArray.size - n := by simp
  have inv0 : HeadInv .any l.toArray n (Array.replicate l.toArray.size false) :=
    ⟨by simp, fun j oj _ hl => (by rw [getD_replicate_false] at hl; cases hl), fun t _ ht => getD_in (by simpa using ht) (getD_replicate_false _ _)⟩
  have H := headAny_lex (md := .any) (g := l.toArray.size - n) hsel hs hc hn (l.take n) 0 _ a (fun j hj => by
    have hj' : j < n := by rw [htl] at hj; exact hj
    simp [hj']) (by simpa using htl) inv0 (by rw [htl]; exact hlex) h
  refine wp_region_any hm ?_
  have := any_of_headAny (Q' := Q) (g := l.toArray.size - n) (fun listed a' w' hw' hL => by
    have := wpAny_of_seq (md := .any) (Q' := Q) (l.drop n) n listed a' w' (fun j => by simp [List.getElem?_drop]) (by rw [hdl]; exact hL.1) (hL.2 w' hw')
    rwa [hdl] at this) _ _ _ _ hC H
  rw [htl, show n + (l.toArray.size - n) = l.toArray.size by omega] at this
  exact this

/-- .. at the class 'of what was there nothing has turned'. -/
theorem region_below_tail {id : Nat} {Q : Exit → Act → World → Prop} {a : Act} {w : World} {l : List Oper} (n : Nat) (hm : P.follows .mixedOrders = true) (hB : Region.lexTailB .any l.toArray n = true)
    (h : wpQuiet P l.toArray (fun w' => ∃ p : Regrown, w' = grow (redrawn w p.d) p.os) (fun a' => ∀ w', (∃ p : Regrown, w' = grow (redrawn w p.d) p.os) → wpList P l.toArray Q (l.drop n) a' w') (l.take n) a) : (Code.region id l.toArray true).wp P Q a w :=
  region_qtail n hm hB ⟨⟨w.drawn + 1, #[]⟩, by rw [grow_empty]; rfl⟩ h
end

/-- Block g is a row of these cells, of this type, none of them frozen. -/
def Row (w : World) (g : Nat) (T : TypeId) (cs : Array Value) : Prop := w.heap[g]? = some (.cells cs T (0, 0))
theorem Row.lt {w : World} {g : Nat} {T : TypeId} {cs : Array Value} (h : Row w g T cs) : g < w.heap.size := (Array.getElem?_eq_some_iff.1 h).1
theorem Row.cell {w : World} {g : Nat} {T : TypeId} {cs : Array Value} (h : Row w g T cs) (j : Nat) : w.cell? ⟨g, j, none⟩ = cs[j]? := cell_of_row w g j cs T _ h
theorem Row.frozen {w : World} {g : Nat} {T : TypeId} {cs : Array Value} (h : Row w g T cs) (j : Nat) : w.frozen? ⟨g, j, none⟩ = false := frozen_of_row w g j cs T h
theorem Row.below {B : Nat} {w w' : World} {g : Nat} {T : TypeId} {cs : Array Value} (h : Row w g T cs) (hb : Below B w w') (hg : g < B) : Row w' g T cs := by
  unfold Row at *; rw [hb.block g hg]; exact h
theorem Row.drew {w : World} {g : Nat} {T : TypeId} {cs : Array Value} (h : Row w g T cs) : Row w.drew g T cs := h
theorem Row.alloc {w : World} {g : Nat} {T : TypeId} {cs : Array Value} (h : Row w g T cs) (o : Obj) : Row (w.alloc o) g T cs := by
  unfold Row; rw [Below.heap_alloc _ _ _ h.lt]; exact h

/-- Only block g may have turned, and no block has come. -/
structure Wrote (g : Nat) (w w' : World) : Prop where
  os : w'.os = w.os
  tape : w'.tape = w.tape
  output : w'.output = w.output
  size : w'.heap.size = w.heap.size
  other : ∀ k, k ≠ g → w'.heap[k]? = w.heap[k]?
theorem Wrote.row {g k : Nat} {w w' : World} {T : TypeId} {cs : Array Value} (h : Wrote g w w') (hr : Row w k T cs) (hk : k ≠ g) : Row w' k T cs := by
  unfold Row at *; rw [h.other k hk]; exact hr
theorem Wrote.below {B g : Nat} {w w' : World} (h : Wrote g w w') (hg : B ≤ g) : Below B w w' :=
  ⟨h.os, h.tape, h.output, Nat.le_of_eq h.size.symm, fun k hk => h.other k (by omega)⟩
theorem wrote_setRow (w : World) (g : Nat) (cs : Array Value) : Wrote g w (w.setRow g cs) :=
  ⟨rfl, rfl, rfl, by simp, fun k hk => setRow_other w g k cs hk⟩

section
variable {P : Program} {ops : Array Oper} {Q : Exit → Act → World → Prop} {rest : List Oper} {o : Oper} {a : Act} {w : World}

/-- A variable is laid, all nought. -/
theorem kAlloc (T : TypeId) (Z : Array Value) (ho : o.op = .alloc T) (hg : Region.wanted o (yielded ops a.tmps) = true) (hz : ((P.info? T).bind (·.zero)).map Value.cells = some Z)
    (h : ∀ w1, Row w1 w.heap.size T Z → w1.heap.size = w.heap.size + 1 → Below w.heap.size w w1 → wpList P ops Q rest (a.put o.dst (.pointer (some ⟨w.heap.size, 0, none⟩))) w1) : wpList P ops Q (o :: rest) a w := by
  refine BigFrame.wpList_want hg fun K hK => ?_
  unfold Oper.wp execOp
  cases hi : P.info? T with
  | none => simp [hi] at hz
  | some i =>
    cases hv : i.zero with
    | none => simp [hi, hv] at hz
    | some v =>
      have hc : v.cells = Z := by simpa [hi, hv] using hz
      have hr : (Instr.alloc T true (.tuple #[])).run P w = .ok (.pointer (some ⟨w.heap.size, 0, none⟩)) (w.alloc (.cells Z T)) := by
        simp [Instr.alloc, zeroValue, typeInfo, hi, hv, newVar, newRow, newObj, Sem.run, hc]
      simp only [ho, Sem.run_bind, hr, Result.andThen_ok, Sem.run_pure]
      exact hK _ _ (h _ (heap_alloc_new w _) (by simp) ((Below.refl _ _).alloc (Nat.le_refl _) _))

/-- A value is boxed. -/
theorem kBox (T : TypeId) (x : Operand) (cs : Array Value) (ho : o.op = .box T x) (hg : Region.wanted o (yielded ops a.tmps) = true) (hx : a.eval x = .agg cs)
    (h : ∀ w1, Row w1 w.heap.size T cs → w1.heap.size = w.heap.size + 1 → Below w.heap.size w w1 → wpList P ops Q rest (a.put o.dst (.pointer (some ⟨w.heap.size, 0, none⟩))) w1) : wpList P ops Q (o :: rest) a w := by
  refine BigFrame.wpList_want hg fun K hK => ?_
  unfold Oper.wp execOp
  have hr : (Instr.box T (.agg cs)).run P w = .ok (.pointer (some ⟨w.heap.size, 0, none⟩)) (w.alloc (.cells cs T)) := by
    simp [Instr.box, newVar, newRow, newObj, Sem.run, Value.cells]
  simp only [ho, hx, Sem.run_bind, hr, Result.andThen_ok, Sem.run_pure]
  exact hK _ _ (h _ (heap_alloc_new w _) (by simp) ((Below.refl _ _).alloc (Nat.le_refl _) _))

def aggDesc : TypeDesc → Bool | .struct _ | .array _ _ => true | _ => false
theorem run_isAgg {T : TypeId} {d : TypeDesc} (hu : P.underlying T = some d) (w : World) : (isAgg T).run P w = .ok (aggDesc d) w := by
  unfold isAgg; rw [Sem.run_bind, run_underlying hu w]; cases d <;> rfl
theorem add_none (g off j : Nat) : (⟨g, off, none⟩ : Addr).add j = ⟨g, off + j, none⟩ := by unfold Addr.add; split <;> simp_all

/-- A part of a row is read as one value. -/
theorem run_loadPart {T U : TypeId} {d : TypeDesc} {g off n : Nat} {cs : Array Value} (hr : Row w g U cs) (hu : P.underlying T = some d) (hd : aggDesc d = true)
    (hi : (P.info? T).map (·.size) = some n) (hn : off + n ≤ cs.size) : (loadVar T ⟨g, off, none⟩).run P w = .ok (.agg (cs.extract off (off + n))) w := by
  have hlen : (cs.extract off (off + n)).size = n := by simp; omega
  have hl : (loadCells ⟨g, off, none⟩ (cs.extract off (off + n)).toList.length).run P w = .ok (cs.extract off (off + n)).toList.toArray w :=
    run_loadCells_list (P := P) w ⟨g, off, none⟩ (cs.extract off (off + n)).toList (fun j v hv => by
      rw [add_none, hr.cell]
      have hv' : (cs.extract off (off + n))[j]? = some v := by rw [← Array.getElem?_toList]; exact hv
      rw [Array.getElem?_extract] at hv'
      split at hv'
      · exact hv'
      · cases hv')
  cases hq : P.info? T with
  | none => simp [hq] at hi
  | some i =>
    have hs : i.size = n := by simpa [hq] using hi
    rw [Array.length_toList, hlen, Array.toArray_toList] at hl
    simp [loadVar, Sem.run_bind, run_isAgg hu, hd, sizeOf, typeInfo, hq, hs, hl]

theorem kLoadPart (T U : TypeId) (x : Operand) (g off n : Nat) (cs : Array Value) (d : TypeDesc) (ho : o.op = .load T x) (hg : Region.wanted o (yielded ops a.tmps) = true)
    (hx : a.eval x = .pointer (some ⟨g, off, none⟩)) (hr : Row w g U cs) (hu : P.underlying T = some d) (hd : aggDesc d = true)
    (hi : (P.info? T).map (·.size) = some n) (hn : off + n ≤ cs.size)
    (h : wpList P ops Q rest (a.put o.dst (.agg (cs.extract off (off + n)))) w) : wpList P ops Q (o :: rest) a w := by
  refine BigFrame.wpList_want hg fun K hK => ?_
  unfold Oper.wp execOp
  simp only [ho, hx, Instr.loadAt, Instr.sureAddr, Sem.run_bind, Sem.run_pure, Result.andThen_ok, run_loadPart hr hu hd hi hn]
  exact hK _ _ h

/-- A whole row is read as one value. -/
theorem kLoadRow (T U : TypeId) (x : Operand) (g : Nat) (cs : Array Value) (d : TypeDesc) (ho : o.op = .load T x) (hg : Region.wanted o (yielded ops a.tmps) = true)
    (hx : a.eval x = .pointer (some ⟨g, 0, none⟩)) (hr : Row w g U cs) (hu : P.underlying T = some d) (hd : aggDesc d = true)
    (hi : (P.info? T).map (·.size) = some cs.size)
    (h : wpList P ops Q rest (a.put o.dst (.agg cs)) w) : wpList P ops Q (o :: rest) a w :=
  kLoadPart T U x g 0 cs.size cs d ho hg hx hr hu hd hi (by omega) (by simpa using h)

/-- What a row holds behind a write of some values at a place. -/
def splice (cs : Array Value) (off : Nat) (vs : List Value) : Array Value := (cs.toList.take off ++ vs ++ cs.toList.drop (off + vs.length)).toArray

/-- A value is written over a part of a row. -/
theorem kStorePart (T U : TypeId) (x y : Operand) (g off : Nat) (cs : Array Value) (vs : Array Value) (ho : o.op = .store T x y) (hg : Region.wanted o (yielded ops a.tmps) = true)
    (hx : a.eval x = .pointer (some ⟨g, off, none⟩)) (hy : a.eval y = .agg vs) (hr : Row w g U cs)
    (hi : (P.info? T).map (·.size) = some vs.size) (hn : off + vs.size ≤ cs.size) (h1 : ∀ v ∈ vs, v.oneCell' = true)
    (h : ∀ w1, Row w1 g U (splice cs off vs.toList) → Wrote g w w1 → wpList P ops Q rest (a.put o.dst undef) w1) : wpList P ops Q (o :: rest) a w := by
  refine BigFrame.wpList_want hg fun K hK => ?_
  unfold Oper.wp execOp
  have hst := run_storeCells_at P g off U vs.toList 0 cs w hr (by simpa using hn) (by simpa using h1)
  cases hq : P.info? T with
  | none => simp [hq] at hi
  | some i =>
    have hs : i.size = vs.size := by simpa [hq] using hi
    have hrun : (Instr.storeAt T (.pointer (some ⟨g, off, none⟩)) (.agg vs)).run P w = .ok () (w.setRow g (splice cs off vs.toList)) := by
      simp only [Nat.add_zero] at hst
      simp [Instr.storeAt, Instr.sureAddr, storeVar, Value.cells, sizeOf, typeInfo, hq, hs, hst, splice]
    simp only [ho, hx, hy, Sem.run_bind, hrun, Result.andThen_ok, Sem.run_pure]
    exact hK _ _ (h _ (setRow_heap w g cs _ U _ hr) (wrote_setRow w g _))

/-- A value is written over a whole row. -/
theorem kStoreRow (T U : TypeId) (x y : Operand) (g : Nat) (cs : Array Value) (vs : Array Value) (ho : o.op = .store T x y) (hg : Region.wanted o (yielded ops a.tmps) = true)
    (hx : a.eval x = .pointer (some ⟨g, 0, none⟩)) (hy : a.eval y = .agg vs) (hr : Row w g U cs)
    (hi : (P.info? T).map (·.size) = some vs.size) (hn : vs.size = cs.size) (h1 : ∀ v ∈ vs, v.oneCell' = true)
    (h : ∀ w1, Row w1 g U vs → Wrote g w w1 → wpList P ops Q rest (a.put o.dst undef) w1) : wpList P ops Q (o :: rest) a w :=
  kStorePart T U x y g 0 cs vs ho hg hx hy hr hi (by omega) h1 (fun w1 hr1 hw1 => h w1 (by
    have e : splice cs 0 vs.toList = vs := by
      have hd : cs.toList.drop cs.size = [] := List.drop_eq_nil_of_le (by simp)
      simp [splice, hn, hd]
    rw [e] at hr1; exact hr1) hw1)

/-- One cell of a row is written. -/
theorem kStore1 (T U : TypeId) (x y : Operand) (g off : Nat) (cs : Array Value) (v : Value) (ho : o.op = .store T x y) (hg : Region.wanted o (yielded ops a.tmps) = true)
    (hx : a.eval x = .pointer (some ⟨g, off, none⟩)) (hy : a.eval y = v) (hr : Row w g U cs) (hi : (P.info? T).map (·.size) = some 1)
    (hn : off < cs.size) (h1 : v.oneCell' = true)
    (h : ∀ w1, Row w1 g U (cs.setIfInBounds off v) → Wrote g w w1 → wpList P ops Q rest (a.put o.dst undef) w1) : wpList P ops Q (o :: rest) a w := by
  refine BigFrame.wpList_want hg fun K hK => ?_
  unfold Oper.wp execOp
  have hc : v.cells = #[v] := by cases v <;> first | rfl | cases h1
  have hcell : w.cell? ⟨g, off, none⟩ = some cs[off] := by rw [hr.cell]; simp [hn]
  cases hq : P.info? T with
  | none => simp [hq] at hi
  | some i =>
    have hs : i.size = 1 := by simpa [hq] using hi
    have hrun : (Instr.storeAt T (.pointer (some ⟨g, off, none⟩)) v).run P w = .ok () (w.setRow g (cs.setIfInBounds off v)) := by
      simp [Instr.storeAt, Instr.sureAddr, storeVar, hc, sizeOf, typeInfo, hq, hs, storeCells, add_none, run_store P w _ v _ h1, hcell, hr.frozen, setCell_eq_setRow w g off cs U (0, 0) v hr]
    simp only [ho, hx, hy, Sem.run_bind, hrun, Result.andThen_ok, Sem.run_pure]
    exact hK _ _ (h _ (setRow_heap w g cs _ U _ hr) (wrote_setRow w g _))

/-- One cell of a row is read. -/
theorem run_load1 {T U : TypeId} {d : TypeDesc} {g off : Nat} {cs : Array Value} {v : Value} (hr : Row w g U cs) (hu : P.underlying T = some d) (hd : aggDesc d = false)
    (hv : cs[off]? = some v) : (loadVar T ⟨g, off, none⟩).run P w = .ok v w := by
  have hcell : w.cell? ⟨g, off, none⟩ = some v := by rw [hr.cell]; exact hv
  simp [loadVar, Sem.run_bind, run_isAgg hu, hd, load, Sem.run, hcell]
theorem kLoad1 (T U : TypeId) (x : Operand) (g off : Nat) (cs : Array Value) (v : Value) (d : TypeDesc) (ho : o.op = .load T x) (hg : Region.wanted o (yielded ops a.tmps) = true)
    (hx : a.eval x = .pointer (some ⟨g, off, none⟩)) (hr : Row w g U cs) (hu : P.underlying T = some d) (hd : aggDesc d = false) (hv : cs[off]? = some v)
    (h : wpList P ops Q rest (a.put o.dst v) w) : wpList P ops Q (o :: rest) a w := by
  refine BigFrame.wpList_want hg fun K hK => ?_
  unfold Oper.wp execOp
  simp only [ho, hx, Instr.loadAt, Instr.sureAddr, Sem.run_bind, Sem.run_pure, Result.andThen_ok, run_load1 hr hu hd hv]
  exact hK _ _ h

/-- What a function hands back that lies in a row of its own. -/
theorem result_row {fn : Func} {R : Ending → World → Prop} {p : Tmp} {T U : TypeId} {d : TypeDesc} {g : Nat} {cs : Array Value} (h : fn.results = #[.cell p T])
    (hp : a.tmps.getD p undef = .pointer (some ⟨g, 0, none⟩)) (hr : Row w g U cs) (hu : P.underlying T = some d) (hd : aggDesc d = true)
    (hi : (P.info? T).map (·.size) = some cs.size) (hdf : a.defers = []) (hR : R (.returned (.agg cs)) w) : bodyPost P fn R .ret a w :=
  bodyPost_ret (v := .agg cs) (results_cell_row h a.tmps w g U cs _ d hp hr hu (by cases d <;> first | rfl | cases hd) hi) hdf hR
/-- A value of an array, at an index. -/
theorem kIndex (T elem : TypeId) (x y : Operand) (k : IntKind) (cs : Array Value) (i : Int) (j len : Nat) (v : Value) (d : TypeDesc) (ho : o.op = .index T x y) (hg : Region.wanted o (yielded ops a.tmps) = true)
    (hx : a.eval x = .agg cs) (hy : a.eval y = .int k i) (hu : P.underlying T = some (.array len elem)) (he : P.underlying elem = some d) (hd : aggDesc d = false)
    (hs : (P.info? elem).map (·.size) = some 1) (hi : i = (j : Int)) (hj : j < len) (hv : cs[j]? = some v)
    (h : wpList P ops Q rest (a.put o.dst v) w) : wpList P ops Q (o :: rest) a w := by
  refine BigFrame.wpList_want hg fun K hK => ?_
  unfold Oper.wp execOp
  subst hi
  have hrun : (Instr.index T (.agg cs) (.int k (j : Int))).run P w = .ok v w := by
    cases hq : P.info? elem with
    | none => simp [hq] at hs
    | some t =>
      have hs' : t.size = 1 := by simpa [hq] using hs
      have hc : (0 : Int) ≤ (j : Int) ∧ (j : Int) < (len : Int) := by omega
      simp [Instr.index, asIntOf, run_underlying hu, hc, Go.part, run_isAgg he, hd, sizeOf, typeInfo, hq, hs', hv]
      intro hle; omega
  simp only [ho, hx, hy, Sem.run_bind, hrun, Result.andThen_ok, Sem.run_pure]
  exact hK _ _ h

/-- The address of an element of an array variable. -/
theorem kIndexAddr (T elem : TypeId) (x y : Operand) (k : IntKind) (g off : Nat) (i : Int) (j len s : Nat) (ho : o.op = .indexAddr T x y) (hg : Region.wanted o (yielded ops a.tmps) = true)
    (hx : a.eval x = .pointer (some ⟨g, off, none⟩)) (hy : a.eval y = .int k i) (hu : P.underlying T = some (.array len elem))
    (hs : (P.info? elem).map (·.size) = some s) (hi : i = (j : Int)) (hj : j < len)
    (h : wpList P ops Q rest (a.put o.dst (.pointer (some ⟨g, off + j * s, none⟩))) w) : wpList P ops Q (o :: rest) a w := by
  refine BigFrame.wpList_want hg fun K hK => ?_
  unfold Oper.wp execOp
  subst hi
  have hrun : (Instr.indexAt T (.pointer (some ⟨g, off, none⟩)) (.int k (j : Int))).run P w = .ok (.pointer (some ⟨g, off + j * s, none⟩)) w := by
    cases hq : P.info? elem with
    | none => simp [hq] at hs
    | some t =>
      have hs' : t.size = s := by simpa [hq] using hs
      have hc : (0 : Int) ≤ (j : Int) ∧ (j : Int) < (len : Int) := by omega
      simp [Instr.indexAt, asIntOf, run_underlying hu, hc, Instr.sureAddr, sizeOf, typeInfo, hq, hs', add_none]
      intro hle; omega
  simp only [ho, hx, hy, Sem.run_bind, hrun, Result.andThen_ok, Sem.run_pure]
  exact hK _ _ h
theorem kIndexAddr1 (T elem : TypeId) (x y : Operand) (k : IntKind) (g : Nat) (i : Int) (j len : Nat) (ho : o.op = .indexAddr T x y) (hg : Region.wanted o (yielded ops a.tmps) = true)
    (hx : a.eval x = .pointer (some ⟨g, 0, none⟩)) (hy : a.eval y = .int k i) (hu : P.underlying T = some (.array len elem))
    (hs : (P.info? elem).map (·.size) = some 1) (hi : i = (j : Int)) (hj : j < len)
    (h : wpList P ops Q rest (a.put o.dst (.pointer (some ⟨g, j, none⟩))) w) : wpList P ops Q (o :: rest) a w :=
  kIndexAddr T elem x y k g 0 i j len 1 ho hg hx hy hu hs hi hj (by simpa using h)
end

/-! ### the same in a quiet walk over a class of worlds -/
section
variable {P : Program} {ops : Array Oper} {C : World → Prop} {Q : Act → Prop} {rest : List Oper} {o : Oper} {a : Act}

theorem qStep (v : Value) (hg : Region.wanted o (yielded ops a.tmps) = true) (hv : ∀ w, C w → (execOp a.eval o).run P w = .ok (.value v) w) (h : wpQuiet P ops C Q rest (a.put o.dst v)) : wpQuiet P ops C Q (o :: rest) a :=
  wpQuiet_step fun K hK => by
    rw [if_pos hg]
    exact ⟨v, fun w hw => by unfold Oper.quietAt; rw [hv w hw]; exact ⟨rfl, rfl⟩, hK _ h⟩

theorem qIndexAddr (T elem : TypeId) (x y : Operand) (k : IntKind) (g off : Nat) (i : Int) (j len s : Nat) (ho : o.op = .indexAddr T x y) (hg : Region.wanted o (yielded ops a.tmps) = true)
    (hx : a.eval x = .pointer (some ⟨g, off, none⟩)) (hy : a.eval y = .int k i) (hu : P.underlying T = some (.array len elem))
    (hs : (P.info? elem).map (·.size) = some s) (hi : i = (j : Int)) (hj : j < len)
    (h : wpQuiet P ops C Q rest (a.put o.dst (.pointer (some ⟨g, off + j * s, none⟩)))) : wpQuiet P ops C Q (o :: rest) a := by
  refine qStep _ hg (fun w _ => ?_) h
  subst hi
  unfold execOp
  cases hq : P.info? elem with
  | none => simp [hq] at hs
  | some t =>
    have hs' : t.size = s := by simpa [hq] using hs
    have hc : (0 : Int) ≤ (j : Int) ∧ (j : Int) < (len : Int) := by omega
    simp only [ho, hx, hy]
    simp [Instr.indexAt, asIntOf, run_underlying hu, hc, Instr.sureAddr, sizeOf, typeInfo, hq, hs', add_none]
    omega
theorem qIndexAddr1 (T elem : TypeId) (x y : Operand) (k : IntKind) (g : Nat) (i : Int) (j len : Nat) (ho : o.op = .indexAddr T x y) (hg : Region.wanted o (yielded ops a.tmps) = true)
    (hx : a.eval x = .pointer (some ⟨g, 0, none⟩)) (hy : a.eval y = .int k i) (hu : P.underlying T = some (.array len elem))
    (hs : (P.info? elem).map (·.size) = some 1) (hi : i = (j : Int)) (hj : j < len)
    (h : wpQuiet P ops C Q rest (a.put o.dst (.pointer (some ⟨g, j, none⟩)))) : wpQuiet P ops C Q (o :: rest) a :=
  qIndexAddr T elem x y k g 0 i j len 1 ho hg hx hy hu hs hi hj (by simpa using h)

theorem qLoad1 (T U : TypeId) (x : Operand) (g off : Nat) (cs : Array Value) (v : Value) (d : TypeDesc) (ho : o.op = .load T x) (hg : Region.wanted o (yielded ops a.tmps) = true)
    (hx : a.eval x = .pointer (some ⟨g, off, none⟩)) (hr : ∀ w, C w → Row w g U cs) (hu : P.underlying T = some d) (hd : aggDesc d = false) (hv : cs[off]? = some v)
    (h : wpQuiet P ops C Q rest (a.put o.dst v)) : wpQuiet P ops C Q (o :: rest) a := by
  refine qStep _ hg (fun w hw => ?_) h
  unfold execOp
  simp only [ho, hx, Instr.loadAt, Instr.sureAddr, Sem.run_bind, Sem.run_pure, Result.andThen_ok, run_load1 (hr w hw) hu hd hv]

theorem qLoadPart (T U : TypeId) (x : Operand) (g off n : Nat) (cs : Array Value) (d : TypeDesc) (ho : o.op = .load T x) (hg : Region.wanted o (yielded ops a.tmps) = true)
    (hx : a.eval x = .pointer (some ⟨g, off, none⟩)) (hr : ∀ w, C w → Row w g U cs) (hu : P.underlying T = some d) (hd : aggDesc d = true)
    (hi : (P.info? T).map (·.size) = some n) (hn : off + n ≤ cs.size)
    (h : wpQuiet P ops C Q rest (a.put o.dst (.agg (cs.extract off (off + n))))) : wpQuiet P ops C Q (o :: rest) a := by
  refine qStep _ hg (fun w hw => ?_) h
  unfold execOp
  simp only [ho, hx, Instr.loadAt, Instr.sureAddr, Sem.run_bind, Sem.run_pure, Result.andThen_ok, run_loadPart (hr w hw) hu hd hi hn]

/-- A callee's contract that leaves the world alone, met in a world behind some draws. -/
theorem quiet_same {f : FuncId} {args : Array Value} {w : World} {n : Nat} {v : Value}
    (h : Calls P f args (w.drewN n) fun e w' => e = .returned v ∧ w.drewN n = w') : Calls P f args (w.drewN n) fun e w'' => e = .returned v ∧ ∃ m, w'' = w.drewN m :=
  h.mono fun _ _ ⟨he, hm⟩ => ⟨he, n, hm.symm⟩
theorem Row.drewN {w : World} {g : Nat} {T : TypeId} {cs : Array Value} (h : Row w g T cs) (n : Nat) : Row (w.drewN n) g T cs := h
theorem region_drew_tail {id : Nat} {Q : Exit → Act → World → Prop} {a : Act} {w : World} {l : List Oper} (n : Nat) (hm : P.follows .mixedOrders = true) (hB : Region.lexTailB .any l.toArray n = true)
    (h : wpQuiet P l.toArray (fun w' => ∃ n, w' = w.drewN n) (fun a' => ∀ w', (∃ n, w' = w.drewN n) → wpList P l.toArray Q (l.drop n) a' w') (l.take n) a) : (Code.region id l.toArray true).wp P Q a w :=
  region_qtail n hm hB ⟨1, rfl⟩ h
end

/-- A cell that is the same in every world of the class. -/
theorem qLoadCell {P : Program} {ops : Array Oper} {C : World → Prop} {Q : Act → Prop} {rest : List Oper} {o : Oper} {a : Act} (T : TypeId) (x : Operand) (g off : Nat) (v : Value) (d : TypeDesc) (ho : o.op = .load T x) (hg : Region.wanted o (yielded ops a.tmps) = true)
    (hx : a.eval x = .pointer (some ⟨g, off, none⟩)) (hr : ∀ w, C w → w.cell? ⟨g, off, none⟩ = some v) (hu : P.underlying T = some d) (hd : aggDesc d = false)
    (h : wpQuiet P ops C Q rest (a.put o.dst v)) : wpQuiet P ops C Q (o :: rest) a := by
  refine qStep _ hg (fun w hw => ?_) h
  unfold execOp
  have hcell := hr w hw
  have hl : (loadVar T ⟨g, off, none⟩).run P w = .ok v w := by simp [loadVar, Sem.run_bind, run_isAgg hu, hd, load, Sem.run, hcell]
  simp only [ho, hx, Instr.loadAt, Instr.sureAddr, Sem.run_bind, Sem.run_pure, Result.andThen_ok, hl]

theorem qLoadAs {P : Program} {ops : Array Oper} {C : World → Prop} {Q : Act → Prop} {rest : List Oper} {o : Oper} {a : Act} (T U : TypeId) (x : Operand) (g off n : Nat) (cs vs : Array Value) (d : TypeDesc) (ho : o.op = .load T x) (hg : Region.wanted o (yielded ops a.tmps) = true)
    (hx : a.eval x = .pointer (some ⟨g, off, none⟩)) (hr : ∀ w, C w → Row w g U cs) (hu : P.underlying T = some d) (hd : aggDesc d = true)
    (hi : (P.info? T).map (·.size) = some n) (hn : off + n ≤ cs.size) (hv : cs.extract off (off + n) = vs)
    (h : wpQuiet P ops C Q rest (a.put o.dst (.agg vs))) : wpQuiet P ops C Q (o :: rest) a :=
  qLoadPart T U x g off n cs d ho hg hx hr hu hd hi hn (by rw [hv]; exact h)
theorem kLoadAs {P : Program} {ops : Array Oper} {Q : Exit → Act → World → Prop} {rest : List Oper} {o : Oper} {a : Act} {w : World} (T U : TypeId) (x : Operand) (g off n : Nat) (cs vs : Array Value) (d : TypeDesc) (ho : o.op = .load T x) (hg : Region.wanted o (yielded ops a.tmps) = true)
    (hx : a.eval x = .pointer (some ⟨g, off, none⟩)) (hr : Row w g U cs) (hu : P.underlying T = some d) (hd : aggDesc d = true)
    (hi : (P.info? T).map (·.size) = some n) (hn : off + n ≤ cs.size) (hv : cs.extract off (off + n) = vs)
    (h : wpList P ops Q rest (a.put o.dst (.agg vs)) w) : wpList P ops Q (o :: rest) a w :=
  kLoadPart T U x g off n cs d ho hg hx hr hu hd hi hn (by rw [hv]; exact h)
theorem row_regrown {w : World} {g : Nat} {T : TypeId} {cs : Array Value} (h : Row w g T cs) {w' : World} (hw : ∃ p : Regrown, w' = grow (redrawn w p.d) p.os) : Row w' g T cs := by
  obtain ⟨p, rfl⟩ := hw; exact h.below (below_regrown w p.d p.os) h.lt

end Go.Proofs.YtajpdmcbdekpbaaDoor
