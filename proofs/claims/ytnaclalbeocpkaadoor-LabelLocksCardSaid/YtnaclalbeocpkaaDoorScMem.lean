/-
  Layer 7: a runner in memory, and the walks of below, pop, push, begin, turn and end.
-/
import Derived.Test.YtnaclalbeocpkaaDoorScWord2
namespace Go.Proofs.YtnaclalbeocpkaaDoor
open Go Go.RowKit

/-- blocks of all other kinds are as they were -/
def Kp (T : TypeId) (w w' : World) : Prop := ∀ (k : Nat) (cs : Array Value) (U : TypeId) (fz : Nat × Nat), w.heap[k]? = some (.cells cs U fz) → U ≠ T → w'.heap[k]? = some (.cells cs U fz)
theorem Kp.row {T U : TypeId} {w w' : World} {g : Nat} {cs : Array Value} (h : Kp T w w') (hr : Row w g U cs) (hU : U ≠ T) : Row w' g U cs := h g cs U (0, 0) hr hU
theorem Kp.own {T E : TypeId} {w w' : World} {base size n : Nat} {v : Value} {xs : List Value} (h : Kp T w w') (ho : w.ownsRow base E size v n xs) (hE : E ≠ T) : w'.ownsRow base E size v n xs :=
  ⟨ho.1, ho.2.imp id fun ⟨g, cap, cur, e, hb, hg, rest⟩ => ⟨g, cap, cur, e, hb, h g cur E (0, 0) hg hE, rest⟩⟩
theorem kp_below {w w' : World} (T : TypeId) (h : Below w.heap.size w w') : Kp T w w' := fun k cs U fz hk _ => by rw [h.block k (Array.getElem?_eq_some_iff.1 hk).1]; exact hk
theorem kp_wrote {w w' : World} {g : Nat} {T : TypeId} {cs : Array Value} (hr : Row w g T cs) (h : Wrote g w w') : Kp T w w' := fun k ds U fz hk hU => by
  rw [h.other k (by rintro rfl; rw [show w.heap[k]? = _ from hr] at hk; simp at hk; exact hU hk.2.1.symm)]; exact hk
theorem kp_grown {w w' : World} {base n : Nat} {T : TypeId} {v : Value} {xs : List Value} (ho : w.ownsRow base T 1 v n xs) (h : w.grownBy w' v.ownBlock) : Kp T w w' := fun k ds U fz hk hU => by
  rw [h.block k (Array.getElem?_eq_some_iff.1 hk).1 (by
    intro e
    rcases ho.2 with ⟨rfl, _⟩ | ⟨g, cap, cur, rfl, _, hg, _⟩
    · cases e
    · simp [Value.ownBlock] at e; subst e; rw [hg] at hk; simp at hk; exact hU hk.2.1.symm)]
  exact hk
/-- a runner's row -/
def rowR (hs : List Value) (sv bv : Value) (n : Nat) : Array Value := (hs ++ [sv, bv, .int .i64 (n : Int)]).toArray
theorem gl_keep {base : Nat} {Gs : List (Nat × Obj)} {w w' : World} (h : ∀ k o, (k, o) ∈ Gs → k < base ∧ w.heap[k]? = some o) (hb : Below base w w') : ∀ k o, (k, o) ∈ Gs → k < base ∧ w'.heap[k]? = some o := fun k o ho => ⟨(h k o ho).1, by rw [hb.block k (h k o ho).1]; exact (h k o ho).2⟩
theorem row_32 {hs : List Value} (hl : hs.length = 32) (sv bv : Value) (n : Nat) : (rowR hs sv bv n)[32]? = some sv := by unfold rowR; simp [hl]
theorem row_33 {hs : List Value} (hl : hs.length = 32) (sv bv : Value) (n : Nat) : (rowR hs sv bv n)[33]? = some bv := by unfold rowR; simp [hl]
theorem row_34 {hs : List Value} (hl : hs.length = 32) (sv bv : Value) (n : Nat) : (rowR hs sv bv n)[34]? = some (.int .i64 (n : Int)) := by unfold rowR; simp [hl]
theorem row_size {hs : List Value} (hl : hs.length = 32) (sv bv : Value) (n : Nat) : (rowR hs sv bv n).size = 35 := by unfold rowR; simp [hl]
theorem set_32 {hs : List Value} (hl : hs.length = 32) (sv bv x : Value) (n : Nat) : (rowR hs sv bv n).setIfInBounds 32 x = rowR hs x bv n := by
  unfold rowR; rw [List.setIfInBounds_toArray, List.set_append_right _ _ (by omega), hl]; rfl
theorem set_33 {hs : List Value} (hl : hs.length = 32) (sv bv x : Value) (n : Nat) : (rowR hs sv bv n).setIfInBounds 33 x = rowR hs sv x n := by
  unfold rowR; rw [List.setIfInBounds_toArray, List.set_append_right _ _ (by omega), hl]; rfl
theorem set_34 {hs : List Value} (hl : hs.length = 32) (sv bv : Value) (n m : Nat) : (rowR hs sv bv n).setIfInBounds 34 (.int .i64 (m : Int)) = rowR hs sv bv m := by
  unfold rowR; rw [List.setIfInBounds_toArray, List.set_append_right _ _ (by omega), hl]; rfl
theorem own_to {w : World} {base n k : Nat} {E : TypeId} {v : Value} {xs : List Value} (h : w.ownsRow base E 1 v n xs) (hk : k ≤ n) : w.ownsRow base E 1 (toV v k) k (xs.take k) := by
  have hl : xs.length = n := by have := h.1; omega
  refine ⟨by rw [List.length_take]; omega, ?_⟩
  rcases h.2 with ⟨rfl, rfl⟩ | ⟨g, cap, cur, rfl, hb, hg, hnc, hcm, hcs, ht⟩
  · obtain rfl : k = 0 := by omega
    exact .inl ⟨rfl, rfl⟩
  · refine .inr ⟨g, cap, cur, rfl, hb, hg, by omega, hcm, hcs, ?_⟩
    rw [← ht, List.take_take]; congr 1; omega
theorem info_bytesesS : (Tryd.prog.info? 57).map (·.size) = some 1 := by kernel_rfl
theorem info_intS : (Tryd.prog.info? 3).map (·.size) = some 1 := by kernel_rfl
theorem bysInfo0 : (Tryd.prog.info? 22).map (fun i => (i.zero, i.size, i.bytes)) = some (some (.slice none 0 0), 1, 24) := by kernel_rfl
theorem bysInfo : ∃ i, Tryd.prog.info? 22 = some i ∧ i.zero = some (.slice none 0 0) ∧ i.size = 1 ∧ i.bytes = 24 := by
  have h := bysInfo0
  cases hq : Tryd.prog.info? 22 with
  | none => rw [hq] at h; cases h
  | some i => rw [hq] at h; simp at h; exact ⟨i, rfl, h.1, h.2.1, h.2.2⟩
theorem blsInfo0 : (Tryd.prog.info? 4).map (fun i => (i.zero, i.size, i.bytes)) = some (some (.bool false), 1, 1) := by kernel_rfl
theorem blsInfo : ∃ i, Tryd.prog.info? 4 = some i ∧ i.zero = some (.bool false) ∧ i.size = 1 ∧ i.bytes = 1 := by
  have h := blsInfo0
  cases hq : Tryd.prog.info? 4 with
  | none => rw [hq] at h; cases h
  | some i => rw [hq] at h; simp at h; exact ⟨i, rfl, h.1, h.2.1, h.2.2⟩
section
variable {ops : Array Oper} {Q : Exit → Act → World → Prop} {rest : List Oper} {o : Oper} {a : Act} {w : World} {S : World → Prop}
theorem kSubZ (T T2 : TypeId) (x y : Operand) (m n z : Int) (hz : m - n = z ∧ -9223372036854775808 ≤ z ∧ z < 9223372036854775808) (ho : o.op = .binOp .sub T x y T2) (hg : Region.wanted o (yielded ops a.tmps) = true) (hx : a.eval x = .int .i64 m) (hy : a.eval y = .int .i64 n) (h : wpList Tryd.prog ops Q rest (a.put o.dst (.int .i64 z)) w) : wpList Tryd.prog ops Q (o :: rest) a w := by
  obtain ⟨rfl, h1, h2⟩ := hz
  refine kPure _ hg ?_ h
  unfold execOp
  simp only [ho, hx, hy]
  have e : IntKind.i64.wrap (m - n) = m - n := by rw [IntKind.wrap_i64]; omega
  simp [eqGuard, binOp, Op.intArith, e]
theorem yIndexR (T E : TypeId) (x y : Operand) (b n c j : Nat) (ho : o.op = .indexAddr T x y) (hg : Region.wanted o (yielded ops a.tmps) = true) (hx : a.eval x = .slice (some ⟨b, 0, none⟩) n c) (hy : a.eval y = .int .i64 (j : Int)) (ht : Tryd.prog.underlying T = some (.slice E)) (hs : (Tryd.prog.info? E).map (·.size) = some 1) (hj : j < n) : YieldsIf Tryd.prog ops S o (.pointer (some ⟨b, j, none⟩)) a := by
  have := yIndexB (ops := ops) (S := S) (o := o) (a := a) T E x y ⟨b, 0, none⟩ n c j ho hg hx hy ht hs hj
  rw [add_none, Nat.zero_add] at this; exact this
theorem ySliceW (T E : TypeId) (x y : Operand) (v : Value) (l : List Value) (n : Nat) (ht : Tryd.prog.underlying T = some (.slice E)) (hsz : (Tryd.prog.info? E).map (·.size) = some 1) (hv : ∀ w, S w → IsVals w v l) (hn : n ≤ l.length) (ho : o.op = .slice T x none (some y) none) (hg : Region.wanted o (yielded ops a.tmps) = true) (hx : a.eval x = v) (hy : a.eval y = .int .i64 (n : Int)) : YieldsIf Tryd.prog ops S o (toV v n) a :=
  yOf hg fun w hS => by
    unfold execOp
    simp only [ho, hx, hy, Option.map_some, Option.map_none, Sem.run_bind, run_sliceToV (n := n) ht hsz (hv w hS) rfl hn, Result.andThen_ok, Sem.run_pure]
theorem kSliceToS (T E : TypeId) (x y : Operand) (v : Value) (l : List Value) (n : Nat) (ht : Tryd.prog.underlying T = some (.slice E)) (hsz : (Tryd.prog.info? E).map (·.size) = some 1) (hv : IsVals w v l) (hn : n ≤ l.length) (ho : o.op = .slice T x none (some y) none) (hg : Region.wanted o (yielded ops a.tmps) = true) (hx : a.eval x = v) (hy : a.eval y = .int .i64 (n : Int))
    (h : wpList Tryd.prog ops Q rest (a.put o.dst (toV v n)) w) : wpList Tryd.prog ops Q (o :: rest) a w := by
  refine kPure _ hg ?_ h
  unfold execOp
  simp only [ho, hx, hy, Option.map_some, Option.map_none, Sem.run_bind, run_sliceToV (n := n) ht hsz hv rfl hn, Result.andThen_ok, Sem.run_pure]
theorem yNot (T : TypeId) (x : Operand) (b : Bool) (ho : o.op = .unOp .not T x) (hg : Region.wanted o (yielded ops a.tmps) = true) (hx : a.eval x = .bool b) : YieldsIf Tryd.prog ops S o (.bool (!b)) a :=
  yOf hg fun w _ => by unfold execOp; simp only [ho, hx]; rfl
end
section
variable {P : Program} {ops : Array Oper} {C : World → Prop} {Q : Act → Prop} {rest : List Oper} {o : Oper} {a : Act}
theorem qY (v : Value) (hy : YieldsIf P ops C o v a) (h : wpQuiet P ops C Q rest (a.put o.dst v)) : wpQuiet P ops C Q (o :: rest) a := by
  rcases hy with ⟨hg, hv⟩ | ⟨hg, rfl⟩
  · exact qStep v hg hv h
  · exact wpQuiet_step fun K hK => by rw [if_neg (by simp [hg])]; exact hK _ h
/-- a region that draws its order: what reads comes first, and what it ends with follows in one order -/
theorem region_keep {id : Nat} {Q : Exit → Act → World → Prop} {a : Act} {w : World} {l : List Oper} (n : Nat) (hm : P.follows .mixedOrders = true) (hB : Region.lexTailB .any l.toArray n = true)
    (h : wpQuiet P l.toArray (fun w' => Below w.heap.size w w') (fun a' => ∀ w', Below w.heap.size w w' → wpList P l.toArray Q (l.drop n) a' w') (l.take n) a) : (Code.region id l.toArray true).wp P Q a w :=
  region_qtail n hm hB ⟨rfl, rfl, rfl, Nat.le_refl _, fun _ _ => rfl⟩ h
end
theorem own_slice {w : World} {base n : Nat} {E : TypeId} {v : Value} {xs : List Value} (h : w.ownsRow base E 1 v n xs) (hn : 0 < n) : ∃ g cap cur, v = .slice (some ⟨g, 0, none⟩) n cap ∧ base ≤ g ∧ Row w g E cur ∧ (∀ j : Nat, j < n → cur[j]? = xs[j]?) ∧ n ≤ cur.size := by
  rcases h.2 with ⟨_, rfl⟩ | ⟨g, cap, cur, rfl, hb, hg, hnc, hcm, hcs, ht⟩
  · omega
  · refine ⟨g, cap, cur, rfl, hb, hg, fun j hj => ?_, by omega⟩
    rw [← ht, List.getElem?_take, if_pos (by omega), Array.getElem?_toList]
section
variable {P : Program} {ops : Array Oper} {o : Oper} {a : Act} {S : World → Prop}
theorem yLenS (T : TypeId) (x : Operand) (E : TypeId) (ao : Option Addr) (n c : Nat) (ho : o.op = .call { callee := .builtin .len, args := #[x], argTypes := #[T] }) (hg : Region.wanted o (yielded ops a.tmps) = true) (hx : a.eval x = .slice ao n c) (ht : P.underlying T = some (.slice E)) : YieldsIf P ops S o (.int .i64 (n : Int)) a :=
  yOf hg fun w hS => by
    unfold execOp
    simp [ho, hx, resolve, invoke, builtin, Builtin.len_, run_underlying ht, goInt]
end
theorem vals_oneS {w : World} {v : Value} {l : List Value} (h : IsVals w v l) : v.oneCell' = true := by obtain ⟨ao, c, rfl, _⟩ := h; rfl
theorem own_set {w w' : World} {base n j : Nat} {g cap : Nat} {E : TypeId} {xs : List Value} {cur : Array Value} {u : Value} (h : w.ownsRow base E 1 (.slice (some ⟨g, 0, none⟩) n cap) n xs) (hc : Row w g E cur) (_ : j < n) (hR : Row w' g E (cur.setIfInBounds j u)) : w'.ownsRow base E 1 (.slice (some ⟨g, 0, none⟩) n cap) n (xs.set j u) := by
  have hl : xs.length = n := by have := h.1; omega
  refine ⟨by rw [List.length_set]; omega, ?_⟩
  rcases h.2 with ⟨e, _⟩ | ⟨g', cap', cur', e, hb, hg, hnc, hcm, hcs, ht⟩
  · cases e
  · simp only [Value.slice.injEq, Option.some.injEq, Addr.mk.injEq] at e
    obtain ⟨⟨rfl, _⟩, _, rfl⟩ := e
    rw [show w.heap[g]? = _ from hc] at hg
    simp at hg
    subst hg
    refine .inr ⟨g, cap, _, rfl, hb, hR, hnc, hcm, by simpa using hcs, ?_⟩
    rw [← ht, Array.toList_setIfInBounds, List.take_set]
end Go.Proofs.YtnaclalbeocpkaaDoor
