/-
  Layer 7: a runner in memory, and the walks of below, pop, push, begin, turn and end.
-/
import Derived.Test.YtnaclalbeocpkaaGreatDoorScWord2
namespace Go.Proofs.YtnaclalbeocpkaaGreatDoor
open Go Go.RowKit

/-- a block of this kind holds no piece's bytes that the runner writes over -/
def okT (T : TypeId) : Prop := T ≠ 26 ∧ T ≠ 4 ∧ T ≠ 43
/-- blocks of all other kinds are as they were -/
def Kp (T : TypeId) (w w' : World) : Prop := ∀ (k : Nat) (cs : Array Value) (U : TypeId) (fz : Nat × Nat), w.heap[k]? = some (.cells cs U fz) → U ≠ T → w'.heap[k]? = some (.cells cs U fz)
theorem Kp.row {T U : TypeId} {w w' : World} {g : Nat} {cs : Array Value} (h : Kp T w w') (hr : Row w g U cs) (hU : U ≠ T) : Row w' g U cs := h g cs U (0, 0) hr hU
theorem Kp.own {T E : TypeId} {w w' : World} {base size n : Nat} {v : Value} {xs : List Value} (h : Kp T w w') (ho : w.ownsRow base E size v n xs) (hE : E ≠ T) : w'.ownsRow base E size v n xs :=
  ⟨ho.1, ho.2.imp id fun ⟨g, cap, cur, e, hb, hg, rest⟩ => ⟨g, cap, cur, e, hb, h g cur E (0, 0) hg hE, rest⟩⟩
theorem kp_below {w w' : World} (T : TypeId) (h : Below w.heap.size w w') : Kp T w w' := fun k cs U fz hk _ => by rw [h.block k (Array.getElem?_eq_some_iff.1 hk).1]; exact hk
theorem kp_wrote {w w' : World} {g : Nat} {T : TypeId} {cs : Array Value} (hr : Row w g T cs) (h : Wrote g w w') : Kp T w w' := fun k ds U fz hk hU => by
  rw [h.other k (by rintro rfl; rw [show w.heap[k]? = _ from hr] at hk; simp at hk; exact hU hk.2.1.symm)]; exact hk
theorem kp_grown {w w' : World} {base n : Nat} {T : TypeId} {v : Value} {xs : List Value} (ho : w.ownsRow base T 1 v n xs) (h : w.grownBy w' v.ownBlock) : Kp T w w' := fun k ds U fz hk hU => by
  rw [h.block k (Array.getElem?_eq_some_iff.1 hk).1 (by
    intro e
    rcases ho.2 with ⟨rfl, _⟩ | ⟨g, cap, cur, rfl, _, hg, _⟩
    · cases e
    · simp [Value.ownBlock] at e; subst e; rw [hg] at hk; simp at hk; exact hU hk.2.1.symm)]
  exact hk
/-- blocks that may hold pieces' bytes are as they were -/
def KB (w w' : World) : Prop := ∀ (k : Nat) (cs : Array Value) (T : TypeId) (fz : Nat × Nat), w.heap[k]? = some (.cells cs T fz) → okT T → w'.heap[k]? = some (.cells cs T fz)
theorem KB.refl (w : World) : KB w w := fun _ _ _ _ h _ => h
theorem KB.trans {a b c : World} (h : KB a b) (k : KB b c) : KB a c := fun i cs T fz hi ho => k i cs T fz (h i cs T fz hi ho) ho
theorem kb_below {w w' : World} (h : Below w.heap.size w w') : KB w w' := fun k cs U fz hk _ => by rw [h.block k (Array.getElem?_eq_some_iff.1 hk).1]; exact hk
theorem Kp.kb {T : TypeId} {w w' : World} (h : Kp T w w') (hT : ¬ okT T) : KB w w' := fun k cs U fz hk hU => h k cs U fz hk (by rintro rfl; exact hT hU)
theorem no_bytes : ¬ okT 26 := fun h => h.1 rfl
theorem no_bool : ¬ okT 4 := fun h => h.2.1 rfl
theorem no_runner : ¬ okT 43 := fun h => h.2.2 rfl
theorem ok_byte : okT 5 := ⟨by decide, by decide, by decide⟩
/-- a piece: bytes in a block that the runner does not write over -/
def BV (w : World) (v : Value) (l : List UInt8) : Prop := IsVals w v (l.map VB) ∧ ∀ a n c, v = .slice (some a) n c → l ≠ [] → ∃ (cs : Array Value) (T : TypeId) (fz : Nat × Nat), w.heap[a.block]? = some (.cells cs T fz) ∧ okT T
theorem BV.vals {w : World} {v : Value} {l : List UInt8} (h : BV w v l) : IsVals w v (l.map VB) := h.1
theorem BV.keep {w w' : World} {v : Value} {l : List UInt8} (h : BV w v l) (hk : KB w w') : BV w' v l := by
  obtain ⟨⟨ao, c, rfl, hc, hn, hj⟩, ht⟩ := h
  refine ⟨⟨ao, c, rfl, hc, hn, fun j u hu => ?_⟩, fun a n c' e hl => ?_⟩
  · obtain ⟨a, rfl, hcell⟩ := hj j u hu
    have hne : l ≠ [] := by rintro rfl; simp at hu
    obtain ⟨cs, T, fz, hb, ho⟩ := ht a _ _ rfl hne
    have hblk : (a.add j).block = a.block := by unfold Addr.add; split <;> rfl
    exact ⟨a, rfl, by rw [World.cell?_of_block (w := w) (by rw [hblk, hk _ _ _ _ hb ho, hb])]; exact hcell⟩
  · obtain ⟨cs, T, fz, hb, ho⟩ := ht a n c' e hl
    exact ⟨cs, T, fz, hk _ _ _ _ hb ho, ho⟩
theorem OwnB.bv {w : World} {b : Nat} {v : Value} {l : List UInt8} (h : OwnB w b v l) : BV w v l := by
  refine ⟨h.vals, fun a n c e hl => ?_⟩
  rcases h.2 with ⟨rfl, _⟩ | ⟨g, cap, cur, rfl, _, hg, _⟩
  · cases e
  · simp only [Value.slice.injEq, Option.some.injEq] at e
    rw [← e.1]
    exact ⟨cur, _, _, hg, ok_byte⟩
/-- what a call of a runner leaves alone -/
structure Fr (base : Nat) (w w' : World) : Prop where
  below : Below base w w'
  kb : KB w w'
theorem Fr.refl (base : Nat) (w : World) : Fr base w w := ⟨Below.refl _ _, KB.refl _⟩
theorem Fr.trans {base : Nat} {a b c : World} (h : Fr base a b) (k : Fr base b c) : Fr base a c := ⟨h.below.trans k.below, h.kb.trans k.kb⟩
theorem fr_below {base : Nat} {w w' : World} (h : Below w.heap.size w w') (hb : base ≤ w.heap.size) : Fr base w w' := ⟨h.mono hb, kb_below h⟩
/-- a runner's row -/
def rowR (hs : List Value) (sv bv : Value) (n : Nat) : Array Value := (hs ++ [sv, bv, .int .i64 (n : Int)]).toArray
structure RnX (base : Nat) (hs : List Value) (Gs : List (Nat × Obj)) (w : World) (g : Nat) (s : SSt) (n : Nat) (sv bv : Value) (vs : List Value) : Prop where
  row : Row w g 43 (rowR hs sv bv n)
  hl : hs.length = 32
  hb : base ≤ g
  st : w.ownsRow base 26 1 sv vs.length vs
  br : w.ownsRow base 4 1 bv (s.ways.reverse.map Value.bool).length (s.ways.reverse.map Value.bool)
  len : vs.length = s.stack.length
  pc : ∀ (j : Nat) (v : Value) (l : List UInt8), vs[j]? = some v → s.stack.reverse[j]? = some l → BV w v l
  sl : s.stack.length ≤ 5000
  wl : s.ways.length ≤ 5000
  pl : ∀ l ∈ s.stack, l.length ≤ 1000
  gl : ∀ k o, (k, o) ∈ Gs → k < base ∧ w.heap[k]? = some o
/-- a runner in memory: its pieces, its branches, and how many words were passed -/
def Rn (base : Nat) (hs : List Value) (Gs : List (Nat × Obj)) (w : World) (g : Nat) (s : SSt) (n : Nat) : Prop := ∃ sv bv vs, RnX base hs Gs w g s n sv bv vs
theorem gl_keep {base : Nat} {Gs : List (Nat × Obj)} {w w' : World} (h : ∀ k o, (k, o) ∈ Gs → k < base ∧ w.heap[k]? = some o) (hb : Below base w w') : ∀ k o, (k, o) ∈ Gs → k < base ∧ w'.heap[k]? = some o := fun k o ho => ⟨(h k o ho).1, by rw [hb.block k (h k o ho).1]; exact (h k o ho).2⟩
theorem RnX.below {base : Nat} {hs : List Value} {Gs : List (Nat × Obj)} {w w' : World} {g : Nat} {s : SSt} {n : Nat} {sv bv : Value} {vs : List Value} (h : RnX base hs Gs w g s n sv bv vs) (hb : Below w.heap.size w w') : RnX base hs Gs w' g s n sv bv vs :=
  ⟨h.row.below hb h.row.lt, h.hl, h.hb, ownsRow_below h.st hb, ownsRow_below h.br hb, h.len, fun j v l hv hl => (h.pc j v l hv hl).keep (kb_below hb), h.sl, h.wl, h.pl, gl_keep h.gl (hb.mono (by have := h.row.lt; have := h.hb; omega))⟩
theorem Rn.below {base : Nat} {hs : List Value} {Gs : List (Nat × Obj)} {w w' : World} {g : Nat} {s : SSt} {n : Nat} (h : Rn base hs Gs w g s n) (hb : Below w.heap.size w w') : Rn base hs Gs w' g s n := by
  obtain ⟨sv, bv, vs, h⟩ := h; exact ⟨sv, bv, vs, h.below hb⟩
theorem Rn.le {base : Nat} {hs : List Value} {Gs : List (Nat × Obj)} {w : World} {g : Nat} {s : SSt} {n : Nat} (h : Rn base hs Gs w g s n) : base ≤ w.heap.size := by
  obtain ⟨sv, bv, vs, h⟩ := h; have := h.row.lt; have := h.hb; omega
theorem row_32 {hs : List Value} (hl : hs.length = 32) (sv bv : Value) (n : Nat) : (rowR hs sv bv n)[32]? = some sv := by unfold rowR; simp [hl]
theorem row_33 {hs : List Value} (hl : hs.length = 32) (sv bv : Value) (n : Nat) : (rowR hs sv bv n)[33]? = some bv := by unfold rowR; simp [hl]
theorem row_34 {hs : List Value} (hl : hs.length = 32) (sv bv : Value) (n : Nat) : (rowR hs sv bv n)[34]? = some (.int .i64 (n : Int)) := by unfold rowR; simp [hl]
theorem row_size {hs : List Value} (hl : hs.length = 32) (sv bv : Value) (n : Nat) : (rowR hs sv bv n).size = 35 := by unfold rowR; simp [hl]
theorem set_32 {hs : List Value} (hl : hs.length = 32) (sv bv x : Value) (n : Nat) : (rowR hs sv bv n).setIfInBounds 32 x = rowR hs x bv n := by
  unfold rowR; rw [List.setIfInBounds_toArray, List.set_append_right _ _ (by omega), hl]; rfl
theorem set_33 {hs : List Value} (hl : hs.length = 32) (sv bv x : Value) (n : Nat) : (rowR hs sv bv n).setIfInBounds 33 x = rowR hs sv x n := by
  unfold rowR; rw [List.setIfInBounds_toArray, List.set_append_right _ _ (by omega), hl]; rfl
theorem set_34 {hs : List Value} (hl : hs.length = 32) (sv bv : Value) (n m : Nat) : (rowR hs sv bv n).setIfInBounds 34 (.int .i64 (m : Int)) = rowR hs sv bv m := by
  unfold rowR; rw [List.setIfInBounds_toArray, List.set_append_right _ _ (by omega), hl]; rfl
theorem own_to {w : World} {base n k : Nat} {E : TypeId} {v : Value} {xs : List Value} (h : w.ownsRow base E 1 v n xs) (hk : k ≤ n) : w.ownsRow base E 1 (toV v k) k (xs.take k) := by
  have hl : xs.length = n := by have := h.1; omega
  refine ⟨by rw [List.length_take]; omega, ?_⟩
  rcases h.2 with ⟨rfl, rfl⟩ | ⟨g, cap, cur, rfl, hb, hg, hnc, hcm, hcs, ht⟩
  · obtain rfl : k = 0 := by omega
    exact .inl ⟨rfl, rfl⟩
  · refine .inr ⟨g, cap, cur, rfl, hb, hg, by omega, hcm, hcs, ?_⟩
    rw [← ht, List.take_take]; congr 1; omega
theorem runnerF1 : ∃ f fs, Tryz.prog.underlying 43 = some (.struct fs) ∧ fs[1]? = some f ∧ f.offset = 32 ∧ (Tryz.prog.info? f.type).map (·.size) = some (0 + 1) := ⟨_, _, Tryz.underlying43, rfl, rfl, by kernel_rfl⟩
theorem runnerF2 : ∃ f fs, Tryz.prog.underlying 43 = some (.struct fs) ∧ fs[2]? = some f ∧ f.offset = 33 ∧ (Tryz.prog.info? f.type).map (·.size) = some (0 + 1) := ⟨_, _, Tryz.underlying43, rfl, rfl, by kernel_rfl⟩
theorem runnerF3 : ∃ f fs, Tryz.prog.underlying 43 = some (.struct fs) ∧ fs[3]? = some f ∧ f.offset = 34 ∧ (Tryz.prog.info? f.type).map (·.size) = some (0 + 1) := ⟨_, _, Tryz.underlying43, rfl, rfl, by kernel_rfl⟩
theorem info_bytesesS : (Tryz.prog.info? 40).map (·.size) = some 1 := by kernel_rfl
theorem info_boolsS : (Tryz.prog.info? 41).map (·.size) = some 1 := by kernel_rfl
theorem info_intS : (Tryz.prog.info? 3).map (·.size) = some 1 := by kernel_rfl
theorem bysInfo0 : (Tryz.prog.info? 26).map (fun i => (i.zero, i.size, i.bytes)) = some (some (.slice none 0 0), 1, 24) := by kernel_rfl
theorem bysInfo : ∃ i, Tryz.prog.info? 26 = some i ∧ i.zero = some (.slice none 0 0) ∧ i.size = 1 ∧ i.bytes = 24 := by
  have h := bysInfo0
  cases hq : Tryz.prog.info? 26 with
  | none => rw [hq] at h; cases h
  | some i => rw [hq] at h; simp at h; exact ⟨i, rfl, h.1, h.2.1, h.2.2⟩
theorem blsInfo0 : (Tryz.prog.info? 4).map (fun i => (i.zero, i.size, i.bytes)) = some (some (.bool false), 1, 1) := by kernel_rfl
theorem blsInfo : ∃ i, Tryz.prog.info? 4 = some i ∧ i.zero = some (.bool false) ∧ i.size = 1 ∧ i.bytes = 1 := by
  have h := blsInfo0
  cases hq : Tryz.prog.info? 4 with
  | none => rw [hq] at h; cases h
  | some i => rw [hq] at h; simp at h; exact ⟨i, rfl, h.1, h.2.1, h.2.2⟩
section
variable {ops : Array Oper} {Q : Exit → Act → World → Prop} {rest : List Oper} {o : Oper} {a : Act} {w : World} {S : World → Prop}
theorem kRn1 (x : Operand) (b : Nat) (ho : o.op = .fieldAddr 43 x 1) (hg : Region.wanted o (yielded ops a.tmps) = true) (hx : a.eval x = .pointer (some ⟨b, 0, none⟩)) (h : wpList Tryz.prog ops Q rest (a.put o.dst (.pointer (some ⟨b, 32, none⟩))) w) : wpList Tryz.prog ops Q (o :: rest) a w := by
  obtain ⟨f, fs, h1, h2, h3, h4⟩ := runnerF1
  have e : 0 + 32 = 32 := by decide
  exact kFieldAt _ x 1 0 32 fs f b 0 ho hg hx h1 h2 h3 h4 (by rw [e]; exact h)
theorem yRn1 (x : Operand) (b : Nat) (ho : o.op = .fieldAddr 43 x 1) (hg : Region.wanted o (yielded ops a.tmps) = true) (hx : a.eval x = .pointer (some ⟨b, 0, none⟩)) : YieldsIf Tryz.prog ops S o (.pointer (some ⟨b, 32, none⟩)) a := by
  obtain ⟨f, fs, h1, h2, h3, h4⟩ := runnerF1
  have := yField (P := Tryz.prog) (ops := ops) (S := S) (o := o) (a := a) _ x 1 0 32 fs f b 0 ho hg hx h1 h2 h3 h4
  rw [show 0 + 32 = 32 by decide] at this; exact this
theorem kRn2 (x : Operand) (b : Nat) (ho : o.op = .fieldAddr 43 x 2) (hg : Region.wanted o (yielded ops a.tmps) = true) (hx : a.eval x = .pointer (some ⟨b, 0, none⟩)) (h : wpList Tryz.prog ops Q rest (a.put o.dst (.pointer (some ⟨b, 33, none⟩))) w) : wpList Tryz.prog ops Q (o :: rest) a w := by
  obtain ⟨f, fs, h1, h2, h3, h4⟩ := runnerF2
  have e : 0 + 33 = 33 := by decide
  exact kFieldAt _ x 2 0 33 fs f b 0 ho hg hx h1 h2 h3 h4 (by rw [e]; exact h)
theorem yRn2 (x : Operand) (b : Nat) (ho : o.op = .fieldAddr 43 x 2) (hg : Region.wanted o (yielded ops a.tmps) = true) (hx : a.eval x = .pointer (some ⟨b, 0, none⟩)) : YieldsIf Tryz.prog ops S o (.pointer (some ⟨b, 33, none⟩)) a := by
  obtain ⟨f, fs, h1, h2, h3, h4⟩ := runnerF2
  have := yField (P := Tryz.prog) (ops := ops) (S := S) (o := o) (a := a) _ x 2 0 33 fs f b 0 ho hg hx h1 h2 h3 h4
  rw [show 0 + 33 = 33 by decide] at this; exact this
theorem kRn3 (x : Operand) (b : Nat) (ho : o.op = .fieldAddr 43 x 3) (hg : Region.wanted o (yielded ops a.tmps) = true) (hx : a.eval x = .pointer (some ⟨b, 0, none⟩)) (h : wpList Tryz.prog ops Q rest (a.put o.dst (.pointer (some ⟨b, 34, none⟩))) w) : wpList Tryz.prog ops Q (o :: rest) a w := by
  obtain ⟨f, fs, h1, h2, h3, h4⟩ := runnerF3
  have e : 0 + 34 = 34 := by decide
  exact kFieldAt _ x 3 0 34 fs f b 0 ho hg hx h1 h2 h3 h4 (by rw [e]; exact h)
theorem yRn3 (x : Operand) (b : Nat) (ho : o.op = .fieldAddr 43 x 3) (hg : Region.wanted o (yielded ops a.tmps) = true) (hx : a.eval x = .pointer (some ⟨b, 0, none⟩)) : YieldsIf Tryz.prog ops S o (.pointer (some ⟨b, 34, none⟩)) a := by
  obtain ⟨f, fs, h1, h2, h3, h4⟩ := runnerF3
  have := yField (P := Tryz.prog) (ops := ops) (S := S) (o := o) (a := a) _ x 3 0 34 fs f b 0 ho hg hx h1 h2 h3 h4
  rw [show 0 + 34 = 34 by decide] at this; exact this
theorem kSubZ (T T2 : TypeId) (x y : Operand) (m n z : Int) (hz : m - n = z ∧ -9223372036854775808 ≤ z ∧ z < 9223372036854775808) (ho : o.op = .binOp .sub T x y T2) (hg : Region.wanted o (yielded ops a.tmps) = true) (hx : a.eval x = .int .i64 m) (hy : a.eval y = .int .i64 n) (h : wpList Tryz.prog ops Q rest (a.put o.dst (.int .i64 z)) w) : wpList Tryz.prog ops Q (o :: rest) a w := by
  obtain ⟨rfl, h1, h2⟩ := hz
  refine kPure _ hg ?_ h
  unfold execOp
  simp only [ho, hx, hy]
  have e : IntKind.i64.wrap (m - n) = m - n := by rw [IntKind.wrap_i64]; omega
  simp [eqGuard, binOp, Op.intArith, e]
theorem yIndexR (T E : TypeId) (x y : Operand) (b n c j : Nat) (ho : o.op = .indexAddr T x y) (hg : Region.wanted o (yielded ops a.tmps) = true) (hx : a.eval x = .slice (some ⟨b, 0, none⟩) n c) (hy : a.eval y = .int .i64 (j : Int)) (ht : Tryz.prog.underlying T = some (.slice E)) (hs : (Tryz.prog.info? E).map (·.size) = some 1) (hj : j < n) : YieldsIf Tryz.prog ops S o (.pointer (some ⟨b, j, none⟩)) a := by
  have := yIndexB (ops := ops) (S := S) (o := o) (a := a) T E x y ⟨b, 0, none⟩ n c j ho hg hx hy ht hs hj
  rw [add_none, Nat.zero_add] at this; exact this
theorem ySliceW (T E : TypeId) (x y : Operand) (v : Value) (l : List Value) (n : Nat) (ht : Tryz.prog.underlying T = some (.slice E)) (hsz : (Tryz.prog.info? E).map (·.size) = some 1) (hv : ∀ w, S w → IsVals w v l) (hn : n ≤ l.length) (ho : o.op = .slice T x none (some y) none) (hg : Region.wanted o (yielded ops a.tmps) = true) (hx : a.eval x = v) (hy : a.eval y = .int .i64 (n : Int)) : YieldsIf Tryz.prog ops S o (toV v n) a :=
  yOf hg fun w hS => by
    unfold execOp
    simp only [ho, hx, hy, Option.map_some, Option.map_none, Sem.run_bind, run_sliceToV (n := n) ht hsz (hv w hS) rfl hn, Result.andThen_ok, Sem.run_pure]
theorem kSliceToS (T E : TypeId) (x y : Operand) (v : Value) (l : List Value) (n : Nat) (ht : Tryz.prog.underlying T = some (.slice E)) (hsz : (Tryz.prog.info? E).map (·.size) = some 1) (hv : IsVals w v l) (hn : n ≤ l.length) (ho : o.op = .slice T x none (some y) none) (hg : Region.wanted o (yielded ops a.tmps) = true) (hx : a.eval x = v) (hy : a.eval y = .int .i64 (n : Int))
    (h : wpList Tryz.prog ops Q rest (a.put o.dst (toV v n)) w) : wpList Tryz.prog ops Q (o :: rest) a w := by
  refine kPure _ hg ?_ h
  unfold execOp
  simp only [ho, hx, hy, Option.map_some, Option.map_none, Sem.run_bind, run_sliceToV (n := n) ht hsz hv rfl hn, Result.andThen_ok, Sem.run_pure]
theorem yNot (T : TypeId) (x : Operand) (b : Bool) (ho : o.op = .unOp .not T x) (hg : Region.wanted o (yielded ops a.tmps) = true) (hx : a.eval x = .bool b) : YieldsIf Tryz.prog ops S o (.bool (!b)) a :=
  yOf hg fun w _ => by unfold execOp; simp only [ho, hx]; rfl
end
section
variable {P : Program} {ops : Array Oper} {C : World → Prop} {Q : Act → Prop} {rest : List Oper} {o : Oper} {a : Act}
theorem qY (v : Value) (hy : YieldsIf P ops C o v a) (h : wpQuiet P ops C Q rest (a.put o.dst v)) : wpQuiet P ops C Q (o :: rest) a := by
  rcases hy with ⟨hg, hv⟩ | ⟨hg, rfl⟩
  · exact qStep v hg hv h
  · exact wpQuiet_step fun K hK => by rw [if_neg (by simp [hg])]; exact hK _ h
/-- a region that draws its order: what reads comes first, and what it ends with follows in one order -/
theorem region_keep {id : Nat} {Q : Exit → Act → World → Prop} {a : Act} {w : World} {l : List Oper} (n : Nat) (hm : P.follows .mixedOrders = true) (hB : Region.lexTailB .any l.toArray n = true)
    (h : wpQuiet P l.toArray (fun w' => Below w.heap.size w w') (fun a' => ∀ w', Below w.heap.size w w' → wpList P l.toArray Q (l.drop n) a' w') (l.take n) a) : (Code.region id l.toArray true).wp P Q a w :=
  region_qtail n hm hB ⟨rfl, rfl, rfl, Nat.le_refl _, fun _ _ => rfl⟩ h
end
theorem own_slice {w : World} {base n : Nat} {E : TypeId} {v : Value} {xs : List Value} (h : w.ownsRow base E 1 v n xs) (hn : 0 < n) : ∃ g cap cur, v = .slice (some ⟨g, 0, none⟩) n cap ∧ base ≤ g ∧ Row w g E cur ∧ (∀ j : Nat, j < n → cur[j]? = xs[j]?) ∧ n ≤ cur.size := by
  rcases h.2 with ⟨_, rfl⟩ | ⟨g, cap, cur, rfl, hb, hg, hnc, hcm, hcs, ht⟩
  · omega
  · refine ⟨g, cap, cur, rfl, hb, hg, fun j hj => ?_, by omega⟩
    rw [← ht, List.getElem?_take, if_pos (by omega), Array.getElem?_toList]
section
variable {P : Program} {ops : Array Oper} {o : Oper} {a : Act} {S : World → Prop}
theorem yLenS (T : TypeId) (x : Operand) (E : TypeId) (ao : Option Addr) (n c : Nat) (ho : o.op = .call { callee := .builtin .len, args := #[x], argTypes := #[T] }) (hg : Region.wanted o (yielded ops a.tmps) = true) (hx : a.eval x = .slice ao n c) (ht : P.underlying T = some (.slice E)) : YieldsIf P ops S o (.int .i64 (n : Int)) a :=
  yOf hg fun w hS => by
    unfold execOp
    simp [ho, hx, resolve, invoke, builtin, Builtin.len_, run_underlying ht, goInt]
end
set_option maxRecDepth 100000 in
set_option maxHeartbeats 8000000 in
theorem scBelow_any {base : Nat} {hs : List Value} {Gs : List (Nat × Obj)} {g : Nat} {s : SSt} {n k : Nat} {l : List UInt8} (w : World) (h : Rn base hs Gs w g s n) (hk : s.stack[k]? = some l) : Calls Tryz.prog 15 #[.pointer (some ⟨g, 0, none⟩), .int .i64 (k : Int)] w fun e w' => ∃ v, e = .returned v ∧ BV w' v l ∧ Rn base hs Gs w' g s n ∧ Below w.heap.size w w' := by
  obtain ⟨sv, bv, vs, hX⟩ := h
  have hkl := (List.getElem?_eq_some_iff.1 hk).1
  obtain ⟨N, hN⟩ : ∃ N, vs.length = N := ⟨_, rfl⟩
  have hNl : N ≤ 5000 := by have := hX.sl; have := hX.len; omega
  have hkN : k < N := by have := hX.len; omega
  have hst := hX.st
  rw [hN] at hst
  obtain ⟨gs, cap, cur, rfl, hgb, hC, hcell, hsz⟩ := own_slice hst (by omega)
  have h32 := row_32 hX.hl (.slice (some ⟨gs, 0, none⟩) N cap) bv n
  obtain ⟨v, hvv⟩ : ∃ v, vs[N - 1 - k]? = some v := ⟨_, List.getElem?_eq_getElem (by omega)⟩
  have hv : cur[N - 1 - k]? = some v := (hcell _ (by omega)).trans hvv
  have hrev : s.stack.reverse[N - 1 - k]? = some l := by
    rw [List.getElem?_reverse (by have := hX.len; omega)]
    rw [show s.stack.length - 1 - (N - 1 - k) = k by have := hX.len; omega]; exact hk
  clear hst hcell hsz hkl hk
  go_enter Tryz.func15, Tryz.ntmps15
  go_wp2
  refine region_mixD [(0, true), (1, true), (2, true), (3, true), (4, true), (5, true), (6, true), (7, true), (8, true), (9, true), (10, true), (11, true), (12, true), (13, true), (14, true)] (fun w => Row w g 43 (rowR hs (.slice (some ⟨gs, 0, none⟩) N cap) bv n) ∧ Row w gs 26 cur) (by kernel_rfl) (by kernel_rfl) rfl ?_
  intro w1 hBd hsd
  have hX1 := hX.below hBd
  have hC1 := hC.below hBd hC.lt
  clear hsd
  simp only [List.map_cons, List.map_nil]
  dsimp only [List.filterMap, List.getElem?_cons_zero, List.getElem?_cons_succ]
  have hS := (⟨hX1.row, hC1⟩ : Row w1 g 43 (rowR hs (.slice (some ⟨gs, 0, none⟩) N cap) bv n) ∧ Row w1 gs 26 cur)
  refine dY _ hS (yMove _ (.pointer (some ⟨g, 0, none⟩)) rfl rfl rfl) ?_; go_frame
  refine dY _ hS (yNil _ ⟨g, 0, none⟩ rfl rfl rfl) ?_; go_frame
  refine dY _ hS (yRn1 _ g rfl rfl rfl) ?_; go_frame
  refine dY _ hS (yLoad1 _ _ _ g 32 _ (.slice (some ⟨gs, 0, none⟩) N cap) _ rfl rfl rfl (fun _ h => h.1) Tryz.underlying40 rfl h32) ?_; go_frame
  refine dY _ hS (yMove _ (.pointer (some ⟨g, 0, none⟩)) rfl rfl rfl) ?_; go_frame
  refine dY _ hS (yNil _ ⟨g, 0, none⟩ rfl rfl rfl) ?_; go_frame
  refine dY _ hS (yRn1 _ g rfl rfl rfl) ?_; go_frame
  refine dY _ hS (yLoad1 _ _ _ g 32 _ (.slice (some ⟨gs, 0, none⟩) N cap) _ rfl rfl rfl (fun _ h => h.1) Tryz.underlying40 rfl h32) ?_; go_frame
  refine dY _ hS (yLenS _ _ _ (some ⟨gs, 0, none⟩) N cap rfl rfl rfl Tryz.underlying40) ?_; go_frame
  refine dY _ hS (ySubI _ _ _ _ (N : Int) 1 ((N - 1 : Nat) : Int) (by omega) rfl rfl rfl rfl) ?_; go_frame
  refine dY _ hS (yMove _ (.int .i64 (k : Int)) rfl rfl rfl) ?_; go_frame
  refine dY _ hS (ySubI _ _ _ _ ((N - 1 : Nat) : Int) (k : Int) ((N - 1 - k : Nat) : Int) (by omega) rfl rfl rfl rfl) ?_; go_frame
  refine dY _ hS (yIndexR _ _ _ _ gs N cap (N - 1 - k) rfl rfl rfl rfl Tryz.underlying40 info_bytesS (by omega)) ?_; go_frame
  refine dY _ hS (yLoad1 _ _ _ gs (N - 1 - k) cur v _ rfl rfl rfl (fun _ h => h.2) Tryz.underlying26 rfl hv) ?_; go_frame
  refine dY _ hS (yAssign _ v rfl rfl rfl) ?_; go_frame
  refine dDone ?_
  go_wp2
  go_ret
  exact ⟨_, rfl, hX1.pc _ _ _ hvv hrev, ⟨_, _, _, hX1⟩, hBd⟩
theorem vals_oneS {w : World} {v : Value} {l : List Value} (h : IsVals w v l) : v.oneCell' = true := by obtain ⟨ao, c, rfl, _⟩ := h; rfl
theorem rn_pop {base : Nat} {hs : List Value} {Gs : List (Nat × Obj)} {w w' : World} {g : Nat} {x : List UInt8} {t : List (List UInt8)} {ws : List Bool} {n : Nat} {sv bv : Value} {vs : List Value} (h : RnX base hs Gs w g ⟨x :: t, ws⟩ n sv bv vs) (hR : Row w' g 43 (rowR hs (toV sv (vs.length - 1)) bv n)) (hW : Wrote g w w') : Rn base hs Gs w' g ⟨t, ws⟩ n ∧ Fr base w w' := by
  have hk := kp_wrote h.row hW
  have hlen : vs.length = t.length + 1 := h.len
  refine ⟨⟨_, bv, vs.take (vs.length - 1), hR, h.hl, h.hb, ?_, hk.own h.br (by decide), ?_, fun j v l hv hl => ?_, ?_, h.wl, fun l hl => h.pl l (List.mem_cons_of_mem _ hl), gl_keep h.gl (hW.below h.hb)⟩, hW.below h.hb, hk.kb no_runner⟩
  · rw [List.length_take, Nat.min_eq_left (by omega)]
    exact own_to (hk.own h.st (by decide)) (by omega)
  · show (vs.take (vs.length - 1)).length = t.length
    rw [List.length_take]; omega
  · have hjl := (List.getElem?_eq_some_iff.1 hv).1
    rw [List.length_take] at hjl
    rw [List.getElem?_take, if_pos (by omega)] at hv
    refine (h.pc j v l hv ?_).keep (hk.kb no_runner)
    show (x :: t).reverse[j]? = some l
    rw [List.reverse_cons, List.getElem?_append_left (by rw [List.length_reverse]; omega)]; exact hl
  · have := h.sl; show t.length ≤ 5000; simp at this; omega
set_option maxRecDepth 100000 in
set_option maxHeartbeats 8000000 in
theorem scPop_any {base : Nat} {hs : List Value} {Gs : List (Nat × Obj)} {g : Nat} {x : List UInt8} {t : List (List UInt8)} {ws : List Bool} {n : Nat} (w : World) (h : Rn base hs Gs w g ⟨x :: t, ws⟩ n) : Calls Tryz.prog 42 #[.pointer (some ⟨g, 0, none⟩)] w fun e w' => ∃ v, e = .returned v ∧ BV w' v x ∧ Rn base hs Gs w' g ⟨t, ws⟩ n ∧ Fr base w w' := by
  have hle := h.le
  go_enter Tryz.func42, Tryz.ntmps42
  go_wp2_with (first
    | (go_at_call 15; refine (scBelow_any (k := 0) _ h rfl).mono ?_; rintro e w1 ⟨v, rfl, hV1, hX1, hB1⟩; have hsz1 := hB1.size; clear h; go_frame))
  obtain ⟨sv, bv, vs, hX⟩ := hX1
  obtain ⟨N, hN⟩ : ∃ N, vs.length = N := ⟨_, rfl⟩
  have hNp : 0 < N ∧ N ≤ 5000 := by have h1 : vs.length = t.length + 1 := hX.len; have h2 : t.length + 1 ≤ 5000 := hX.sl; omega
  have h32 := row_32 hX.hl sv bv n
  refine region_keep 14 (by kernel_rfl) (by kernel_rfl) ?_
  simp only [List.take_succ_cons, List.take_zero, List.drop_succ_cons, List.drop_zero]
  refine qY _ (yMove _ (.pointer (some ⟨g, 0, none⟩)) rfl rfl rfl) ?_; go_frame
  refine qY _ (yMove _ (.pointer (some ⟨g, 0, none⟩)) rfl rfl rfl) ?_; go_frame
  refine qY _ (yNil _ ⟨g, 0, none⟩ rfl rfl rfl) ?_; go_frame
  refine qY _ (yRn1 _ g rfl rfl rfl) ?_; go_frame
  refine qY _ (yLoad1 _ _ _ g 32 _ sv _ rfl rfl rfl (fun _ h => (hX.below h).row) Tryz.underlying40 rfl h32) ?_; go_frame
  refine qY _ (yMove _ (.pointer (some ⟨g, 0, none⟩)) rfl rfl rfl) ?_; go_frame
  refine qY _ (yNil _ ⟨g, 0, none⟩ rfl rfl rfl) ?_; go_frame
  refine qY _ (yRn1 _ g rfl rfl rfl) ?_; go_frame
  refine qY _ (yLoad1 _ _ _ g 32 _ sv _ rfl rfl rfl (fun _ h => (hX.below h).row) Tryz.underlying40 rfl h32) ?_; go_frame
  refine qY _ (yLen _ _ _ sv vs N rfl rfl rfl (fun _ h => isVals_own (hX.below h).st) hN Tryz.underlying40) ?_; go_frame
  refine qY _ (ySubI _ _ _ _ (N : Int) 1 ((N - 1 : Nat) : Int) (by omega) rfl rfl rfl rfl) ?_; go_frame
  refine qY _ (ySliceW _ _ _ _ sv vs (N - 1) Tryz.underlying40 info_bytesS (fun _ h => isVals_own (hX.below h).st) (by omega) rfl rfl rfl rfl) ?_; go_frame
  refine qY _ (yNil _ ⟨g, 0, none⟩ rfl rfl rfl) ?_; go_frame
  refine qY _ (yRn1 _ g rfl rfl rfl) ?_; go_frame
  refine wpQuiet_nil ?_
  intro w2 hBd
  have hX2 := hX.below hBd
  have hV2 := hV1.keep (kb_below hBd)
  have hB2 := hB1.trans (hBd.mono hsz1)
  clear hX hV1 hB1 hBd
  refine kStore1 _ _ _ _ g 32 _ (toV sv (N - 1)) rfl rfl rfl rfl hX2.row info_bytesesS (by rw [row_size hX2.hl]; decide) (vals_oneS (isVals_own (own_to hX2.st (show N - 1 ≤ vs.length by omega)))) ?_
  intro w3 hR3 hW3
  rw [set_32 hX2.hl] at hR3
  go_frame
  rw [← hN] at hR3
  obtain ⟨hRn, hFr⟩ := rn_pop hX2 hR3 hW3
  have hV3 := hV2.keep hFr.kb
  have hF3 := (fr_below hB2 hle).trans hFr
  clear hX2 hV2 hB2 hFr hR3 hW3
  go_wp2
  go_ret
  exact ⟨_, rfl, hV3, hRn, hF3⟩
theorem rn_push {base : Nat} {hs : List Value} {Gs : List (Nat × Obj)} {w w2 w3 : World} {g : Nat} {s : SSt} {n : Nat} {sv bv : Value} {vs : List Value} {v v' : Value} {l : List UInt8} (h : RnX base hs Gs w g s n sv bv vs) (hv : BV w v l) (hll : l.length ≤ 1000) (hsl : s.stack.length < 5000)
    (hO : w2.ownsRow base 26 1 v' (vs ++ [v]).length (vs ++ [v])) (hG : w.grownBy w2 sv.ownBlock) (hR : Row w3 g 43 (rowR hs v' bv n)) (hW : Wrote g w2 w3) : Rn base hs Gs w3 g ⟨l :: s.stack, s.ways⟩ n ∧ Fr base w w3 := by
  have k1 := kp_grown h.st hG
  have hr2 := k1.row h.row (by decide)
  have k2 := kp_wrote hr2 hW
  have hkb := (k1.kb no_bytes).trans (k2.kb no_runner)
  have hlt := h.row.lt
  refine ⟨⟨v', bv, vs ++ [v], hR, h.hl, h.hb, k2.own hO (by decide), k2.own (k1.own h.br (by decide)) (by decide), ?_, fun j u m hu hm => ?_, ?_, h.wl, ?_, gl_keep h.gl ((below_grown h.st hG (by have := h.hb; omega)).trans (hW.below h.hb))⟩, (below_grown h.st hG (by have := h.hb; omega)).trans (hW.below h.hb), hkb⟩
  · show (vs ++ [v]).length = s.stack.length + 1
    rw [List.length_append, h.len]; rfl
  · have hm' : (s.stack.reverse ++ [l])[j]? = some m := by rw [← List.reverse_cons]; exact hm
    have hlr : vs.length = s.stack.reverse.length := by rw [List.length_reverse]; exact h.len
    by_cases hj : j < vs.length
    · rw [List.getElem?_append_left hj] at hu
      rw [List.getElem?_append_left (by omega)] at hm'
      exact (h.pc j u m hu hm').keep hkb
    · have hj1 := (List.getElem?_eq_some_iff.1 hu).1
      rw [List.length_append, List.length_singleton] at hj1
      have hje : j = vs.length := by omega
      subst hje
      rw [List.getElem?_append_right (Nat.le_refl _), Nat.sub_self] at hu
      rw [List.getElem?_append_right (by omega), hlr, Nat.sub_self] at hm'
      simp at hu hm'
      subst hu; subst hm'
      exact hv.keep hkb
  · show s.stack.length + 1 ≤ 5000; omega
  · intro m hm
    rcases List.mem_cons.1 hm with rfl | hm
    · exact hll
    · exact h.pl m hm
theorem rn_begin {base : Nat} {hs : List Value} {Gs : List (Nat × Obj)} {w w2 w3 : World} {g : Nat} {s : SSt} {n : Nat} {sv bv : Value} {vs : List Value} {b : Bool} {v' : Value} (h : RnX base hs Gs w g s n sv bv vs) (hwl : s.ways.length < 5000)
    (hO : w2.ownsRow base 4 1 v' (s.ways.reverse.map Value.bool ++ [Value.bool b]).length (s.ways.reverse.map Value.bool ++ [Value.bool b])) (hG : w.grownBy w2 bv.ownBlock) (hR : Row w3 g 43 (rowR hs sv v' n)) (hW : Wrote g w2 w3) : Rn base hs Gs w3 g ⟨s.stack, b :: s.ways⟩ n ∧ Fr base w w3 := by
  have k1 := kp_grown h.br hG
  have hr2 := k1.row h.row (by decide)
  have k2 := kp_wrote hr2 hW
  have hkb := (k1.kb no_bool).trans (k2.kb no_runner)
  have hlt := h.row.lt
  refine ⟨⟨sv, v', vs, hR, h.hl, h.hb, k2.own (k1.own h.st (by decide)) (by decide), ?_, h.len, fun j u m hu hm => (h.pc j u m hu hm).keep hkb, h.sl, ?_, h.pl, gl_keep h.gl ((below_grown h.br hG (by have := h.hb; omega)).trans (hW.below h.hb))⟩, (below_grown h.br hG (by have := h.hb; omega)).trans (hW.below h.hb), hkb⟩
  · have := k2.own hO (by decide)
    show w3.ownsRow base _ 1 v' ((b :: s.ways).reverse.map Value.bool).length ((b :: s.ways).reverse.map Value.bool)
    rw [List.reverse_cons, List.map_append]; exact this
  · show s.ways.length + 1 ≤ 5000; omega
theorem rn_ways {base : Nat} {hs : List Value} {Gs : List (Nat × Obj)} {w w' : World} {g : Nat} {s : SSt} {n : Nat} {sv bv bv' : Value} {vs : List Value} {ws : List Bool} (h : RnX base hs Gs w g s n sv bv vs) (hR : Row w' g 43 (rowR hs sv bv' n)) (hst : w'.ownsRow base 26 1 sv vs.length vs)
    (hbr : w'.ownsRow base 4 1 bv' (ws.reverse.map Value.bool).length (ws.reverse.map Value.bool)) (hkb : KB w w') (hwl : ws.length ≤ 5000) (hbl : Below base w w') : Rn base hs Gs w' g ⟨s.stack, ws⟩ n :=
  ⟨sv, bv', vs, hR, h.hl, h.hb, hst, hbr, h.len, fun j u m hu hm => (h.pc j u m hu hm).keep hkb, h.sl, hwl, h.pl, gl_keep h.gl hbl⟩
set_option maxRecDepth 100000 in
set_option maxHeartbeats 8000000 in
theorem scPushP_any {base : Nat} {hs : List Value} {Gs : List (Nat × Obj)} {g : Nat} {s : SSt} {n : Nat} {l : List UInt8} {v : Value} (w : World) (h : Rn base hs Gs w g s n) (hv : BV w v l) (hll : l.length ≤ 1000) (hsl : s.stack.length < 5000) : Calls Tryz.prog 41 #[.pointer (some ⟨g, 0, none⟩), v] w fun e w' => e = .returned (.tuple #[]) ∧ Rn base hs Gs w' g ⟨l :: s.stack, s.ways⟩ n ∧ Fr base w w' := by
  obtain ⟨i, hi, hz, hs1, hby⟩ := bysInfo
  have hle := h.le
  obtain ⟨sv, bv, vs, hX⟩ := h
  have h32 := row_32 hX.hl sv bv n
  have hNl : vs.length < 5000 := by rw [hX.len]; exact hsl
  have hv1 := vals_oneS hv.vals
  go_enter Tryz.func41, Tryz.ntmps41
  go_wp2_with (first
    | ((with_reducible change wpList _ _ _ (Oper.mk (some 6) _ _ _ _ _ :: _) _ _); refine kNilCheck _ ⟨g, 0, none⟩ rfl rfl rfl ?_; go_frame)
    | ((with_reducible change wpList _ _ _ (Oper.mk (some 7) _ _ _ _ _ :: _) _ _); refine kRn1 _ g rfl rfl rfl ?_; go_frame)
    | ((with_reducible change wpList _ _ _ (Oper.mk (some 8) _ _ _ _ _ :: _) _ _); refine kLoad1 _ _ _ g 32 _ sv _ rfl rfl rfl hX.row Tryz.underlying40 rfl h32 ?_; go_frame)
    | ((with_reducible change wpList _ _ _ (Oper.mk (some 10) _ _ _ _ _ :: _) _ _); refine kBuildSlice1 _ _ _ v rfl rfl Tryz.underlying40 i _ hi hz hs1 rfl hv1 ?_; intro w1 hR1 hz1 hB1; clear hz1; have hV1 : IsVals w1 _ [v] := isVals_lit (l := [v]) hR1; clear hR1; have hX1 := hX.below hB1; have hv2 := hv.keep (kb_below hB1); have hF1 := fr_below hB1 hle; have hle1 : base ≤ w1.heap.size := (Nat.le_trans hle hB1.size); clear hX hv hB1; go_frame)
    | ((with_reducible change wpList _ _ _ (Oper.mk (some 11) _ _ _ _ _ :: _) _ _); refine kAppend _ _ _ _ rfl rfl base i _ Tryz.underlying40 hi hz hs1 rfl sv _ vs [v] rfl hX1.st rfl hV1 (by simp; exact hv1) (by simp [maxLen]; omega) (by rw [hby]; simp; omega) hle1 ?_; intro v2 w2 hO2 hG2; have hr2 := (kp_grown hX1.st hG2).row hX1.row (by decide); clear hV1; go_frame)
    | ((with_reducible change wpList _ _ _ (Oper.mk (some 12) _ _ _ _ _ :: _) _ _); refine kNilCheck _ ⟨g, 0, none⟩ rfl rfl rfl ?_; go_frame)
    | ((with_reducible change wpList _ _ _ (Oper.mk (some 13) _ _ _ _ _ :: _) _ _); refine kRn1 _ g rfl rfl rfl ?_; go_frame)
    | ((with_reducible change wpList _ _ _ (Oper.mk none _ _ _ _ _ :: _) _ _); refine kStore1 _ _ _ _ g 32 _ v2 rfl rfl rfl rfl hr2 info_bytesesS (by rw [row_size hX1.hl]; decide) (vals_oneS (isVals_own hO2)) ?_; intro w3 hR3 hW3; rw [set_32 hX1.hl] at hR3; obtain ⟨hRn, hFr⟩ := rn_push hX1 hv2 hll hsl hO2 hG2 hR3 hW3; have hF3 := hF1.trans hFr; clear hX1 hv2 hO2 hG2 hr2 hR3 hW3 hF1 hFr; go_frame))
  go_end0
  exact ⟨rfl, hRn, hF3⟩
set_option maxRecDepth 100000 in
set_option maxHeartbeats 8000000 in
theorem scBegin_any {base : Nat} {hs : List Value} {Gs : List (Nat × Obj)} {g : Nat} {s : SSt} {n : Nat} (b : Bool) (w : World) (h : Rn base hs Gs w g s n) (hwl : s.ways.length < 5000) : Calls Tryz.prog 38 #[.pointer (some ⟨g, 0, none⟩), .bool b] w fun e w' => e = .returned (.tuple #[]) ∧ Rn base hs Gs w' g ⟨s.stack, b :: s.ways⟩ n ∧ Fr base w w' := by
  obtain ⟨i, hi, hz, hs1, hby⟩ := blsInfo
  have hle := h.le
  obtain ⟨sv, bv, vs, hX⟩ := h
  have h33 := row_33 hX.hl sv bv n
  have hml : (s.ways.reverse.map Value.bool).length < 5000 := by simp; exact hwl
  obtain ⟨L, hL⟩ : ∃ L, s.ways.reverse.map Value.bool = L := ⟨_, rfl⟩
  have hbr := hX.br
  rw [hL] at hml hbr
  go_enter Tryz.func38, Tryz.ntmps38
  go_wp2_with (first
    | ((with_reducible change wpList _ _ _ (Oper.mk (some 6) _ _ _ _ _ :: _) _ _); refine kNilCheck _ ⟨g, 0, none⟩ rfl rfl rfl ?_; go_frame)
    | ((with_reducible change wpList _ _ _ (Oper.mk (some 7) _ _ _ _ _ :: _) _ _); refine kRn2 _ g rfl rfl rfl ?_; go_frame)
    | ((with_reducible change wpList _ _ _ (Oper.mk (some 8) _ _ _ _ _ :: _) _ _); refine kLoad1 _ _ _ g 33 _ bv _ rfl rfl rfl hX.row Tryz.underlying41 rfl h33 ?_; go_frame)
    | ((with_reducible change wpList _ _ _ (Oper.mk (some 10) _ _ _ _ _ :: _) _ _); refine kBuildSlice1 _ _ _ (.bool b) rfl rfl Tryz.underlying41 i _ hi hz hs1 rfl rfl ?_; intro w1 hR1 hz1 hB1; clear hz1; have hV1 : IsVals w1 _ [.bool b] := isVals_lit (l := [.bool b]) hR1; clear hR1; have hX1 := hX.below hB1; have hbr1 := ownsRow_below hbr hB1; have hF1 := fr_below hB1 hle; have hle1 : base ≤ w1.heap.size := (Nat.le_trans hle hB1.size); clear hX hbr hB1; go_frame)
    | ((with_reducible change wpList _ _ _ (Oper.mk (some 11) _ _ _ _ _ :: _) _ _); refine kAppend _ _ _ _ rfl rfl base i _ Tryz.underlying41 hi hz hs1 rfl bv _ L [.bool b] rfl hbr1 rfl hV1 (by simp; rfl) (by simp [maxLen]; omega) (by rw [hby]; simp; omega) hle1 ?_; intro v2 w2 hO2 hG2; have hr2 := (kp_grown hX1.br hG2).row hX1.row (by decide); rw [← hL] at hO2; clear hV1; go_frame)
    | ((with_reducible change wpList _ _ _ (Oper.mk (some 12) _ _ _ _ _ :: _) _ _); refine kNilCheck _ ⟨g, 0, none⟩ rfl rfl rfl ?_; go_frame)
    | ((with_reducible change wpList _ _ _ (Oper.mk (some 13) _ _ _ _ _ :: _) _ _); refine kRn2 _ g rfl rfl rfl ?_; go_frame)
    | ((with_reducible change wpList _ _ _ (Oper.mk none _ _ _ _ _ :: _) _ _); refine kStore1 _ _ _ _ g 33 _ v2 rfl rfl rfl rfl hr2 info_boolsS (by rw [row_size hX1.hl]; decide) (vals_oneS (isVals_own hO2)) ?_; intro w3 hR3 hW3; rw [set_33 hX1.hl] at hR3; obtain ⟨hRn, hFr⟩ := rn_begin hX1 hwl hO2 hG2 hR3 hW3; have hF3 := hF1.trans hFr; clear hX1 hO2 hG2 hr2 hR3 hW3 hF1 hFr; go_frame))
  go_end0
  exact ⟨rfl, hRn, hF3⟩
set_option maxRecDepth 100000 in
set_option maxHeartbeats 8000000 in
theorem scTurn_none {base : Nat} {hs : List Value} {Gs : List (Nat × Obj)} {g : Nat} {s : SSt} {n : Nat} (w : World) (h : Rn base hs Gs w g s n) (hw : s.ways = []) : Calls Tryz.prog 39 #[.pointer (some ⟨g, 0, none⟩)] w fun e w' => e = .returned (.int .i64 71) ∧ w' = w := by
  obtain ⟨sv, bv, vs, hX⟩ := h
  have h33 := row_33 hX.hl sv bv n
  obtain ⟨M, hM⟩ : ∃ M, (s.ways.reverse.map Value.bool).length = M := ⟨_, rfl⟩
  have hMw : M = s.ways.length := by rw [← hM]; simp
  have hM0 : M = 0 := by rw [hMw, hw]; rfl
  clear hMw
  go_enter Tryz.func39, Tryz.ntmps39
  go_wp2_with (first
    | ((with_reducible change wpList _ _ _ (Oper.mk (some 5) _ _ _ _ _ :: _) _ _); refine kNilCheck _ ⟨g, 0, none⟩ rfl rfl rfl ?_; go_frame)
    | ((with_reducible change wpList _ _ _ (Oper.mk (some 6) _ _ _ _ _ :: _) _ _); refine kRn2 _ g rfl rfl rfl ?_; go_frame)
    | ((with_reducible change wpList _ _ _ (Oper.mk (some 7) _ _ _ _ _ :: _) _ _); refine kLoad1 _ _ _ g 33 _ bv _ rfl rfl rfl hX.row Tryz.underlying41 rfl h33 ?_; go_frame)
    | ((with_reducible change wpList _ _ _ (Oper.mk (some 8) _ _ _ _ _ :: _) _ _); refine kLenN _ _ _ bv _ M rfl rfl rfl (isVals_own hX.br) hM Tryz.underlying41 ?_; go_frame)
    | ((with_reducible change wpList _ _ _ (Oper.mk (some 9) _ _ _ _ _ :: _) _ _); refine kSubZ _ _ _ _ (M : Int) 1 (-1) (by omega) rfl rfl rfl rfl ?_; go_frame)
    | ((with_reducible change wpList _ _ _ (Oper.mk (some 11) _ _ _ _ _ :: _) _ _); refine kLssI _ _ _ _ .i64 (-1) 0 true rfl rfl rfl rfl (by decide) ?_; go_frame))
  go_ret
  exact ⟨rfl, rfl⟩
set_option maxRecDepth 100000 in
set_option maxHeartbeats 8000000 in
theorem scEnd_none {base : Nat} {hs : List Value} {Gs : List (Nat × Obj)} {g : Nat} {s : SSt} {n : Nat} (w : World) (h : Rn base hs Gs w g s n) (hw : s.ways = []) : Calls Tryz.prog 40 #[.pointer (some ⟨g, 0, none⟩)] w fun e w' => e = .returned (.int .i64 71) ∧ w' = w := by
  obtain ⟨sv, bv, vs, hX⟩ := h
  have h33 := row_33 hX.hl sv bv n
  obtain ⟨M, hM⟩ : ∃ M, (s.ways.reverse.map Value.bool).length = M := ⟨_, rfl⟩
  have hMw : M = s.ways.length := by rw [← hM]; simp
  have hM0 : M = 0 := by rw [hMw, hw]; rfl
  clear hMw
  go_enter Tryz.func40, Tryz.ntmps40
  go_wp2_with (first
    | ((with_reducible change wpList _ _ _ (Oper.mk (some 5) _ _ _ _ _ :: _) _ _); refine kNilCheck _ ⟨g, 0, none⟩ rfl rfl rfl ?_; go_frame)
    | ((with_reducible change wpList _ _ _ (Oper.mk (some 6) _ _ _ _ _ :: _) _ _); refine kRn2 _ g rfl rfl rfl ?_; go_frame)
    | ((with_reducible change wpList _ _ _ (Oper.mk (some 7) _ _ _ _ _ :: _) _ _); refine kLoad1 _ _ _ g 33 _ bv _ rfl rfl rfl hX.row Tryz.underlying41 rfl h33 ?_; go_frame)
    | ((with_reducible change wpList _ _ _ (Oper.mk (some 8) _ _ _ _ _ :: _) _ _); refine kLenN _ _ _ bv _ M rfl rfl rfl (isVals_own hX.br) hM Tryz.underlying41 ?_; go_frame)
    | ((with_reducible change wpList _ _ _ (Oper.mk (some 9) _ _ _ _ _ :: _) _ _); refine kSubZ _ _ _ _ (M : Int) 1 (-1) (by omega) rfl rfl rfl rfl ?_; go_frame)
    | ((with_reducible change wpList _ _ _ (Oper.mk (some 11) _ _ _ _ _ :: _) _ _); refine kLssI _ _ _ _ .i64 (-1) 0 true rfl rfl rfl rfl (by decide) ?_; go_frame))
  go_ret
  exact ⟨rfl, rfl⟩
set_option maxRecDepth 100000 in
set_option maxHeartbeats 8000000 in
theorem scEnd_any {base : Nat} {hs : List Value} {Gs : List (Nat × Obj)} {g : Nat} {s : SSt} {n : Nat} {b : Bool} {ws : List Bool} (w : World) (h : Rn base hs Gs w g s n) (hw : s.ways = b :: ws) : Calls Tryz.prog 40 #[.pointer (some ⟨g, 0, none⟩)] w fun e w' => e = .returned (.int .i64 0) ∧ Rn base hs Gs w' g ⟨s.stack, ws⟩ n ∧ Fr base w w' := by
  have hle := h.le
  obtain ⟨sv, bv, vs, hX⟩ := h
  have h33 := row_33 hX.hl sv bv n
  obtain ⟨M, hM⟩ : ∃ M, (s.ways.reverse.map Value.bool).length = M := ⟨_, rfl⟩
  have hMw : M = s.ways.length := by rw [← hM]; simp
  have hMp : 0 < M := by rw [hMw, hw]; simp
  have hMl : M ≤ 5000 := by rw [hMw]; exact hX.wl
  have hd : decide ((((M - 1 : Nat) : Int)) < 0) = false := by simp
  have hws : (s.ways.reverse.map Value.bool).take (M - 1) = ws.reverse.map Value.bool := by
    rw [hw, List.reverse_cons, List.map_append, List.take_left' (by rw [hMw, hw]; simp)]
  have hlw : (ws.reverse.map Value.bool).length = M - 1 := by rw [hMw, hw]; simp
  clear hMw
  go_enter Tryz.func40, Tryz.ntmps40
  go_wp2_with (first
    | ((with_reducible change wpList _ _ _ (Oper.mk (some 5) _ _ _ _ _ :: _) _ _); refine kNilCheck _ ⟨g, 0, none⟩ rfl rfl rfl ?_; go_frame)
    | ((with_reducible change wpList _ _ _ (Oper.mk (some 6) _ _ _ _ _ :: _) _ _); refine kRn2 _ g rfl rfl rfl ?_; go_frame)
    | ((with_reducible change wpList _ _ _ (Oper.mk (some 7) _ _ _ _ _ :: _) _ _); refine kLoad1 _ _ _ g 33 _ bv _ rfl rfl rfl hX.row Tryz.underlying41 rfl h33 ?_; go_frame)
    | ((with_reducible change wpList _ _ _ (Oper.mk (some 8) _ _ _ _ _ :: _) _ _); refine kLenN _ _ _ bv _ M rfl rfl rfl (isVals_own hX.br) hM Tryz.underlying41 ?_; go_frame)
    | ((with_reducible change wpList _ _ _ (Oper.mk (some 9) _ _ _ _ _ :: _) _ _); refine kSubZ _ _ _ _ (M : Int) 1 ((M - 1 : Nat) : Int) (by omega) rfl rfl rfl rfl ?_; go_frame)
    | ((with_reducible change wpList _ _ _ (Oper.mk (some 11) _ _ _ _ _ :: _) _ _); refine kLssI _ _ _ _ .i64 ((M - 1 : Nat) : Int) 0 false rfl rfl rfl rfl hd ?_; go_frame)
    | ((with_reducible change wpList _ _ _ (Oper.mk (some 14) _ _ _ _ _ :: _) _ _); refine kNilCheck _ ⟨g, 0, none⟩ rfl rfl rfl ?_; go_frame)
    | ((with_reducible change wpList _ _ _ (Oper.mk (some 15) _ _ _ _ _ :: _) _ _); refine kRn2 _ g rfl rfl rfl ?_; go_frame)
    | ((with_reducible change wpList _ _ _ (Oper.mk (some 16) _ _ _ _ _ :: _) _ _); refine kLoad1 _ _ _ g 33 _ bv _ rfl rfl rfl hX.row Tryz.underlying41 rfl h33 ?_; go_frame)
    | ((with_reducible change wpList _ _ _ (Oper.mk (some 18) _ _ _ _ _ :: _) _ _); refine kSliceToS _ _ _ _ bv _ (M - 1) Tryz.underlying41 info_boolS (isVals_own hX.br) (by omega) rfl rfl rfl rfl ?_; go_frame)
    | ((with_reducible change wpList _ _ _ (Oper.mk (some 19) _ _ _ _ _ :: _) _ _); refine kNilCheck _ ⟨g, 0, none⟩ rfl rfl rfl ?_; go_frame)
    | ((with_reducible change wpList _ _ _ (Oper.mk (some 20) _ _ _ _ _ :: _) _ _); refine kRn2 _ g rfl rfl rfl ?_; go_frame)
    | ((with_reducible change wpList _ _ _ (Oper.mk none _ _ _ _ _ :: _) _ _); refine kStore1 _ _ _ _ g 33 _ (toV bv (M - 1)) rfl rfl rfl rfl hX.row info_boolsS (by rw [row_size hX.hl]; decide) (vals_oneS (isVals_own (own_to hX.br (show M - 1 ≤ _ by omega)))) ?_; intro w3 hR3 hW3; rw [set_33 hX.hl] at hR3; go_frame))
  go_ret
  have hk := kp_wrote hX.row hW3
  have hbr := own_to (hk.own hX.br (by decide)) (show M - 1 ≤ _ by omega)
  rw [hws] at hbr
  refine ⟨rfl, rn_ways hX hR3 (hk.own hX.st (by decide)) (by rw [hlw]; exact hbr) (hk.kb no_runner) ?_ (hW3.below hX.hb), hW3.below hX.hb, hk.kb no_runner⟩
  have := hX.wl; rw [hw] at this; simp at this; omega
theorem own_set {w w' : World} {base n j : Nat} {g cap : Nat} {E : TypeId} {xs : List Value} {cur : Array Value} {u : Value} (h : w.ownsRow base E 1 (.slice (some ⟨g, 0, none⟩) n cap) n xs) (hc : Row w g E cur) (_ : j < n) (hR : Row w' g E (cur.setIfInBounds j u)) : w'.ownsRow base E 1 (.slice (some ⟨g, 0, none⟩) n cap) n (xs.set j u) := by
  have hl : xs.length = n := by have := h.1; omega
  refine ⟨by rw [List.length_set]; omega, ?_⟩
  rcases h.2 with ⟨e, _⟩ | ⟨g', cap', cur', e, hb, hg, hnc, hcm, hcs, ht⟩
  · cases e
  · simp only [Value.slice.injEq, Option.some.injEq, Addr.mk.injEq] at e
    obtain ⟨⟨rfl, _⟩, _, rfl⟩ := e
    rw [show w.heap[g]? = _ from hc] at hg
    simp at hg
    subst hg
    refine .inr ⟨g, cap, _, rfl, hb, hR, hnc, hcm, by simpa using hcs, ?_⟩
    rw [← ht, Array.toList_setIfInBounds, List.take_set]
set_option maxRecDepth 100000 in
set_option maxHeartbeats 8000000 in
theorem scTurn_any {base : Nat} {hs : List Value} {Gs : List (Nat × Obj)} {g : Nat} {s : SSt} {n : Nat} {b : Bool} {ws : List Bool} (w : World) (h : Rn base hs Gs w g s n) (hw : s.ways = b :: ws) : Calls Tryz.prog 39 #[.pointer (some ⟨g, 0, none⟩)] w fun e w' => e = .returned (.int .i64 0) ∧ Rn base hs Gs w' g ⟨s.stack, (!b) :: ws⟩ n ∧ Fr base w w' := by
  have hle := h.le
  obtain ⟨sv, bv, vs, hX⟩ := h
  have h33 := row_33 hX.hl sv bv n
  obtain ⟨M, hM⟩ : ∃ M, (s.ways.reverse.map Value.bool).length = M := ⟨_, rfl⟩
  have hMw : M = s.ways.length := by rw [← hM]; simp
  have hMp : 0 < M := by rw [hMw, hw]; simp
  have hMl : M ≤ 5000 := by rw [hMw]; exact hX.wl
  have hd : decide ((((M - 1 : Nat) : Int)) < 0) = false := by simp
  have hbr := hX.br
  rw [hM] at hbr
  obtain ⟨gb, cap, cur, rfl, hgb, hC, hcell, hsz⟩ := own_slice hbr hMp
  have hlast : (s.ways.reverse.map Value.bool)[M - 1]? = some (.bool b) := by
    rw [hMw, hw, List.reverse_cons, List.map_append, List.getElem?_append_right (by simp)]; simp
  have hcb : cur[M - 1]? = some (.bool b) := (hcell _ (by omega)).trans hlast
  have hset : (s.ways.reverse.map Value.bool).set (M - 1) (.bool (!b)) = ((!b) :: ws).reverse.map Value.bool := by
    rw [hMw, hw, List.reverse_cons, List.map_append, List.reverse_cons, List.map_append, List.set_append_right _ _ (by simp)]; simp
  clear hcell hMw hlast
  go_enter Tryz.func39, Tryz.ntmps39
  go_wp2_with (first
    | ((with_reducible change wpList _ _ _ (Oper.mk (some 5) _ _ _ _ _ :: _) _ _); refine kNilCheck _ ⟨g, 0, none⟩ rfl rfl rfl ?_; go_frame)
    | ((with_reducible change wpList _ _ _ (Oper.mk (some 6) _ _ _ _ _ :: _) _ _); refine kRn2 _ g rfl rfl rfl ?_; go_frame)
    | ((with_reducible change wpList _ _ _ (Oper.mk (some 7) _ _ _ _ _ :: _) _ _); refine kLoad1 _ _ _ g 33 _ (.slice (some ⟨gb, 0, none⟩) M cap) _ rfl rfl rfl hX.row Tryz.underlying41 rfl h33 ?_; go_frame)
    | ((with_reducible change wpList _ _ _ (Oper.mk (some 8) _ _ _ _ _ :: _) _ _); refine kLenN _ _ _ (.slice (some ⟨gb, 0, none⟩) M cap) _ M rfl rfl rfl (isVals_own hX.br) hM Tryz.underlying41 ?_; go_frame)
    | ((with_reducible change wpList _ _ _ (Oper.mk (some 9) _ _ _ _ _ :: _) _ _); refine kSubZ _ _ _ _ (M : Int) 1 ((M - 1 : Nat) : Int) (by omega) rfl rfl rfl rfl ?_; go_frame)
    | ((with_reducible change wpList _ _ _ (Oper.mk (some 11) _ _ _ _ _ :: _) _ _); refine kLssI _ _ _ _ .i64 ((M - 1 : Nat) : Int) 0 false rfl rfl rfl rfl hd ?_; go_frame))
  refine region_keep 14 (by kernel_rfl) (by kernel_rfl) ?_
  simp only [List.take_succ_cons, List.take_zero, List.drop_succ_cons, List.drop_zero]
  refine qY _ (yMove _ (.pointer (some ⟨g, 0, none⟩)) rfl rfl rfl) ?_; go_frame
  refine qY _ (yNil _ ⟨g, 0, none⟩ rfl rfl rfl) ?_; go_frame
  refine qY _ (yRn2 _ g rfl rfl rfl) ?_; go_frame
  refine qY _ (yLoad1 _ _ _ g 33 _ (.slice (some ⟨gb, 0, none⟩) M cap) _ rfl rfl rfl (fun _ h => (hX.below h).row) Tryz.underlying41 rfl h33) ?_; go_frame
  refine qY _ (yMove _ (.int .i64 ((M - 1 : Nat) : Int)) rfl rfl rfl) ?_; go_frame
  refine qY _ (yMove _ (.pointer (some ⟨g, 0, none⟩)) rfl rfl rfl) ?_; go_frame
  refine qY _ (yNil _ ⟨g, 0, none⟩ rfl rfl rfl) ?_; go_frame
  refine qY _ (yRn2 _ g rfl rfl rfl) ?_; go_frame
  refine qY _ (yLoad1 _ _ _ g 33 _ (.slice (some ⟨gb, 0, none⟩) M cap) _ rfl rfl rfl (fun _ h => (hX.below h).row) Tryz.underlying41 rfl h33) ?_; go_frame
  refine qY _ (yMove _ (.int .i64 ((M - 1 : Nat) : Int)) rfl rfl rfl) ?_; go_frame
  refine qY _ (yIndexR _ _ _ _ gb M cap (M - 1) rfl rfl rfl rfl Tryz.underlying41 info_boolS (by omega)) ?_; go_frame
  refine qY _ (yLoad1 _ _ _ gb (M - 1) cur (.bool b) _ rfl rfl rfl (fun _ h => hC.below h hC.lt) Tryz.underlying4 rfl hcb) ?_; go_frame
  refine qY _ (yNot _ _ b rfl rfl rfl) ?_; go_frame
  refine qY _ (yIndexR _ _ _ _ gb M cap (M - 1) rfl rfl rfl rfl Tryz.underlying41 info_boolS (by omega)) ?_; go_frame
  refine wpQuiet_nil ?_
  intro w2 hBd
  have hX2 := hX.below hBd
  have hC2 := hC.below hBd hC.lt
  have hF2 := fr_below hBd hle
  clear hX hC hBd
  refine kStore1 _ _ _ _ gb (M - 1) _ (.bool (!b)) rfl rfl rfl rfl hC2 info_boolS (by omega) rfl ?_
  intro w3 hR3 hW3
  go_frame
  have hk := kp_wrote hC2 hW3
  have hO3 := own_set (by have := hX2.br; rw [hM] at this; exact this) hC2 (show M - 1 < M by omega) hR3
  rw [hset] at hO3
  have hlw : (((!b) :: ws).reverse.map Value.bool).length = M := by rw [← hset, List.length_set]; exact hM
  have hRn := rn_ways hX2 (hk.row hX2.row (by decide)) (hk.own hX2.st (by decide)) (by rw [hlw]; exact hO3) (hk.kb no_bool) (by have := hX2.wl; rw [hw] at this; simpa using this) (hW3.below hgb)
  have hF3 := hF2.trans ⟨hW3.below hgb, hk.kb no_bool⟩
  clear hX2 hC2 hF2 hR3 hW3 hk hO3
  go_wp2
  go_ret
  exact ⟨rfl, hRn, hF3⟩
end Go.Proofs.YtnaclalbeocpkaaGreatDoor
