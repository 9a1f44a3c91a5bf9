/-
  Joined: PcBase, PcWrite, PcText, PcRef, PcRead, PcIter.
-/
import Derived.Test.YtdeggdmoijfhdaaBytesKit
import Derived.Test.YtdeggdmoijfhdaaPcPlain
import Derived.RangeFuncBox
import Derived.RangeFuncLeaves
import Derived.Shelf.Abstract
import Derived.WalkKit
import Derived.OwnWalkIn
import Derived.TacticsInMore
import Derived.LoopNIn
import Derived.LoopIn
/-
  Layer 6: what its walks ask besides: bytes appended into new memory, readers in memory, and what a call leaves alone.
-/
namespace Go.Proofs.Ytdeggdmoijfhdaa
open Go Go.RowKit

theorem info_b8P : (Try.prog.info? 5).map (·.size) = some 1 := by kernel_rfl
/-- an answer of bytes in new memory -/
def POwnPost (w : World) (l : List UInt8) (e : Ending) (w' : World) : Prop := ∃ v, e = .returned v ∧ OwnB w' w.heap.size v l ∧ Below w.heap.size w w'
theorem OwnB.below {w w' : World} {b : Nat} {v : Value} {l : List UInt8} (h : OwnB w b v l) (hb : Below w.heap.size w w') : OwnB w' b v l := ownsRow_below h hb
theorem ownB_nil (w : World) (b : Nat) : OwnB w b (.slice none 0 0) [] := World.ownsRow_nil w b _ _
/-- a slice whose room is its length -/
def fullV : Value → Value
  | .slice ao n _ => .slice ao n n
  | v => v
theorem vals_none {w : World} {l : List UInt8} {n c : Nat} (h : IsVals w (.slice none n c) (l.map VB)) : l = [] ∧ n = 0 ∧ c = 0 := by
  obtain ⟨ao, c', e, h1, h2, h3⟩ := h
  simp only [Value.slice.injEq] at e
  obtain ⟨rfl, rfl, rfl⟩ := e
  cases l with
  | nil => exact ⟨rfl, rfl, h2 rfl⟩
  | cons x l => obtain ⟨a, ha, _⟩ := h3 0 _ rfl; cases ha
theorem vals_len {w : World} {l : List UInt8} {ao : Option Addr} {n c : Nat} (h : IsVals w (.slice ao n c) (l.map VB)) : n = l.length ∧ n ≤ c := by
  obtain ⟨ao', c', e, h1, _⟩ := h
  simp only [Value.slice.injEq] at e
  obtain ⟨rfl, rfl, rfl⟩ := e
  exact ⟨by simp, h1⟩
/-- a slice that lies in a block below this one -/
def Lim (Lm : Nat) (v : Value) : Prop := ∀ b, v.ownBlock = some b → b < Lm
theorem Lim.from {Lm : Nat} {v : Value} (h : Lim Lm v) (n : Nat) : Lim Lm (fromV v n) := by
  intro b hb
  refine h b ?_
  cases v with
  | slice ao k c =>
    cases ao with
    | none => simp [fromV, Value.ownBlock] at hb
    | some a =>
      have e : (a.add n).block = a.block := by unfold Addr.add; split <;> rfl
      simp only [fromV] at hb
      split at hb
      · exact hb
      · simp only [Option.map_some, Value.ownBlock, Option.some.injEq] at hb ⊢; rw [← hb, e]
  | _ => first | exact hb | (simp [fromV, Value.ownBlock] at hb)
theorem Lim.mono {Lm Lm' : Nat} {v : Value} (h : Lim Lm v) (hl : Lm ≤ Lm') : Lim Lm' v := fun b hb => Nat.lt_of_lt_of_le (h b hb) hl
/-- .. if there is anything in it -/
def LimR (Lm : Nat) (v : Value) (l : List UInt8) : Prop := l ≠ [] → Lim Lm v
theorem LimR.from {Lm : Nat} {v : Value} {l : List UInt8} (h : LimR Lm v l) (n : Nat) : LimR Lm (fromV v n) (l.drop n) := fun hn => (h fun e => hn (by rw [e]; simp)).from n
theorem LimR.mono {Lm Lm' : Nat} {v : Value} {l : List UInt8} (h : LimR Lm v l) (hl : Lm ≤ Lm') : LimR Lm' v l := fun hn => (h hn).mono hl
theorem limR_vals {w : World} {v : Value} {l : List UInt8} (h : IsVals w v (l.map VB)) : LimR w.heap.size v l := by
  intro hn b hb
  obtain ⟨ao, c, rfl, -, -, hj⟩ := h
  cases l with
  | nil => exact absurd rfl hn
  | cons x l =>
    obtain ⟨a, rfl, hc⟩ := hj 0 _ rfl
    have := block_lt_of_cell hc
    have e : (a.add 0).block = a.block := by unfold Addr.add; split <;> rfl
    simp only [Value.ownBlock, Option.some.injEq] at hb
    rw [← hb, ← e]; exact this
theorem lim_own {w : World} {base : Nat} {v : Value} {l : List UInt8} (h : OwnB w base v l) : Lim w.heap.size v := fun b hb => (h.lt b hb).2
/-- a reader's row: what is left, and the error -/
def Rd (Lm : Nat) (T : TypeId) (w : World) (g : Nat) (s : Scn) : Prop := ∃ v, Row w g T #[v, .int .i64 (s.err : Int)] ∧ IsVals w v (s.rest.map VB) ∧ LimR Lm v s.rest
/-- all that was there is as it was, but for one block -/
abbrev Exc (g : Nat) (w w' : World) : Prop := w.grownBy w' (some g)
theorem exc_refl (g : Nat) (w : World) : Exc g w w := ⟨rfl, rfl, rfl, Nat.le_refl _, fun _ _ _ => rfl⟩
theorem Exc.trans {g : Nat} {a b c : World} (h : Exc g a b) (k : Exc g b c) : Exc g a c :=
  ⟨k.os.trans h.os, k.tape.trans h.tape, k.output.trans h.output, Nat.le_trans h.size k.size, fun i hi hne => (k.block i (Nat.lt_of_lt_of_le hi h.size) hne).trans (h.block i hi hne)⟩
theorem exc_below {w w' : World} (g : Nat) (h : Below w.heap.size w w') : Exc g w w' := ⟨h.os, h.tape, h.output, h.size, fun k hk _ => h.block k hk⟩
theorem exc_wrote {g : Nat} {w w' : World} (h : Wrote g w w') : Exc g w w' := ⟨h.os, h.tape, h.output, Nat.le_of_eq h.size.symm, fun k _ hne => h.other k fun e => hne (by rw [e])⟩
theorem Exc.below {g B : Nat} {w w' : World} (h : Exc g w w') (hB : B ≤ g) (hs : B ≤ w.heap.size) : Below B w w' :=
  ⟨h.os, h.tape, h.output, h.size, fun k hk => h.block k (by omega) (fun e => by cases e; omega)⟩
theorem Exc.row {g k : Nat} {w w' : World} {T : TypeId} {cs : Array Value} (h : Exc g w w') (hr : Row w k T cs) (hk : k ≠ g) : Row w' k T cs :=
  (h.block k hr.lt fun e => hk (by cases e; rfl)).trans hr
theorem rd_noByte {Lm : Nat} {T : TypeId} {w : World} {g : Nat} {s : Scn} (h : Rd Lm T w g s) {a : Addr} {c : UInt8} (hc : w.cell? a = some (VB c)) : a.block ≠ g := by
  rintro rfl
  obtain ⟨v, hr, ⟨ao, cp, rfl, _⟩, _⟩ := h
  have hr' : w.heap[a.block]? = some (.cells #[.slice ao (s.rest.map VB).length cp, .int .i64 (s.err : Int)] T (0, 0)) := hr
  unfold World.cell? at hc
  rw [hr'] at hc
  simp only at hc
  split at hc
  · cases hc
  · rcases ho : a.off with _ | _ | n
    · rw [ho] at hc; simp at hc
    · rw [ho] at hc; simp at hc
    · rw [ho] at hc; simp at hc
theorem Exc.vals {Lm : Nat} {T : TypeId} {w w' : World} {g : Nat} {s : Scn} {v : Value} {l : List UInt8} (h : Exc g w w') (hr : Rd Lm T w g s) (hv : IsVals w v (l.map VB)) : IsVals w' v (l.map VB) := by
  obtain ⟨ao, c, rfl, hc, hn, hj⟩ := hv
  refine ⟨ao, c, rfl, hc, hn, fun j u hu => ?_⟩
  obtain ⟨a, rfl, hcell⟩ := hj j u hu
  obtain ⟨x, -, rfl⟩ : ∃ x, x ∈ l ∧ VB x = u := by
    have := List.mem_of_getElem? hu
    simpa using this
  exact ⟨a, rfl, h.cell hcell fun e => rd_noByte hr hcell (by cases e; rfl)⟩
theorem Exc.rd {Lm Lm2 : Nat} {T U : TypeId} {w w' : World} {g k : Nat} {s t : Scn} (h : Exc g w w') (hr : Rd Lm T w g s) (hs : Rd Lm2 U w k t) (hk : k ≠ g) : Rd Lm2 U w' k t := by
  obtain ⟨v, h1, h2, h3⟩ := hs
  exact ⟨v, h.row h1 hk, h.vals hr h2, h3⟩
theorem Rd.lt {Lm : Nat} {T : TypeId} {w : World} {g : Nat} {s : Scn} (h : Rd Lm T w g s) : g < w.heap.size := by obtain ⟨v, h1, _⟩ := h; exact h1.lt
theorem Rd.below {Lm : Nat} {T : TypeId} {w w' : World} {g : Nat} {s : Scn} (h : Rd Lm T w g s) (hb : Below w.heap.size w w') : Rd Lm T w' g s := by
  obtain ⟨v, h1, h2, h3⟩ := h
  exact ⟨v, h1.below hb h1.lt, h2.below hb, h3⟩
theorem Rd.mono {Lm Lm' : Nat} {T : TypeId} {w : World} {g : Nat} {s : Scn} (h : Rd Lm T w g s) (hl : Lm ≤ Lm') : Rd Lm' T w g s := by
  obtain ⟨v, h1, h2, h3⟩ := h
  exact ⟨v, h1, h2, h3.mono hl⟩
/-- a reader, over what is written beside it -/
theorem Rd.wrote {Lm : Nat} {T : TypeId} {w w' : World} {g B : Nat} {s : Scn} (h : Rd Lm T w g s) (hW : Wrote B w w') (hB : Lm ≤ B) (hg : g ≠ B) : Rd Lm T w' g s := by
  obtain ⟨v, h1, h2, h3⟩ := h
  exact ⟨v, hW.row h1 hg, h2.wrote hW (fun j u hu a ha => by have := h3 (fun e => by rw [e] at hu; simp at hu) a ha; omega), h3⟩
theorem exc_new {g B : Nat} {w w1 w2 : World} (h : Exc g w w1) (hW : Wrote B w1 w2) (hB : w.heap.size ≤ B) : Exc g w w2 :=
  ⟨hW.os.trans h.os, hW.tape.trans h.tape, hW.output.trans h.output, by rw [hW.size]; exact h.size, fun i hi hne => (hW.other i (by omega)).trans (h.block i hi hne)⟩
section
variable {ops : Array Oper} {Q : Exit → Act → World → Prop} {rest : List Oper} {o : Oper} {a : Act} {w : World}
theorem kSliceFull (x y z : Operand) (ho : o.op = .slice 76 x none (some y) (some z)) (hg : Region.wanted o (yielded ops a.tmps) = true) (v : Value) (l : List UInt8) (hv : IsVals w v (l.map VB)) (hx : a.eval x = v) (hy : a.eval y = .int .i64 (l.length : Int)) (hz : a.eval z = .int .i64 (l.length : Int))
    (h : wpList Try.prog ops Q rest (a.put o.dst (fullV v)) w) : wpList Try.prog ops Q (o :: rest) a w := by
  refine kPure _ hg ?_ h
  obtain ⟨ao, c, rfl, hc, hn, hj⟩ := hv
  have hs := info_b8P
  cases hq : Try.prog.info? 5 with
  | none => simp [hq] at hs
  | some t =>
    have hc' : l.length ≤ c := by simpa using hc
    have hb : ∀ (y : Nat) code, l.length ≤ y → (Instr.sliceBound (.int .i64 (l.length : Int)) y code).run Try.prog w = .ok l.length w := fun y code hy => by
      have := run_sliceBound (P := Try.prog) (w := w) .i64 (l.length : Int) y code (by omega) (by omega)
      simpa using this
    have hrun : (Instr.sliceAt 76 (.slice ao (l.map VB).length c) none (some (.int .i64 (l.length : Int))) (some (.int .i64 (l.length : Int)))).run Try.prog w = .ok (fullV (.slice ao (l.map VB).length c)) w := by
      simp [Instr.sliceAt, run_underlying Try.underlying76, Instr.slice, Instr.sliceBounds, hb _ _ hc', hb _ _ (Nat.le_refl _), sizeOf, typeInfo, hq, fullV]
      cases ao <;> simp [Addr.add]
    unfold execOp
    simp only [ho, hx, hy, hz, Option.map_some, Option.map_none, Sem.run_bind, hrun, Result.andThen_ok, Sem.run_pure]
/-- append to bytes of one's own -/
theorem kAppB (s x : Operand) (ho : o.op = .call { callee := .builtin .append, args := #[s, x], argTypes := #[76, 76] }) (hg : o.guard = none) (base : Nat) (v y : Value) (xs news : List UInt8) (hown : OwnB w base v xs) (hy : IsVals w y (news.map VB)) (hs : a.eval s = v) (hx : a.eval x = y)
    (hlen : xs.length + news.length ≤ 1000000000) (hbase : base ≤ w.heap.size)
    (h : ∀ v' w', OwnB w' base v' (xs ++ news) → Below base w w' → wpList Try.prog ops Q rest (a.put o.dst v') w') : wpList Try.prog ops Q (o :: rest) a w := by
  obtain ⟨i, hi, hz, hsize, hby⟩ := b8Info
  refine kAppend s x _ _ ho hg base i _ Try.underlying76 hi hz hsize rfl v y (xs.map VB) (news.map VB) hs hown hx hy (vbs_one _) (by simp [maxLen]; omega) (by rw [hby]; simp; omega) hbase fun v' w' h1 h2 => ?_
  rw [← List.map_append] at h1
  exact h v' w' h1 (below_grown hown h2 hbase)
/-- append to a slice without spare room: new memory -/
theorem kAppNew (s x : Operand) (ho : o.op = .call { callee := .builtin .append, args := #[s, x], argTypes := #[76, 76] }) (hg : o.guard = none) (v y : Value) (olds news : List UInt8) (hv : IsVals w v (olds.map VB)) (hy : IsVals w y (news.map VB)) (hs : a.eval s = fullV v) (hx : a.eval x = y) (hnn : news ≠ [])
    (hlen : olds.length + news.length ≤ 1000000000)
    (h : ∀ v' w', OwnB w' w.heap.size v' (olds ++ news) → Below w.heap.size w w' → wpList Try.prog ops Q rest (a.put o.dst v') w') : wpList Try.prog ops Q (o :: rest) a w := by
  have hv' := hv
  obtain ⟨ao, c, rfl, hc, hn, hj⟩ := hv'
  cases ao with
  | none =>
    obtain ⟨rfl, h1, rfl⟩ := vals_none hv
    refine kAppB s x ho hg w.heap.size (.slice none 0 0) y [] news (ownB_nil _ _) hy hs hx (by simpa using hlen) (Nat.le_refl _) h
  | some ad =>
    obtain ⟨i, hi, hz, hsize, hby⟩ := b8Info
    have hy' := hy
    obtain ⟨bo, cp, rfl, hcp, hnp, hjp⟩ := hy'
    cases bo with
    | none => exact absurd (vals_none hy).1 hnn
    | some bd =>
      have hpos : 0 < news.length := List.length_pos_iff.2 hnn
      have holds : ∀ j u, (olds.map VB)[j]? = some u → w.cell? (ad.add j) = some u := fun j u hu => by
        obtain ⟨a', ha, hcell⟩ := hj j u hu; cases ha; exact hcell
      have hnews : ∀ j u, (news.map VB)[j]? = some u → w.cell? (bd.add j) = some u := fun j u hu => by
        obtain ⟨a', ha, hcell⟩ := hjp j u hu; cases ha; exact hcell
      have hml : (news.map VB).length = news.length := by simp
      have hol : (olds.map VB).length = olds.length := by simp
      have hr := run_append_grow (P := Try.prog) w 76 o.type 5 i _ Try.underlying76 hi hz ad (olds.map VB).length (olds.map VB).length (olds.map VB) (by rw [hsize]; omega) holds bd (news.map VB).length cp (news.map VB) (by rw [hsize]; omega) hnews (by omega) (by omega) (growslice_fits (by omega) (by rw [hby]; omega))
      refine BigFrame.wpList_want (by unfold Region.wanted; rw [hg]) fun K hK => ?_
      unfold Oper.wp execOp
      simp only [ho, resolve, invoke, builtin, Sem.run_bind, Sem.run_pure, Result.andThen_ok, List.map_toArray, List.map_cons, List.map_nil, hs, hx, fullV, hr]
      have hB : Below w.heap.size w (w.drew.alloc (.cells ((olds.map VB).toArray ++ (news.map VB).toArray ++ Builtin.zeroCells (Value.int .u8 0).cells (grownCap w ((olds.map VB).length + (news.map VB).length) (olds.map VB).length 5 - ((olds.map VB).length + (news.map VB).length))) 5)) := by
        have hb := fun o => (Below.refl w.drew.heap.size w.drew).alloc (Nat.le_refl _) o
        exact ⟨(hb _).os, (hb _).tape, (hb _).output, (hb _).size, (hb _).block⟩
      refine hK _ _ (h _ _ ⟨by simp, .inr ⟨w.heap.size, grownCap w ((olds.map VB).length + (news.map VB).length) (olds.map VB).length 5, _, ?_, Nat.le_refl _, heap_alloc_new w.drew _, ?_, grownCap_le_maxLen _ _ _ _ (by unfold maxLen; omega), ?_, ?_⟩⟩ hB)
      · simp
      · have := grownCap_ge w ((olds.map VB).length + (news.map VB).length) (olds.map VB).length 5
        simpa using this
      · have := grownCap_ge w ((olds.map VB).length + (news.map VB).length) (olds.map VB).length 5
        rw [Array.size_append, size_zeroCells]
        simp [Value.cells] at this ⊢
        omega
      · rw [Array.toList_append, Array.toList_append, List.take_append_of_le_length (by simp)]
        rw [List.take_of_length_le (by simp), List.map_append]
theorem kSliceTo (x y : Operand) (v : Value) (l : List UInt8) (n : Nat) (hv : IsVals w v (l.map VB)) (hn : n ≤ l.length) (ho : o.op = .slice 76 x none (some y) none) (hg : Region.wanted o (yielded ops a.tmps) = true) (hx : a.eval x = v) (hy : a.eval y = .int .i64 (n : Int))
    (h : IsVals w (toV v n) ((l.take n).map VB) → wpList Try.prog ops Q rest (a.put o.dst (toV v n)) w) : wpList Try.prog ops Q (o :: rest) a w := by
  have hv2 := isVals_to (n := n) hv (by simpa using hn)
  rw [← List.map_take] at hv2
  refine kPure _ hg ?_ (h hv2)
  unfold execOp
  simp only [ho, hx, hy, Option.map_some, Option.map_none, Sem.run_bind, run_sliceToV (n := n) Try.underlying76 info_b8P hv rfl (by simpa using hn), Result.andThen_ok, Sem.run_pure]
theorem kSliceFromB (x y : Operand) (v : Value) (l : List UInt8) (n : Nat) (hv : IsVals w v (l.map VB)) (hn : n ≤ l.length) (ho : o.op = .slice 76 x (some y) none none) (hg : Region.wanted o (yielded ops a.tmps) = true) (hx : a.eval x = v) (hy : a.eval y = .int .i64 (n : Int))
    (h : IsVals w (fromV v n) ((l.drop n).map VB) → wpList Try.prog ops Q rest (a.put o.dst (fromV v n)) w) : wpList Try.prog ops Q (o :: rest) a w := by
  have hv2 := isVals_from (n := n) hv (by simpa using hn)
  rw [← List.map_drop] at hv2
  refine kPure _ hg ?_ (h hv2)
  unfold execOp
  simp only [ho, hx, hy, Option.map_some, Option.map_none, Sem.run_bind, run_sliceFromV (n := n) Try.underlying76 info_b8P hv rfl (by simpa using hn), Result.andThen_ok, Sem.run_pure]
theorem kSliceLH (x y z : Operand) (v : Value) (l : List UInt8) (p q : Nat) (hv : IsVals w v (l.map VB)) (hp : p ≤ q) (hq : q ≤ l.length) (ho : o.op = .slice 76 x (some y) (some z) none) (hg : Region.wanted o (yielded ops a.tmps) = true) (hx : a.eval x = v) (hy : a.eval y = .int .i64 (p : Int)) (hz : a.eval z = .int .i64 (q : Int))
    (h : ∀ u, IsVals w u (((l.take q).drop p).map VB) → wpList Try.prog ops Q rest (a.put o.dst u) w) : wpList Try.prog ops Q (o :: rest) a w := by
  have hv2 := isVals_to (n := q) hv (by simpa using hq)
  rw [← List.map_take] at hv2
  have hv3 := isVals_from (n := p) hv2 (by simp; omega)
  rw [← List.map_drop] at hv3
  refine kPure _ hg ?_ (h _ hv3)
  obtain ⟨ao, c, rfl, hc, hn, hj⟩ := hv
  have hc' : l.length ≤ c := by simpa using hc
  have hs := info_b8P
  cases hi : Try.prog.info? 5 with
  | none => simp [hi] at hs
  | some t =>
    have hs' : t.size = 1 := by simpa [hi] using hs
    have hbd : ∀ (k m : Nat) code, k ≤ m → (Instr.sliceBound (.int .i64 (k : Int)) m code).run Try.prog w = .ok k w := fun k m code hkm => by
      have := run_sliceBound (P := Try.prog) (w := w) .i64 (k : Int) m code (by omega) (by omega)
      simpa using this
    have hrun : (Instr.sliceAt 76 (.slice ao (l.map VB).length c) (some (.int .i64 (p : Int))) (some (.int .i64 (q : Int))) none).run Try.prog w = .ok (fromV (toV (.slice ao (l.map VB).length c) q) p) w := by
      simp [Instr.sliceAt, run_underlying Try.underlying76, Instr.slice, Instr.sliceBounds, hbd q c _ (by omega), hbd p q _ hp, sizeOf, typeInfo, hi, hs', fromV, toV]
    unfold execOp
    simp only [ho, hx, hy, hz, Option.map_some, Option.map_none, Sem.run_bind, hrun, Result.andThen_ok, Sem.run_pure]
end
end Go.Proofs.Ytdeggdmoijfhdaa

/-
  Layer 6: the walks of what writes: numbers and texts behind bytes, in new memory.
-/
namespace Go.Proofs.Ytdeggdmoijfhdaa
open Go Go.RowKit

theorem vals_slice {w : World} {v : Value} {l : List UInt8} (h : IsVals w v (l.map VB)) : ∃ ao c, v = .slice ao l.length c := by
  obtain ⟨ao, c, rfl, _⟩ := h; exact ⟨ao, c, by simp⟩
theorem byte_cases (c : UInt8) : c.toNat ≤ 252 ∨ c = 253 ∨ c = 254 ∨ c = 255 := by
  have h := c.toNat_lt
  by_cases h1 : c.toNat ≤ 252
  · exact .inl h1
  · rcases (show c.toNat = 253 ∨ c.toNat = 254 ∨ c.toNat = 255 by omega) with e | e | e
    · exact .inr (.inl (UInt8.toNat_inj.1 e))
    · exact .inr (.inr (.inl (UInt8.toNat_inj.1 e)))
    · exact .inr (.inr (.inr (UInt8.toNat_inj.1 e)))
theorem fSize_low {c : UInt8} (h : c.toNat ≤ 252) : fSize c = 0 := by unfold fSize; rw [if_pos h]
/-- a count's first byte -/
def cFirst (n : Nat) : UInt8 := if n ≤ 252 then UInt8.ofNat n else if n ≤ 65535 then 253 else if n ≤ 4294967295 then 254 else 255
theorem cFirst_size {n : Nat} : fSize (cFirst n) = cSize n := by
  unfold cFirst cSize
  split
  · rw [fSize_low (by rw [u8_nat (by omega)]; assumption)]
  · split
    · decide
    · split <;> decide
theorem countL_first (n : Nat) : countL n = cFirst n :: fixedL n (fSize (cFirst n)) := by
  rw [cFirst_size]
  unfold countL cFirst cSize
  split
  · rfl
  · split
    · rfl
    · split <;> rfl
theorem VB_of {n : Nat} (h : n < 256) : VB (UInt8.ofNat n) = .int .u8 (n : Int) := by
  show Value.int .u8 (B (UInt8.ofNat n)) = _
  unfold B; rw [u8_nat h]
theorem fixedL_snoc (n k : Nat) : fixedL n (k + 1) = fixedL n k ++ [UInt8.ofNat (n / 256 ^ k % 256)] := by
  induction k generalizing n with
  | zero => show [UInt8.ofNat (n % 256)] = _; rw [Nat.pow_zero, Nat.div_one]; rfl
  | succ k ih =>
    show UInt8.ofNat (n % 256) :: fixedL (n / 256) (k + 1) = (UInt8.ofNat (n % 256) :: fixedL (n / 256) k) ++ _
    rw [ih, Nat.div_div_eq_div_mul, show 256 * 256 ^ k = 256 ^ (k + 1) by rw [Nat.pow_succ, Nat.mul_comm]]; rfl
theorem own_make8 {w : World} {g base : Nat} (hb : base ≤ g) (h : Row w g 5 (Array.replicate 8 (.int .u8 0))) : OwnB w base (.slice (some ⟨g, 0, none⟩) 0 8) [] :=
  ⟨rfl, .inr ⟨g, 8, _, rfl, hb, h, by decide, by decide, by simp, by simp⟩⟩
theorem clampS_le (z : Int) : clampS z ≤ 8 := by unfold clampS; omega
theorem clampS_size (c : UInt8) : clampS (fSize c : Int) = fSize c := by
  unfold fSize clampS; split <;> (try split) <;> (try split) <;> decide
theorem fSize_le (c : UInt8) : fSize c ≤ 8 := by unfold fSize; split <;> (try split) <;> (try split) <;> decide
end Go.Proofs.Ytdeggdmoijfhdaa

/-
  Layer 6: Text, and the reference's writers.
-/
namespace Go.Proofs.Ytdeggdmoijfhdaa
open Go Go.RowKit

/-- texts one behind the other -/
def textsL (Ls : List (List UInt8)) : List UInt8 := (Ls.map textL).flatten
theorem textsL_take (Ls : List (List UInt8)) (k : Nat) (hk : k < Ls.length) : textsL (Ls.take (k + 1)) = textsL (Ls.take k) ++ textL Ls[k] := by
  unfold textsL; rw [List.take_succ_eq_append_getElem hk, List.map_append, List.flatten_append]; simp
theorem countL_le (n : Nat) : (countL n).length ≤ 9 := by have := fSize_le (cFirst n); rw [countL_len, ← cFirst_size]; omega
theorem textL_le {x : List UInt8} {m : Nat} (h : x.length ≤ m) : (textL x).length ≤ m + 9 := by
  have := countL_le x.length; unfold textL; rw [List.length_append]; omega
theorem textsL_le (Ls : List (List UInt8)) (m : Nat) (h : ∀ L ∈ Ls, L.length ≤ m) : (textsL Ls).length ≤ Ls.length * (m + 9) := by
  induction Ls with
  | nil => simp [textsL]
  | cons x Ls ih =>
    have h1 := textL_le (h x (by simp))
    have h2 := ih fun L hL => h L (by simp [hL])
    have e : textsL (x :: Ls) = textL x ++ textsL Ls := by simp [textsL]
    rw [e, List.length_append, List.length_cons, Nat.add_mul, Nat.one_mul]; omega
theorem AreLists.len {w : World} {v : Value} {Ls : List (List UInt8)} (h : AreLists w v Ls) : ∃ vs : List Value, vs.length = Ls.length ∧ IsVals w v vs := by
  obtain ⟨vs, h1, h2, _⟩ := h; exact ⟨vs, h1, h2⟩
theorem AreLists.at {w : World} {v : Value} {Ls : List (List UInt8)} (h : AreLists w v Ls) {k : Nat} (hk : k < Ls.length) : ∃ (vs : List Value) (x : Value), vs.length = Ls.length ∧ IsVals w v vs ∧ vs[k]? = some x ∧ IsVals w x (Ls[k].map VB) := by
  obtain ⟨vs, h1, h2, h3⟩ := h
  exact ⟨vs, vs[k], h1, h2, List.getElem?_eq_getElem (by omega), h3 k _ _ (List.getElem?_eq_getElem (by omega)) (List.getElem?_eq_getElem hk)⟩
theorem info_bytesP : (Try.prog.info? 76).map (·.size) = some 1 := by kernel_rfl
end Go.Proofs.Ytdeggdmoijfhdaa

/-
  Layer 6: the reference's writers.
-/
namespace Go.Proofs.Ytdeggdmoijfhdaa
open Go Go.RowKit

theorem clampS_of (z : Int) (k : Nat) (h : k = clampS z) (hz : (k : Int) < z) : k = 8 := by unfold clampS at h; omega
end Go.Proofs.Ytdeggdmoijfhdaa

/-
  Layer 6: readers in memory, and the walks of New, Left, Err, take and Raw.
-/
namespace Go.Proofs.Ytdeggdmoijfhdaa
open Go Go.RowKit
variable {Lm : Nat}

/-- the next n bytes, where there are so many -/
def takeS (s : Scn) (n : Nat) : List UInt8 × Scn :=
  if s.err ≠ 0 then ([], s) else if s.rest.length < n then ([], ⟨s.rest, 61⟩) else (s.rest.take n, ⟨s.rest.drop n, 0⟩)
theorem takeS_bad {s : Scn} (h : s.err ≠ 0) (n : Nat) : takeS s n = ([], s) := by unfold takeS; rw [if_pos h]
theorem takeS_short {s : Scn} {n : Nat} (h : s.err = 0) (hn : s.rest.length < n) : takeS s n = ([], ⟨s.rest, 61⟩) := by unfold takeS; rw [if_neg (by simp [h]), if_pos hn]
theorem takeS_some {s : Scn} {n : Nat} (h : s.err = 0) (hn : n ≤ s.rest.length) : takeS s n = (s.rest.take n, ⟨s.rest.drop n, 0⟩) := by unfold takeS; rw [if_neg (by simp [h]), if_neg (by omega)]
theorem rawS_take (s : Scn) (n : Nat) : rawS s (n : Int) = takeS s n := by
  unfold rawS takeS
  by_cases h : s.err ≠ 0
  · rw [if_pos (.inl h), if_pos h]
  · rw [if_neg h]
    have h0 : s.err = 0 := by omega
    by_cases hn : n = 0
    · subst hn
      rw [if_pos (.inr (by decide)), if_neg (by omega)]
      cases s; simp_all
    · rw [if_neg (by omega), Int.toNat_natCast]
      by_cases hl : s.rest.length < n
      · rw [if_pos (by omega), if_pos hl]
      · rw [if_neg (by omega), if_neg hl]
theorem rawS_low {s : Scn} {z : Int} (h : z < 1) : rawS s z = ([], s) := by unfold rawS; rw [if_pos (.inr h)]
theorem fixedS_take (s : Scn) (z : Int) : fixedS s z = (numL (takeS s (clampS z)).1, (takeS s (clampS z)).2) := by unfold fixedS; rw [rawS_take]
theorem takeS_len (s : Scn) (n : Nat) : (takeS s n).1.length ≤ n := by
  unfold takeS; split
  · exact Nat.zero_le _
  · split
    · exact Nat.zero_le _
    · rw [List.length_take]; omega

theorem info_errno : (Try.prog.info? 25).map (·.size) = some 1 := by kernel_rfl
theorem info_intP : (Try.prog.info? 3).map (·.size) = some 1 := by kernel_rfl
section
variable {ops : Array Oper} {Q : Exit → Act → World → Prop} {rest : List Oper} {o : Oper} {a : Act} {w : World}
end
theorem vals_one {w : World} {v : Value} {l : List Value} (h : IsVals w v l) : v.oneCell' = true := by obtain ⟨ao, c, rfl, _⟩ := h; rfl
/-- a reader's row that is written -/
theorem rd_put {T : TypeId} {w w1 : World} {g : Nat} {s t : Scn} {v : Value} {e : Int} (h : Rd Lm T w g s) (hr : Row w1 g T #[v, .int .i64 e]) (hw : Wrote g w w1) (hv : IsVals w v (t.rest.map VB)) (he : e = (t.err : Int)) (hL : LimR Lm v t.rest) : Rd Lm T w1 g t :=
  ⟨v, by rw [← he]; exact hr, (exc_wrote hw).vals h hv, hL⟩
/-- an answer of bytes, and what became of the reader -/
def TakePost (Lm : Nat) (T : TypeId) (g : Nat) (w : World) (p : List UInt8 × Scn) (e : Ending) (w' : World) : Prop := ∃ v, e = .returned v ∧ IsVals w' v (p.1.map VB) ∧ Rd Lm T w' g p.2 ∧ Exc g w w'
/-- .. in new memory -/
def RawPost (Lm : Nat) (T : TypeId) (g : Nat) (w : World) (p : List UInt8 × Scn) (e : Ending) (w' : World) : Prop := ∃ v, e = .returned v ∧ OwnB w' w.heap.size v p.1 ∧ Rd Lm T w' g p.2 ∧ Exc g w w'
theorem RawPost.take {T : TypeId} {g : Nat} {w : World} {p : List UInt8 × Scn} (e : Ending) (w' : World) (h : RawPost Lm T g w p e w') : TakePost Lm T g w p e w' := by
  obtain ⟨v, h1, h2, h3⟩ := h
  exact ⟨v, h1, h2.vals, h3⟩
theorem Exc.size {g : Nat} {w w' : World} (h : Exc g w w') : w.heap.size ≤ w'.heap.size := by have h2 : w.grownBy w' (some g) := h; exact h2.size
theorem Exc.own {g b : Nat} {w w' : World} {v : Value} {l : List UInt8} (h : Exc g w w') (ho : OwnB w b v l) (hg : g < b) : OwnB w' b v l := by
  have h2 : w.grownBy w' (some g) := h
  refine World.ownsRow.kept ho h2 (.inr fun e => ?_)
  have := (ho.lt g e).1
  omega
/-- an answer of a number, and what became of the reader -/
def PNumPost (Lm : Nat) (T : TypeId) (g : Nat) (w : World) (p : Nat × Scn) (e : Ending) (w' : World) : Prop := e = .returned (.int .u64 (p.1 : Int)) ∧ Rd Lm T w' g p.2 ∧ Exc g w w'
end Go.Proofs.Ytdeggdmoijfhdaa

/-
  Layer 6: a range over a slice's bytes, the last first, and the walk of the Reader's Fixed.
-/
namespace Go.Proofs.Ytdeggdmoijfhdaa
open Go Go.RowKit Go.Shelf
variable {Lm : Nat}

attribute [local go_sem] Oper.semAt_some

/-- of what lay below N all is as it was, but for the block B -/
structure Kx (N B : Nat) (w w' : World) : Prop where
  os : w'.os = w.os
  tape : w'.tape = w.tape
  output : w'.output = w.output
  size : w.heap.size ≤ w'.heap.size
  block : ∀ k, k < N → k ≠ B → w'.heap[k]? = w.heap[k]?
theorem Kx.refl (N B : Nat) (w : World) : Kx N B w w := ⟨rfl, rfl, rfl, Nat.le_refl _, fun _ _ _ => rfl⟩
theorem Kx.trans {N B : Nat} {a b c : World} (h : Kx N B a b) (k : Kx N B b c) : Kx N B a c :=
  ⟨k.os.trans h.os, k.tape.trans h.tape, k.output.trans h.output, Nat.le_trans h.size k.size, fun i hi hne => (k.block i hi hne).trans (h.block i hi hne)⟩
theorem Kx.cell {N B : Nat} {w w' : World} (h : Kx N B w w') {a : Addr} (ha : a.block < N) (hne : a.block ≠ B) : w'.cell? a = w.cell? a := World.cell?_of_block (h.block _ ha hne)
theorem Kx.grown {N B : Nat} {w a b : World} {row : Option Nat} (h : Kx N B w a) (hN : N ≤ a.heap.size) (hg : a.grownBy b row) (hr : ∀ r, row = some r → N ≤ r) : Kx N B w b :=
  h.trans ⟨hg.os, hg.tape, hg.output, hg.size, fun k hk _ => hg.block k (by omega) fun e => by have := hr k e.symm; omega⟩
theorem Kx.set (N B : Nat) (w : World) (v : Value) : Kx N B w (w.setCell ⟨B, 0, none⟩ v) :=
  ⟨rfl, rfl, rfl, by simp, fun k _ hne => heap_setCell_other _ _ _ _ hne⟩
theorem kx_own {β : Type} {N B : Nat} {w : World} (hN : N ≤ w.heap.size) : OwnFrom N (fun (_ : β) W => Kx N B w W) :=
  fun _ _ _ _ hs hg hr => hs.grown (Nat.le_trans hN hs.size) hg fun r e => (hr r e).1
theorem boxed_ownP {β : Type} {N B : Nat} {t : TypeId} {f : β → Value} (hB : B < N) : OwnFrom N (fun (s : β) W => Boxed W B t (f s)) :=
  fun s _ _ _ hs hg hr => hs.kept hg fun e => by have := (hr B e.symm).1; omega

/-- what has come when k rounds are over -/
def backTo6 (l : List UInt8) (k : Nat) : List (Nat × UInt8) := (List.range k).map fun t => (l.length - 1 - t, l[l.length - 1 - t]?.getD 0)
theorem backTo6_succ (l : List UInt8) (k : Nat) : backTo6 l (k + 1) = backTo6 l k ++ [(l.length - 1 - k, l[l.length - 1 - k]?.getD 0)] := by simp [backTo6, List.range_succ]
theorem backTo6_len (l : List UInt8) (k : Nat) : (backTo6 l k).length = k := by simp [backTo6]
/-- the number that is gathered -/
def gath (xs : List (Nat × UInt8)) : Nat := xs.foldl (fun n x => n * 256 % 18446744073709551616 + x.2.toNat) 0
theorem gath_snoc (xs : List (Nat × UInt8)) (x : Nat × UInt8) : gath (xs ++ [x]) = gath xs * 256 % 18446744073709551616 + x.2.toNat := by simp [gath]
theorem numL_drop (l : List UInt8) (j : Nat) (hj : j < l.length) : numL (l.drop j) = l[j].toNat + 256 * numL (l.drop (j + 1)) := by
  rw [List.drop_eq_getElem_cons hj]; rfl
theorem gath_back (l : List UInt8) (hl : l.length ≤ 8) : ∀ k, k ≤ l.length → gath (backTo6 l k) = numL (l.drop (l.length - k))
  | 0, _ => by simp [backTo6, gath, numL]
  | k + 1, hk => by
    have ih := gath_back l hl k (by omega)
    have hj : l.length - 1 - k < l.length := by omega
    have e1 : l.length - (k + 1) = l.length - 1 - k := by omega
    have e2 : l.length - 1 - k + 1 = l.length - k := by omega
    have hlt : numL (l.drop (l.length - k)) < 72057594037927936 := by
      have h1 := numL_lt (l.drop (l.length - k))
      have h2 : 256 ^ (l.drop (l.length - k)).length ≤ 256 ^ 7 := Nat.pow_le_pow_right (by decide) (by rw [List.length_drop]; omega)
      have e7 : (256 : Nat) ^ 7 = 72057594037927936 := by decide
      omega
    rw [backTo6_succ, gath_snoc, ih, e1, numL_drop l _ hj, e2, List.getElem?_eq_getElem hj, Option.getD_some]
    dsimp only
    omega
theorem gath_all (l : List UInt8) (hl : l.length ≤ 8) : gath (backTo6 l l.length) = numL l := by
  rw [gath_back l hl _ (Nat.le_refl _), Nat.sub_self, List.drop_zero]
/-- bytes that are there lie in a row -/
theorem vals_atP {w : World} {l : List UInt8} {ao : Option Addr} {n c : Nat} (h : IsVals w (.slice ao n c) (l.map VB)) (hl : l ≠ []) : ∃ b off, ao = some ⟨b, off, none⟩ ∧ ∀ j, j < l.length → w.cell? ⟨b, off + j, none⟩ = some (VB (l[j]?.getD 0)) := by
  obtain ⟨ao', c', e, _, _, hj⟩ := h
  simp only [Value.slice.injEq] at e
  obtain ⟨rfl, rfl, rfl⟩ := e
  have hget : ∀ j, j < l.length → (l.map VB)[j]? = some (VB (l[j]?.getD 0)) := fun j hj => by
    rw [List.getElem?_map, List.getElem?_eq_getElem hj]; rfl
  obtain ⟨a, rfl, h0⟩ := hj 0 _ (hget 0 (List.length_pos_iff.2 hl))
  obtain ⟨b, off, spot⟩ := a
  cases spot with
  | some p =>
    exfalso
    unfold Addr.add at h0
    rw [if_pos rfl] at h0
    unfold World.cell? at h0
    split at h0 <;> simp at h0
  | none =>
    refine ⟨b, off, rfl, fun j hjl => ?_⟩
    obtain ⟨a', e, hc⟩ := hj j _ (hget j hjl)
    cases e
    rw [add_none] at hc; exact hc

/-- a digit more: what was shifted has room for it -/
theorem or_digit (n : Nat) (c : UInt8) : bits .or .u64 ((n * 256 % 18446744073709551616 : Nat) : Int) ((c.toNat : Nat) : Int) = ((n * 256 % 18446744073709551616 + c.toNat : Nat) : Int) := by
  have hc := c.toNat_lt
  have e : n * 256 % 18446744073709551616 = 2 ^ 8 * (n % 72057594037927936) := by omega
  rw [u64_or_nat _ _ (by omega) (by omega), e, Nat.two_pow_add_eq_or_of_lt (by omega)]
theorem or_digit2 (n : Nat) (c : UInt8) : bits .or .u64 ((n : Int) * 256 % 18446744073709551616) (B c) = ((n * 256 % 18446744073709551616 + c.toNat : Nat) : Int) := by
  rw [← or_digit]; unfold B; congr 1
theorem or_digit3 (n : Nat) (c : UInt8) : bits .or .u64 (IntKind.u64.wrap ((n : Int) * 256)) (IntKind.u64.wrap (B c)) = ((n * 256 % 18446744073709551616 + c.toNat : Nat) : Int) := by
  have hc := c.toNat_lt
  rw [← or_digit2, IntKind.wrap_u64, IntKind.wrap_u64, show B c % 18446744073709551616 = B c by unfold B; omega]
theorem boxed_noByte {w : World} {B off j : Nat} {t : TypeId} {m : Int} {c : UInt8} (h : Boxed w B t (.int .u64 m)) (hc : w.cell? ⟨B, off + j, none⟩ = some (VB c)) : False := by
  have h' : w.heap[B]? = some (.cells #[.int .u64 m] t (0, 0)) := h
  unfold World.cell? at hc
  rw [h'] at hc
  rcases ho : off + j with _ | n
  · rw [ho] at hc; simp at hc
  · rw [ho] at hc; simp at hc
theorem boxed_noByte2 {w : World} {B : Nat} {t : TypeId} {m : Int} {c : UInt8} {a : Addr} (h : Boxed w B t (.int .u64 m)) (hc : w.cell? a = some (VB c)) : a.block ≠ B := by
  rintro rfl
  obtain ⟨b, off, spot⟩ := a
  cases spot with
  | none => exact boxed_noByte (off := off) (j := 0) h hc
  | some q => unfold World.cell? at hc; split at hc <;> simp at hc
theorem rd_kx {T : TypeId} {w w' : World} {g B : Nat} {t : TypeId} {m : Int} {s : Scn} (hb : Boxed w B t (.int .u64 m)) (hk : Kx w.heap.size B w w') (hg : g ≠ B) (h : Rd Lm T w g s) : Rd Lm T w' g s := by
  obtain ⟨v, hr, ⟨ao, c, rfl, h1, h2, h3⟩, h4⟩ := h
  refine ⟨_, (hk.block g hr.lt hg).trans hr, ⟨ao, c, rfl, h1, h2, fun j u hu => ?_⟩, h4⟩
  obtain ⟨a, rfl, hc⟩ := h3 j u hu
  obtain ⟨x, -, rfl⟩ : ∃ x, x ∈ s.rest ∧ VB x = u := by simpa using List.mem_of_getElem? hu
  exact ⟨a, rfl, (hk.cell (block_lt_of_cell hc) (boxed_noByte2 hb hc)).trans hc⟩
end Go.Proofs.Ytdeggdmoijfhdaa
