/-
  Joined: PcBase, PcWrite, PcText, PcRef, PcRead, PcIter.
-/
import Derived.Test.YtmfjgehlkbndjaaGreatDoorBytesKit
import Derived.Test.YtmfjgehlkbndjaaGreatDoorPcPlain
import Derived.RangeFuncBox
import Derived.RangeFuncLeaves
import Derived.Shelf.Abstract
import Derived.WalkKit
import Derived.OwnWalkIn
import Derived.TacticsInMore
import Derived.LoopNIn
import Derived.LoopIn
/-
  Layer 6: what its walks ask besides: bytes appended into new memory, readers in memory, and what a call leaves alone.
-/
namespace Go.Proofs.YtmfjgehlkbndjaaGreatDoor
open Go Go.RowKit

theorem info_b8P : (Tryz.prog.info? 5).map (·.size) = some 1 := by kernel_rfl
/-- an answer of bytes in new memory -/
def POwnPost (w : World) (l : List UInt8) (e : Ending) (w' : World) : Prop := ∃ v, e = .returned v ∧ OwnB w' w.heap.size v l ∧ Below w.heap.size w w'
theorem OwnB.below {w w' : World} {b : Nat} {v : Value} {l : List UInt8} (h : OwnB w b v l) (hb : Below w.heap.size w w') : OwnB w' b v l := ownsRow_below h hb
theorem ownB_nil (w : World) (b : Nat) : OwnB w b (.slice none 0 0) [] := World.ownsRow_nil w b _ _
/-- a slice whose room is its length -/
def fullV : Value → Value
  | .slice ao n _ => .slice ao n n
  | v => v
theorem vals_none {w : World} {l : List UInt8} {n c : Nat} (h : IsVals w (.slice none n c) (l.map VB)) : l = [] ∧ n = 0 ∧ c = 0 := by
  obtain ⟨ao, c', e, h1, h2, h3⟩ := h
  simp only [Value.slice.injEq] at e
  obtain ⟨rfl, rfl, rfl⟩ := e
  cases l with
  | nil => exact ⟨rfl, rfl, h2 rfl⟩
  | cons x l => obtain ⟨a, ha, _⟩ := h3 0 _ rfl; cases ha
/-- a slice that lies in a block below this one -/
def Lim (Lm : Nat) (v : Value) : Prop := ∀ b, v.ownBlock = some b → b < Lm
theorem Lim.from {Lm : Nat} {v : Value} (h : Lim Lm v) (n : Nat) : Lim Lm (fromV v n) := by
  intro b hb
  refine h b ?_
  cases v with
  | slice ao k c =>
    cases ao with
    | none => simp [fromV, Value.ownBlock] at hb
    | some a =>
      have e : (a.add n).block = a.block := by unfold Addr.add; split <;> rfl
      simp only [fromV] at hb
      split at hb
      · exact hb
      · simp only [Option.map_some, Value.ownBlock, Option.some.injEq] at hb ⊢; rw [← hb, e]
  | _ => first | exact hb | (simp [fromV, Value.ownBlock] at hb)
theorem Lim.mono {Lm Lm' : Nat} {v : Value} (h : Lim Lm v) (hl : Lm ≤ Lm') : Lim Lm' v := fun b hb => Nat.lt_of_lt_of_le (h b hb) hl
/-- .. if there is anything in it -/
def LimR (Lm : Nat) (v : Value) (l : List UInt8) : Prop := l ≠ [] → Lim Lm v
theorem LimR.from {Lm : Nat} {v : Value} {l : List UInt8} (h : LimR Lm v l) (n : Nat) : LimR Lm (fromV v n) (l.drop n) := fun hn => (h fun e => hn (by rw [e]; simp)).from n
theorem LimR.mono {Lm Lm' : Nat} {v : Value} {l : List UInt8} (h : LimR Lm v l) (hl : Lm ≤ Lm') : LimR Lm' v l := fun hn => (h hn).mono hl
theorem limR_vals {w : World} {v : Value} {l : List UInt8} (h : IsVals w v (l.map VB)) : LimR w.heap.size v l := by
  intro hn b hb
  obtain ⟨ao, c, rfl, -, -, hj⟩ := h
  cases l with
  | nil => exact absurd rfl hn
  | cons x l =>
    obtain ⟨a, rfl, hc⟩ := hj 0 _ rfl
    have := block_lt_of_cell hc
    have e : (a.add 0).block = a.block := by unfold Addr.add; split <;> rfl
    simp only [Value.ownBlock, Option.some.injEq] at hb
    rw [← hb, ← e]; exact this
theorem lim_own {w : World} {base : Nat} {v : Value} {l : List UInt8} (h : OwnB w base v l) : Lim w.heap.size v := fun b hb => (h.lt b hb).2
/-- a reader's row: what is left, and the error -/
def Rd (Lm : Nat) (T : TypeId) (w : World) (g : Nat) (s : Scn) : Prop := ∃ v, Row w g T #[v, .int .i64 (s.err : Int)] ∧ IsVals w v (s.rest.map VB) ∧ LimR Lm v s.rest
/-- all that was there is as it was, but for one block -/
abbrev Exc (g : Nat) (w w' : World) : Prop := w.grownBy w' (some g)
theorem exc_refl (g : Nat) (w : World) : Exc g w w := ⟨rfl, rfl, rfl, Nat.le_refl _, fun _ _ _ => rfl⟩
theorem Exc.trans {g : Nat} {a b c : World} (h : Exc g a b) (k : Exc g b c) : Exc g a c :=
  ⟨k.os.trans h.os, k.tape.trans h.tape, k.output.trans h.output, Nat.le_trans h.size k.size, fun i hi hne => (k.block i (Nat.lt_of_lt_of_le hi h.size) hne).trans (h.block i hi hne)⟩
theorem exc_below {w w' : World} (g : Nat) (h : Below w.heap.size w w') : Exc g w w' := ⟨h.os, h.tape, h.output, h.size, fun k hk _ => h.block k hk⟩
theorem exc_wrote {g : Nat} {w w' : World} (h : Wrote g w w') : Exc g w w' := ⟨h.os, h.tape, h.output, Nat.le_of_eq h.size.symm, fun k _ hne => h.other k fun e => hne (by rw [e])⟩
theorem Exc.below {g B : Nat} {w w' : World} (h : Exc g w w') (hB : B ≤ g) (hs : B ≤ w.heap.size) : Below B w w' :=
  ⟨h.os, h.tape, h.output, h.size, fun k hk => h.block k (by omega) (fun e => by cases e; omega)⟩
theorem Exc.row {g k : Nat} {w w' : World} {T : TypeId} {cs : Array Value} (h : Exc g w w') (hr : Row w k T cs) (hk : k ≠ g) : Row w' k T cs :=
  (h.block k hr.lt fun e => hk (by cases e; rfl)).trans hr
theorem rd_noByte {Lm : Nat} {T : TypeId} {w : World} {g : Nat} {s : Scn} (h : Rd Lm T w g s) {a : Addr} {c : UInt8} (hc : w.cell? a = some (VB c)) : a.block ≠ g := by
  rintro rfl
  obtain ⟨v, hr, ⟨ao, cp, rfl, _⟩, _⟩ := h
  have hr' : w.heap[a.block]? = some (.cells #[.slice ao (s.rest.map VB).length cp, .int .i64 (s.err : Int)] T (0, 0)) := hr
  unfold World.cell? at hc
  rw [hr'] at hc
  simp only at hc
  split at hc
  · cases hc
  · rcases ho : a.off with _ | _ | n
    · rw [ho] at hc; simp at hc
    · rw [ho] at hc; simp at hc
    · rw [ho] at hc; simp at hc
theorem Exc.vals {Lm : Nat} {T : TypeId} {w w' : World} {g : Nat} {s : Scn} {v : Value} {l : List UInt8} (h : Exc g w w') (hr : Rd Lm T w g s) (hv : IsVals w v (l.map VB)) : IsVals w' v (l.map VB) := by
  obtain ⟨ao, c, rfl, hc, hn, hj⟩ := hv
  refine ⟨ao, c, rfl, hc, hn, fun j u hu => ?_⟩
  obtain ⟨a, rfl, hcell⟩ := hj j u hu
  obtain ⟨x, -, rfl⟩ : ∃ x, x ∈ l ∧ VB x = u := by
    have := List.mem_of_getElem? hu
    simpa using this
  exact ⟨a, rfl, h.cell hcell fun e => rd_noByte hr hcell (by cases e; rfl)⟩
theorem Rd.lt {Lm : Nat} {T : TypeId} {w : World} {g : Nat} {s : Scn} (h : Rd Lm T w g s) : g < w.heap.size := by obtain ⟨v, h1, _⟩ := h; exact h1.lt
theorem Rd.below {Lm : Nat} {T : TypeId} {w w' : World} {g : Nat} {s : Scn} (h : Rd Lm T w g s) (hb : Below w.heap.size w w') : Rd Lm T w' g s := by
  obtain ⟨v, h1, h2, h3⟩ := h
  exact ⟨v, h1.below hb h1.lt, h2.below hb, h3⟩
theorem Rd.mono {Lm Lm' : Nat} {T : TypeId} {w : World} {g : Nat} {s : Scn} (h : Rd Lm T w g s) (hl : Lm ≤ Lm') : Rd Lm' T w g s := by
  obtain ⟨v, h1, h2, h3⟩ := h
  exact ⟨v, h1, h2, h3.mono hl⟩
/-- a reader, over what is written beside it -/
theorem Rd.wrote {Lm : Nat} {T : TypeId} {w w' : World} {g B : Nat} {s : Scn} (h : Rd Lm T w g s) (hW : Wrote B w w') (hB : Lm ≤ B) (hg : g ≠ B) : Rd Lm T w' g s := by
  obtain ⟨v, h1, h2, h3⟩ := h
  exact ⟨v, hW.row h1 hg, h2.wrote hW (fun j u hu a ha => by have := h3 (fun e => by rw [e] at hu; simp at hu) a ha; omega), h3⟩
theorem exc_new {g B : Nat} {w w1 w2 : World} (h : Exc g w w1) (hW : Wrote B w1 w2) (hB : w.heap.size ≤ B) : Exc g w w2 :=
  ⟨hW.os.trans h.os, hW.tape.trans h.tape, hW.output.trans h.output, by rw [hW.size]; exact h.size, fun i hi hne => (hW.other i (by omega)).trans (h.block i hi hne)⟩
section
variable {ops : Array Oper} {Q : Exit → Act → World → Prop} {rest : List Oper} {o : Oper} {a : Act} {w : World}
theorem kSliceFull (x y z : Operand) (ho : o.op = .slice 38 x none (some y) (some z)) (hg : Region.wanted o (yielded ops a.tmps) = true) (v : Value) (l : List UInt8) (hv : IsVals w v (l.map VB)) (hx : a.eval x = v) (hy : a.eval y = .int .i64 (l.length : Int)) (hz : a.eval z = .int .i64 (l.length : Int))
    (h : wpList Tryz.prog ops Q rest (a.put o.dst (fullV v)) w) : wpList Tryz.prog ops Q (o :: rest) a w := by
  refine kPure _ hg ?_ h
  obtain ⟨ao, c, rfl, hc, hn, hj⟩ := hv
  have hs := info_b8P
  cases hq : Tryz.prog.info? 5 with
  | none => simp [hq] at hs
  | some t =>
    have hc' : l.length ≤ c := by simpa using hc
    have hb : ∀ (y : Nat) code, l.length ≤ y → (Instr.sliceBound (.int .i64 (l.length : Int)) y code).run Tryz.prog w = .ok l.length w := fun y code hy => by
      have := run_sliceBound (P := Tryz.prog) (w := w) .i64 (l.length : Int) y code (by omega) (by omega)
      simpa using this
    have hrun : (Instr.sliceAt 38 (.slice ao (l.map VB).length c) none (some (.int .i64 (l.length : Int))) (some (.int .i64 (l.length : Int)))).run Tryz.prog w = .ok (fullV (.slice ao (l.map VB).length c)) w := by
      simp [Instr.sliceAt, run_underlying Tryz.underlying38, Instr.slice, Instr.sliceBounds, hb _ _ hc', hb _ _ (Nat.le_refl _), sizeOf, typeInfo, hq, fullV]
      cases ao <;> simp [Addr.add]
    unfold execOp
    simp only [ho, hx, hy, hz, Option.map_some, Option.map_none, Sem.run_bind, hrun, Result.andThen_ok, Sem.run_pure]
/-- append to bytes of one's own -/
theorem kAppB (s x : Operand) (ho : o.op = .call { callee := .builtin .append, args := #[s, x], argTypes := #[38, 38] }) (hg : o.guard = none) (base : Nat) (v y : Value) (xs news : List UInt8) (hown : OwnB w base v xs) (hy : IsVals w y (news.map VB)) (hs : a.eval s = v) (hx : a.eval x = y)
    (hlen : xs.length + news.length ≤ 1000000000) (hbase : base ≤ w.heap.size)
    (h : ∀ v' w', OwnB w' base v' (xs ++ news) → Below base w w' → wpList Tryz.prog ops Q rest (a.put o.dst v') w') : wpList Tryz.prog ops Q (o :: rest) a w := by
  obtain ⟨i, hi, hz, hsize, hby⟩ := b8Info
  refine kAppend s x _ _ ho hg base i _ Tryz.underlying38 hi hz hsize rfl v y (xs.map VB) (news.map VB) hs hown hx hy (vbs_one _) (by simp [maxLen]; omega) (by rw [hby]; simp; omega) hbase fun v' w' h1 h2 => ?_
  rw [← List.map_append] at h1
  exact h v' w' h1 (below_grown hown h2 hbase)
/-- append to a slice without spare room: new memory -/
theorem kAppNew (s x : Operand) (ho : o.op = .call { callee := .builtin .append, args := #[s, x], argTypes := #[38, 38] }) (hg : o.guard = none) (v y : Value) (olds news : List UInt8) (hv : IsVals w v (olds.map VB)) (hy : IsVals w y (news.map VB)) (hs : a.eval s = fullV v) (hx : a.eval x = y) (hnn : news ≠ [])
    (hlen : olds.length + news.length ≤ 1000000000)
    (h : ∀ v' w', OwnB w' w.heap.size v' (olds ++ news) → Below w.heap.size w w' → wpList Tryz.prog ops Q rest (a.put o.dst v') w') : wpList Tryz.prog ops Q (o :: rest) a w := by
  have hv' := hv
  obtain ⟨ao, c, rfl, hc, hn, hj⟩ := hv'
  cases ao with
  | none =>
    obtain ⟨rfl, h1, rfl⟩ := vals_none hv
    refine kAppB s x ho hg w.heap.size (.slice none 0 0) y [] news (ownB_nil _ _) hy hs hx (by simpa using hlen) (Nat.le_refl _) h
  | some ad =>
    obtain ⟨i, hi, hz, hsize, hby⟩ := b8Info
    have hy' := hy
    obtain ⟨bo, cp, rfl, hcp, hnp, hjp⟩ := hy'
    cases bo with
    | none => exact absurd (vals_none hy).1 hnn
    | some bd =>
      have hpos : 0 < news.length := List.length_pos_iff.2 hnn
      have holds : ∀ j u, (olds.map VB)[j]? = some u → w.cell? (ad.add j) = some u := fun j u hu => by
        obtain ⟨a', ha, hcell⟩ := hj j u hu; cases ha; exact hcell
      have hnews : ∀ j u, (news.map VB)[j]? = some u → w.cell? (bd.add j) = some u := fun j u hu => by
        obtain ⟨a', ha, hcell⟩ := hjp j u hu; cases ha; exact hcell
      have hml : (news.map VB).length = news.length := by simp
      have hol : (olds.map VB).length = olds.length := by simp
      have hr := run_append_grow (P := Tryz.prog) w 38 o.type 5 i _ Tryz.underlying38 hi hz ad (olds.map VB).length (olds.map VB).length (olds.map VB) (by rw [hsize]; omega) holds bd (news.map VB).length cp (news.map VB) (by rw [hsize]; omega) hnews (by omega) (by omega) (growslice_fits (by omega) (by rw [hby]; omega))
      refine BigFrame.wpList_want (by unfold Region.wanted; rw [hg]) fun K hK => ?_
      unfold Oper.wp execOp
      simp only [ho, resolve, invoke, builtin, Sem.run_bind, Sem.run_pure, Result.andThen_ok, List.map_toArray, List.map_cons, List.map_nil, hs, hx, fullV, hr]
      have hB : Below w.heap.size w (w.drew.alloc (.cells ((olds.map VB).toArray ++ (news.map VB).toArray ++ Builtin.zeroCells (Value.int .u8 0).cells (grownCap w ((olds.map VB).length + (news.map VB).length) (olds.map VB).length 5 - ((olds.map VB).length + (news.map VB).length))) 5)) := by
        have hb := fun o => (Below.refl w.drew.heap.size w.drew).alloc (Nat.le_refl _) o
        exact ⟨(hb _).os, (hb _).tape, (hb _).output, (hb _).size, (hb _).block⟩
      refine hK _ _ (h _ _ ⟨by simp, .inr ⟨w.heap.size, grownCap w ((olds.map VB).length + (news.map VB).length) (olds.map VB).length 5, _, ?_, Nat.le_refl _, heap_alloc_new w.drew _, ?_, grownCap_le_maxLen _ _ _ _ (by unfold maxLen; omega), ?_, ?_⟩⟩ hB)
      · simp
      · have := grownCap_ge w ((olds.map VB).length + (news.map VB).length) (olds.map VB).length 5
        simpa using this
      · have := grownCap_ge w ((olds.map VB).length + (news.map VB).length) (olds.map VB).length 5
        rw [Array.size_append, size_zeroCells]
        simp [Value.cells] at this ⊢
        omega
      · rw [Array.toList_append, Array.toList_append, List.take_append_of_le_length (by simp)]
        rw [List.take_of_length_le (by simp), List.map_append]
theorem kSliceTo (x y : Operand) (v : Value) (l : List UInt8) (n : Nat) (hv : IsVals w v (l.map VB)) (hn : n ≤ l.length) (ho : o.op = .slice 38 x none (some y) none) (hg : Region.wanted o (yielded ops a.tmps) = true) (hx : a.eval x = v) (hy : a.eval y = .int .i64 (n : Int))
    (h : IsVals w (toV v n) ((l.take n).map VB) → wpList Tryz.prog ops Q rest (a.put o.dst (toV v n)) w) : wpList Tryz.prog ops Q (o :: rest) a w := by
  have hv2 := isVals_to (n := n) hv (by simpa using hn)
  rw [← List.map_take] at hv2
  refine kPure _ hg ?_ (h hv2)
  unfold execOp
  simp only [ho, hx, hy, Option.map_some, Option.map_none, Sem.run_bind, run_sliceToV (n := n) Tryz.underlying38 info_b8P hv rfl (by simpa using hn), Result.andThen_ok, Sem.run_pure]
theorem kSliceFromB (x y : Operand) (v : Value) (l : List UInt8) (n : Nat) (hv : IsVals w v (l.map VB)) (hn : n ≤ l.length) (ho : o.op = .slice 38 x (some y) none none) (hg : Region.wanted o (yielded ops a.tmps) = true) (hx : a.eval x = v) (hy : a.eval y = .int .i64 (n : Int))
    (h : IsVals w (fromV v n) ((l.drop n).map VB) → wpList Tryz.prog ops Q rest (a.put o.dst (fromV v n)) w) : wpList Tryz.prog ops Q (o :: rest) a w := by
  have hv2 := isVals_from (n := n) hv (by simpa using hn)
  rw [← List.map_drop] at hv2
  refine kPure _ hg ?_ (h hv2)
  unfold execOp
  simp only [ho, hx, hy, Option.map_some, Option.map_none, Sem.run_bind, run_sliceFromV (n := n) Tryz.underlying38 info_b8P hv rfl (by simpa using hn), Result.andThen_ok, Sem.run_pure]
theorem kSliceLH (x y z : Operand) (v : Value) (l : List UInt8) (p q : Nat) (hv : IsVals w v (l.map VB)) (hp : p ≤ q) (hq : q ≤ l.length) (ho : o.op = .slice 38 x (some y) (some z) none) (hg : Region.wanted o (yielded ops a.tmps) = true) (hx : a.eval x = v) (hy : a.eval y = .int .i64 (p : Int)) (hz : a.eval z = .int .i64 (q : Int))
    (h : ∀ u, IsVals w u (((l.take q).drop p).map VB) → wpList Tryz.prog ops Q rest (a.put o.dst u) w) : wpList Tryz.prog ops Q (o :: rest) a w := by
  have hv2 := isVals_to (n := q) hv (by simpa using hq)
  rw [← List.map_take] at hv2
  have hv3 := isVals_from (n := p) hv2 (by simp; omega)
  rw [← List.map_drop] at hv3
  refine kPure _ hg ?_ (h _ hv3)
  obtain ⟨ao, c, rfl, hc, hn, hj⟩ := hv
  have hc' : l.length ≤ c := by simpa using hc
  have hs := info_b8P
  cases hi : Tryz.prog.info? 5 with
  | none => simp [hi] at hs
  | some t =>
    have hs' : t.size = 1 := by simpa [hi] using hs
    have hbd : ∀ (k m : Nat) code, k ≤ m → (Instr.sliceBound (.int .i64 (k : Int)) m code).run Tryz.prog w = .ok k w := fun k m code hkm => by
      have := run_sliceBound (P := Tryz.prog) (w := w) .i64 (k : Int) m code (by omega) (by omega)
      simpa using this
    have hrun : (Instr.sliceAt 38 (.slice ao (l.map VB).length c) (some (.int .i64 (p : Int))) (some (.int .i64 (q : Int))) none).run Tryz.prog w = .ok (fromV (toV (.slice ao (l.map VB).length c) q) p) w := by
      simp [Instr.sliceAt, run_underlying Tryz.underlying38, Instr.slice, Instr.sliceBounds, hbd q c _ (by omega), hbd p q _ hp, sizeOf, typeInfo, hi, hs', fromV, toV]
    unfold execOp
    simp only [ho, hx, hy, hz, Option.map_some, Option.map_none, Sem.run_bind, hrun, Result.andThen_ok, Sem.run_pure]
end
end Go.Proofs.YtmfjgehlkbndjaaGreatDoor

/-
  Layer 6: the walks of what writes: numbers and texts behind bytes, in new memory.
-/
namespace Go.Proofs.YtmfjgehlkbndjaaGreatDoor
open Go Go.RowKit

theorem vals_slice {w : World} {v : Value} {l : List UInt8} (h : IsVals w v (l.map VB)) : ∃ ao c, v = .slice ao l.length c := by
  obtain ⟨ao, c, rfl, _⟩ := h; exact ⟨ao, c, by simp⟩
set_option maxRecDepth 100000 in
set_option maxHeartbeats 8000000 in
theorem bClone_any {l : List UInt8} {v : Value} (w : World) (hv : IsVals w v (l.map VB)) (hl : l.length ≤ 1000000) : Calls Tryz.prog 54 #[v] w (POwnPost w l) := by
  obtain ⟨i, hi, hz, hs1, hby⟩ := b8Info
  obtain ⟨ao, c, rfl⟩ := vals_slice hv
  cases ao with
  | none =>
    obtain ⟨rfl, h1, rfl⟩ := vals_none hv
    go_enter Tryz.func54, Tryz.ntmps54
    go_wp2_with (first
      | ((with_reducible change wpList _ _ _ (Oper.mk (some 4) _ _ _ _ _ :: _) _ _); refine kEqlNilS _ _ _ _ _ none _ _ true rfl Tryz.underlying38 rfl rfl rfl rfl ?_; go_frame))
    go_ret
    exact ⟨_, rfl, ownB_nil _ _, Below.refl _ _⟩
  | some ad =>
    generalize hq : l.length = q at hv ⊢
    go_enter Tryz.func54, Tryz.ntmps54
    go_wp2_with (first
      | ((with_reducible change wpList _ _ _ (Oper.mk (some 4) _ _ _ _ _ :: _) _ _); refine kEqlNilS _ _ _ _ _ (some ad) _ _ false rfl Tryz.underlying38 rfl rfl rfl rfl ?_; go_frame)
      | ((with_reducible change wpList _ _ _ (Oper.mk (some 5) _ _ _ _ _ :: _) _ _); refine kBuildSlice0 _ _ rfl rfl Tryz.underlying38 i hi ?_; intro w1 hR1 hz1 hB1; clear hz1; have hO1 : OwnB w1 w.heap.size _ [] := own_empty (Nat.le_refl _) hR1; clear hR1; have hv1 := hv.below hB1; have hsz1 := hB1.size; clear hv; go_frame)
      | ((with_reducible change wpList _ _ _ (Oper.mk (some 7) _ _ _ _ _ :: _) _ _); refine kAppB _ _ rfl rfl w.heap.size _ _ [] l hO1 hv1 rfl rfl (by simp; omega) hsz1 ?_; intro v2 w2 hO2 hB2; rw [List.nil_append] at hO2; have hB := hB1.trans hB2; clear hO1 hv1 hsz1 hB1 hB2; go_frame))
    go_ret
    exact ⟨_, rfl, hO2, hB⟩
set_option maxRecDepth 100000 in
set_option maxHeartbeats 8000000 in
theorem pcWithin_any (z : Int) (w : World) : Calls Tryz.prog 91 #[.int .i64 z] w fun e w' => e = .returned (.int .i64 (clampS z : Int)) ∧ w' = w := by
  obtain ⟨y, hy⟩ : ∃ y, (if (0 : Int) > z then 0 else z) = y := ⟨_, rfl⟩
  have e : (if (8 : Int) < y then (8 : Int) else y) = (clampS z : Int) := by unfold clampS; omega
  go_enter Tryz.func91, Tryz.ntmps91
  go_wp2_with (first
    | ((with_reducible change wpList _ _ _ (Oper.mk (some 4) _ _ _ _ _ :: _) _ _); refine kMaxZ _ _ z 0 y hy rfl rfl rfl rfl ?_; go_frame)
    | ((with_reducible change wpList _ _ _ (Oper.mk (some 5) _ _ _ _ _ :: _) _ _); refine kMinZ _ _ y 8 _ e rfl rfl rfl rfl ?_; go_frame))
  go_ret
  exact ⟨rfl, rfl⟩
theorem byte_cases (c : UInt8) : c.toNat ≤ 252 ∨ c = 253 ∨ c = 254 ∨ c = 255 := by
  have h := c.toNat_lt
  by_cases h1 : c.toNat ≤ 252
  · exact .inl h1
  · rcases (show c.toNat = 253 ∨ c.toNat = 254 ∨ c.toNat = 255 by omega) with e | e | e
    · exact .inr (.inl (UInt8.toNat_inj.1 e))
    · exact .inr (.inr (.inl (UInt8.toNat_inj.1 e)))
    · exact .inr (.inr (.inr (UInt8.toNat_inj.1 e)))
theorem fSize_low {c : UInt8} (h : c.toNat ≤ 252) : fSize c = 0 := by unfold fSize; rw [if_pos h]
set_option maxRecDepth 100000 in
set_option maxHeartbeats 8000000 in
theorem pcSizeBehind_any (c : UInt8) (w : World) : Calls Tryz.prog 107 #[VB c] w fun e w' => e = .returned (.int .i64 (fSize c : Int)) ∧ w' = w := by
  rcases byte_cases c with h | rfl | rfl | rfl
  · rw [fSize_low h]
    have hb : decide (B c < 253) = true := by unfold B; simp; omega
    go_enter Tryz.func107, Tryz.ntmps107
    go_wp2_with (first
      | ((with_reducible change wpList _ _ _ (Oper.mk (some 4) _ _ _ _ _ :: _) _ _); refine kLssI _ _ _ _ .u8 (B c) 253 true rfl rfl rfl rfl hb ?_; go_frame))
    go_ret
    exact ⟨rfl, rfl⟩
  · change Calls Tryz.prog 107 #[.int .u8 253] w _
    go_enter Tryz.func107, Tryz.ntmps107
    go_wp2
    go_ret
    exact ⟨rfl, rfl⟩
  · change Calls Tryz.prog 107 #[.int .u8 254] w _
    go_enter Tryz.func107, Tryz.ntmps107
    go_wp2
    go_ret
    exact ⟨rfl, rfl⟩
  · change Calls Tryz.prog 107 #[.int .u8 255] w _
    go_enter Tryz.func107, Tryz.ntmps107
    go_wp2
    go_ret
    exact ⟨rfl, rfl⟩
/-- a count's first byte -/
def cFirst (n : Nat) : UInt8 := if n ≤ 252 then UInt8.ofNat n else if n ≤ 65535 then 253 else if n ≤ 4294967295 then 254 else 255
theorem cFirst_size {n : Nat} : fSize (cFirst n) = cSize n := by
  unfold cFirst cSize
  split
  · rw [fSize_low (by rw [u8_nat (by omega)]; assumption)]
  · split
    · decide
    · split <;> decide
theorem countL_first (n : Nat) : countL n = cFirst n :: fixedL n (fSize (cFirst n)) := by
  rw [cFirst_size]
  unfold countL cFirst cSize
  split
  · rfl
  · split
    · rfl
    · split <;> rfl
theorem VB_of {n : Nat} (h : n < 256) : VB (UInt8.ofNat n) = .int .u8 (n : Int) := by
  show Value.int .u8 (B (UInt8.ofNat n)) = _
  unfold B; rw [u8_nat h]
set_option maxRecDepth 100000 in
set_option maxHeartbeats 8000000 in
theorem pcFirst_any (n : Nat) (w : World) : Calls Tryz.prog 106 #[.int .u64 (n : Int)] w fun e w' => e = .returned (VB (cFirst n)) ∧ w' = w := by
  by_cases h1 : n ≤ 252
  · have e1 : VB (cFirst n) = .int .u8 ((n % 256 : Nat) : Int) := by unfold cFirst; rw [if_pos h1, VB_of (by omega), Nat.mod_eq_of_lt (by omega)]
    rw [e1]
    clear e1
    go_enter Tryz.func106, Tryz.ntmps106
    go_wp2_with (first
      | ((with_reducible change wpList _ _ _ (Oper.mk (some 5) _ _ _ _ _ :: _) _ _); refine kLssI _ _ _ _ .u64 (n : Int) 253 true rfl rfl rfl rfl (by simp; omega) ?_; go_frame)
      | ((with_reducible change wpList _ _ _ (Oper.mk (some 7) _ _ _ _ _ :: _) _ _); refine kConv8 _ n rfl rfl rfl ?_; go_frame))
    go_ret
    exact ⟨rfl, rfl⟩
  by_cases h2 : n ≤ 65535
  · rw [show cFirst n = 253 by unfold cFirst; rw [if_neg h1, if_pos h2]]
    go_enter Tryz.func106, Tryz.ntmps106
    go_wp2_with (first
      | ((with_reducible change wpList _ _ _ (Oper.mk (some 5) _ _ _ _ _ :: _) _ _); refine kLssI _ _ _ _ .u64 (n : Int) 253 false rfl rfl rfl rfl (by simp; omega) ?_; go_frame)
      | ((with_reducible change wpList _ _ _ (Oper.mk (some 10) _ _ _ _ _ :: _) _ _); refine kLeqI _ _ _ _ .u64 (n : Int) 65535 true rfl rfl rfl rfl (by simp; omega) ?_; go_frame))
    go_ret
    exact ⟨rfl, rfl⟩
  by_cases h3 : n ≤ 4294967295
  · rw [show cFirst n = 254 by unfold cFirst; rw [if_neg h1, if_neg h2, if_pos h3]]
    go_enter Tryz.func106, Tryz.ntmps106
    go_wp2_with (first
      | ((with_reducible change wpList _ _ _ (Oper.mk (some 5) _ _ _ _ _ :: _) _ _); refine kLssI _ _ _ _ .u64 (n : Int) 253 false rfl rfl rfl rfl (by simp; omega) ?_; go_frame)
      | ((with_reducible change wpList _ _ _ (Oper.mk (some 10) _ _ _ _ _ :: _) _ _); refine kLeqI _ _ _ _ .u64 (n : Int) 65535 false rfl rfl rfl rfl (by simp; omega) ?_; go_frame)
      | ((with_reducible change wpList _ _ _ (Oper.mk (some 13) _ _ _ _ _ :: _) _ _); refine kLeqI _ _ _ _ .u64 (n : Int) 4294967295 true rfl rfl rfl rfl (by simp; omega) ?_; go_frame))
    go_ret
    exact ⟨rfl, rfl⟩
  · rw [show cFirst n = 255 by unfold cFirst; rw [if_neg h1, if_neg h2, if_neg h3]]
    go_enter Tryz.func106, Tryz.ntmps106
    go_wp2_with (first
      | ((with_reducible change wpList _ _ _ (Oper.mk (some 5) _ _ _ _ _ :: _) _ _); refine kLssI _ _ _ _ .u64 (n : Int) 253 false rfl rfl rfl rfl (by simp; omega) ?_; go_frame)
      | ((with_reducible change wpList _ _ _ (Oper.mk (some 10) _ _ _ _ _ :: _) _ _); refine kLeqI _ _ _ _ .u64 (n : Int) 65535 false rfl rfl rfl rfl (by simp; omega) ?_; go_frame)
      | ((with_reducible change wpList _ _ _ (Oper.mk (some 13) _ _ _ _ _ :: _) _ _); refine kLeqI _ _ _ _ .u64 (n : Int) 4294967295 false rfl rfl rfl rfl (by simp; omega) ?_; go_frame))
    go_ret
    exact ⟨rfl, rfl⟩
theorem fixedL_snoc (n k : Nat) : fixedL n (k + 1) = fixedL n k ++ [UInt8.ofNat (n / 256 ^ k % 256)] := by
  induction k generalizing n with
  | zero => show [UInt8.ofNat (n % 256)] = _; rw [Nat.pow_zero, Nat.div_one]; rfl
  | succ k ih =>
    show UInt8.ofNat (n % 256) :: fixedL (n / 256) (k + 1) = (UInt8.ofNat (n % 256) :: fixedL (n / 256) k) ++ _
    rw [ih, Nat.div_div_eq_div_mul, show 256 * 256 ^ k = 256 ^ (k + 1) by rw [Nat.pow_succ, Nat.mul_comm]]; rfl
theorem own_make8 {w : World} {g base : Nat} (hb : base ≤ g) (h : Row w g 5 (Array.replicate 8 (.int .u8 0))) : OwnB w base (.slice (some ⟨g, 0, none⟩) 0 8) [] :=
  ⟨rfl, .inr ⟨g, 8, _, rfl, hb, h, by decide, by decide, by simp, by simp⟩⟩
theorem clampS_le (z : Int) : clampS z ≤ 8 := by unfold clampS; omega
set_option maxRecDepth 100000 in
set_option maxHeartbeats 8000000 in
theorem pcLowest_any (n : Nat) (z : Int) (w : World) : Calls Tryz.prog 98 #[.int .u64 (n : Int), .int .i64 z] w (POwnPost w (fixedL n (clampS z))) := by
  obtain ⟨i, hi, hz, hs1, hby⟩ := b8Info
  have h8 := clampS_le z
  have hwz := fun w => pcWithin_any z w
  generalize clampS z = S at *
  go_enter Tryz.func98, Tryz.ntmps98
  go_wp2_with (first
    | ((with_reducible change wpList _ _ _ (Oper.mk (some 6) _ _ _ _ _ :: _) _ _); refine kMake _ _ _ _ rfl rfl i _ Tryz.underlying38 hi hz hs1 _ rfl .i64 .i64 0 8 0 8 rfl rfl rfl rfl (by decide) (by rw [hby]; decide) (by decide) ?_; intro w1 hR1 hz1 hB1; clear hz1; have hO1 : OwnB w1 w.heap.size _ [] := own_make8 (Nat.le_refl _) hR1; clear hR1; go_frame)
    | (go_at_call 91; refine (hwz _).mono ?_; rintro e w2 ⟨rfl, rfl⟩; go_frame))
  clear hwz
  go_loopw [9, 5, 0] (fun i v m wr => ∃ k : Nat, k ≤ S ∧ i = .int .i64 k ∧ m = .int .u64 ((n / 256 ^ k : Nat) : Int) ∧ OwnB wr w.heap.size v (fixedL n k) ∧ Below w.heap.size w wr) (fun i _ _ _ => S - (intOf i).toNat)
  case atStart => exact ⟨0, by omega, rfl, by rw [Nat.pow_zero, Nat.div_one], hO1, hB1⟩
  case round =>
    obtain ⟨k, hk, rfl, rfl, hO, hB⟩ := hrel
    clear hO1 hB1
    by_cases hlt : k < S
    · have hd : decide ((k : Int) < (S : Int)) = true := by simp; omega
      have hsz := hB.size
      generalize hq : n / 256 ^ k = q at hO ⊢
      have hx : VB (UInt8.ofNat (q % 256)) = .int .u8 ((q % 256 : Nat) : Int) := VB_of (Nat.mod_lt _ (by decide))
      go_wp2_with (first
        | ((with_reducible change wpList _ _ _ (Oper.mk (some 10) _ _ _ _ _ :: _) _ _); refine kLssI _ _ _ _ .i64 (k : Int) (S : Int) true rfl rfl rfl rfl hd ?_; go_frame)
        | ((with_reducible change wpList _ _ _ (Oper.mk (some 13) _ _ _ _ _ :: _) _ _); refine kConv8 _ q rfl rfl rfl ?_; go_frame)
        | ((with_reducible change wpList _ _ _ (Oper.mk (some 14) _ _ _ _ _ :: _) _ _); refine kBuildSlice1 _ _ _ (VB (UInt8.ofNat (q % 256))) rfl rfl Tryz.underlying38 i _ hi hz hs1 hx.symm rfl ?_; intro w2 hR2 hz2 hB2; clear hz2; have hV2 := isVals_lit (l := [VB (UInt8.ofNat (q % 256))]) hR2; clear hR2; have hO2 := hO.below hB2; have hsz2 := hB2.size; clear hO; go_frame)
        | ((with_reducible change wpList _ _ _ (Oper.mk (some 15) _ _ _ _ _ :: _) _ _); refine kAppB _ _ rfl rfl w.heap.size _ _ (fixedL n k) [UInt8.ofNat (q % 256)] hO2 hV2 rfl rfl (by rw [fixedL_len]; simp; omega) (by omega) ?_; intro v3 w3 hO3 hB3; have hB4 := hB.trans ((hB2.mono hsz).trans hB3); clear hO2 hV2 hB2 hB3 hB; go_frame)
        | ((with_reducible change wpList _ _ _ (Oper.mk (some 17) _ _ _ _ _ :: _) _ _); refine kShrU _ _ _ _ q 8 256 (by decide) (by decide) rfl rfl rfl rfl ?_; go_frame)
        | ((with_reducible change wpList _ _ _ (Oper.mk (some 18) _ _ _ _ _ :: _) _ _); refine kAddI _ _ _ _ (k : Int) 1 ((k + 1 : Nat) : Int) (by omega) rfl rfl rfl rfl ?_; go_frame))
      go_roundw
      case rel =>
        refine ⟨k + 1, by omega, rfl, ?_, ?_, hB4⟩
        · rw [← hq, Nat.div_div_eq_div_mul, Nat.pow_succ]
        · rw [fixedL_snoc, hq]; exact hO3
      case measure => simp [intOf]; omega
    · have hd : decide ((k : Int) < (S : Int)) = false := by simp; omega
      have Hk := Lib.hid (show k = S by omega)
      go_wp2_with (first
        | ((with_reducible change wpList _ _ _ (Oper.mk (some 10) _ _ _ _ _ :: _) _ _); refine kLssI _ _ _ _ .i64 (k : Int) (S : Int) false rfl rfl rfl rfl hd ?_; go_frame))
      go_ret
      exact ⟨_, rfl, by rw [← Hk.out]; exact hO, hB⟩
theorem clampS_size (c : UInt8) : clampS (fSize c : Int) = fSize c := by
  unfold fSize clampS; split <;> (try split) <;> (try split) <;> decide
theorem fSize_le (c : UInt8) : fSize c ≤ 8 := by unfold fSize; split <;> (try split) <;> (try split) <;> decide
set_option maxRecDepth 100000 in
set_option maxHeartbeats 8000000 in
theorem pcCounted_any (n : Nat) (w : World) : Calls Tryz.prog 70 #[.int .u64 (n : Int)] w (POwnPost w (countL n)) := by
  obtain ⟨i, hi, hz, hs1, hby⟩ := b8Info
  have h8 := fSize_le (cFirst n)
  have hlw := fun w => pcLowest_any n (fSize (cFirst n) : Int) w
  rw [clampS_size] at hlw
  rw [countL_first]
  have hfs := fun w => pcFirst_any n w
  have hsb := fun w => pcSizeBehind_any (cFirst n) w
  generalize cFirst n = c at *
  go_enter Tryz.func70, Tryz.ntmps70
  go_wp2_with (first
    | (go_at_call 106; refine (hfs _).mono ?_; rintro e w1 ⟨rfl, rfl⟩; go_frame)
    | ((with_reducible change wpList _ _ _ (Oper.mk (some 7) _ _ _ _ _ :: _) _ _); refine kBuildSlice1 _ _ _ (VB c) rfl rfl Tryz.underlying38 i _ hi hz hs1 rfl rfl ?_; intro w2 hR2 hz2 hB2; clear hz2; have hO2 := own_one (base := w1.heap.size) (Nat.le_refl _) hR2; clear hR2; go_frame)
    | (go_at_call 107; refine (hsb _).mono ?_; rintro e w3 ⟨rfl, rfl⟩; go_frame)
    | (go_at_call 98; refine (hlw _).mono ?_; rintro e w4 ⟨v4, rfl, hO4, hB4⟩; have hO5 := hO2.below hB4; have hsz4 := hB2.size; have hB5 := hB2.trans (hB4.mono hsz4); have hsz5 := hB5.size; clear hO2 hB2 hB4; go_frame)
    | ((with_reducible change wpList _ _ _ (Oper.mk (some 12) _ _ _ _ _ :: _) _ _); refine kAppB _ _ rfl rfl _ _ _ [c] (fixedL n (fSize c)) hO5 hO4.vals rfl rfl (by rw [fixedL_len]; simp; omega) hsz5 ?_; intro v6 w6 hO6 hB6; have hB7 := hB5.trans hB6; clear hO5 hO4 hB5 hB6 hsz5 hsz4; go_frame))
  go_ret
  exact ⟨_, rfl, hO6, hB7⟩
set_option maxRecDepth 100000 in
set_option maxHeartbeats 8000000 in
theorem pcBehind_any {l t : List UInt8} {v u : Value} (w : World) (hv : IsVals w v (l.map VB)) (hu : IsVals w u (t.map VB)) (hl : l.length ≤ 500000) (ht : t.length ≤ 500000) : Calls Tryz.prog 69 #[v, u] w (POwnPost w (l ++ t)) := by
  by_cases h0 : t = []
  · subst h0
    rw [List.append_nil]
    go_enter Tryz.func69, Tryz.ntmps69
    go_wp2_with (first
      | ((with_reducible change wpList _ _ _ (Oper.mk (some 6) _ _ _ _ _ :: _) _ _); refine kLenN _ _ _ u _ 0 rfl rfl rfl hu rfl Tryz.underlying38 ?_; go_frame)
      | (go_at_call 54; refine (bClone_any _ hv (by omega)).mono ?_; rintro e w1 ⟨v1, rfl, hO1, hB1⟩; go_frame))
    go_ret
    exact ⟨_, rfl, hO1, hB1⟩
  · obtain ⟨q, hq⟩ : ∃ q, t.length = q := ⟨_, rfl⟩
    obtain ⟨p, hp⟩ : ∃ p, l.length = p := ⟨_, rfl⟩
    have hq0 : 0 < q := by rw [← hq]; exact List.length_pos_iff.2 h0
    have hd : decide ((q : Int) = 0) = false := by simp; omega
    go_enter Tryz.func69, Tryz.ntmps69
    go_wp2_with (first
      | ((with_reducible change wpList _ _ _ (Oper.mk (some 6) _ _ _ _ _ :: _) _ _); refine kLenN _ _ _ u _ q rfl rfl rfl hu (by rw [List.length_map, hq]) Tryz.underlying38 ?_; go_frame)
      | ((with_reducible change wpList _ _ _ (Oper.mk (some 7) _ _ _ _ _ :: _) _ _); refine kEqlI _ _ _ _ .i64 (q : Int) 0 false rfl rfl rfl rfl hd ?_; go_frame)
      | ((with_reducible change wpList _ _ _ (Oper.mk (some 12) _ _ _ _ _ :: _) _ _); refine kLenN _ _ _ v _ p rfl rfl rfl hv (by rw [List.length_map, hp]) Tryz.underlying38 ?_; go_frame)
      | ((with_reducible change wpList _ _ _ (Oper.mk (some 14) _ _ _ _ _ :: _) _ _); refine kLenN _ _ _ v _ p rfl rfl rfl hv (by rw [List.length_map, hp]) Tryz.underlying38 ?_; go_frame)
      | ((with_reducible change wpList _ _ _ (Oper.mk (some 15) _ _ _ _ _ :: _) _ _); refine kSliceFull _ _ _ rfl rfl v l hv rfl (by rw [hp]; rfl) (by rw [hp]; rfl) ?_; go_frame)
      | ((with_reducible change wpList _ _ _ (Oper.mk (some 17) _ _ _ _ _ :: _) _ _); refine kAppNew _ _ rfl rfl v u l t hv hu rfl rfl h0 (by omega) ?_; intro v6 w6 hO6 hB6; go_frame))
    go_ret
    exact ⟨_, rfl, hO6, hB6⟩
set_option maxRecDepth 100000 in
set_option maxHeartbeats 8000000 in
theorem pcCount_any {l : List UInt8} {v : Value} (n : Nat) (w : World) (hv : IsVals w v (l.map VB)) (hl : l.length ≤ 500000) : Calls Tryz.prog 41 #[v, .int .u64 (n : Int)] w (POwnPost w (l ++ countL n)) := by
  have hc : (countL n).length ≤ 500000 := by have := fSize_le (cFirst n); rw [countL_len, ← cFirst_size]; omega
  go_enter Tryz.func41, Tryz.ntmps41
  go_wp2_with (first
    | (go_at_call 70; refine (pcCounted_any n _).mono ?_; rintro e w1 ⟨v1, rfl, hO1, hB1⟩; have hv1 := hv.below hB1; have hu1 := hO1.vals; have hsz := hB1.size; clear hO1; go_frame)
    | (go_at_call 69; refine (pcBehind_any _ hv1 hu1 hl hc).mono ?_; rintro e w2 ⟨v2, rfl, hO2, hB2⟩; have hO3 := own_less hsz hO2; have hB3 := hB1.trans (hB2.mono hsz); clear hB1 hB2 hO2; go_frame))
  go_ret
  exact ⟨_, rfl, hO3, hB3⟩
set_option maxRecDepth 100000 in
set_option maxHeartbeats 8000000 in
theorem pcFixed_any {l : List UInt8} {v : Value} (n : Nat) (z : Int) (w : World) (hv : IsVals w v (l.map VB)) (hl : l.length ≤ 500000) : Calls Tryz.prog 66 #[v, .int .u64 (n : Int), .int .i64 z] w (POwnPost w (l ++ fixedL n (clampS z))) := by
  have hc : (fixedL n (clampS z)).length ≤ 500000 := by have := clampS_le z; rw [fixedL_len]; omega
  go_enter Tryz.func66, Tryz.ntmps66
  go_wp2_with (first
    | (go_at_call 98; refine (pcLowest_any n z _).mono ?_; rintro e w1 ⟨v1, rfl, hO1, hB1⟩; have hv1 := hv.below hB1; have hu1 := hO1.vals; have hsz := hB1.size; clear hO1; go_frame)
    | (go_at_call 69; refine (pcBehind_any _ hv1 hu1 hl hc).mono ?_; rintro e w2 ⟨v2, rfl, hO2, hB2⟩; have hO3 := own_less hsz hO2; have hB3 := hB1.trans (hB2.mono hsz); clear hB1 hB2 hO2; go_frame))
  go_ret
  exact ⟨_, rfl, hO3, hB3⟩
end Go.Proofs.YtmfjgehlkbndjaaGreatDoor

/-
  Layer 6: Text, and the reference's writers.
-/
namespace Go.Proofs.YtmfjgehlkbndjaaGreatDoor
open Go Go.RowKit

/-- texts one behind the other -/
def textsL (Ls : List (List UInt8)) : List UInt8 := (Ls.map textL).flatten
theorem textsL_take (Ls : List (List UInt8)) (k : Nat) (hk : k < Ls.length) : textsL (Ls.take (k + 1)) = textsL (Ls.take k) ++ textL Ls[k] := by
  unfold textsL; rw [List.take_succ_eq_append_getElem hk, List.map_append, List.flatten_append]; simp
theorem countL_le (n : Nat) : (countL n).length ≤ 9 := by have := fSize_le (cFirst n); rw [countL_len, ← cFirst_size]; omega
theorem textL_le {x : List UInt8} {m : Nat} (h : x.length ≤ m) : (textL x).length ≤ m + 9 := by
  have := countL_le x.length; unfold textL; rw [List.length_append]; omega
theorem textsL_le (Ls : List (List UInt8)) (m : Nat) (h : ∀ L ∈ Ls, L.length ≤ m) : (textsL Ls).length ≤ Ls.length * (m + 9) := by
  induction Ls with
  | nil => simp [textsL]
  | cons x Ls ih =>
    have h1 := textL_le (h x (by simp))
    have h2 := ih fun L hL => h L (by simp [hL])
    have e : textsL (x :: Ls) = textL x ++ textsL Ls := by simp [textsL]
    rw [e, List.length_append, List.length_cons, Nat.add_mul, Nat.one_mul]; omega
theorem AreLists.len {w : World} {v : Value} {Ls : List (List UInt8)} (h : AreLists w v Ls) : ∃ vs : List Value, vs.length = Ls.length ∧ IsVals w v vs := by
  obtain ⟨vs, h1, h2, _⟩ := h; exact ⟨vs, h1, h2⟩
theorem AreLists.at {w : World} {v : Value} {Ls : List (List UInt8)} (h : AreLists w v Ls) {k : Nat} (hk : k < Ls.length) : ∃ (vs : List Value) (x : Value), vs.length = Ls.length ∧ IsVals w v vs ∧ vs[k]? = some x ∧ IsVals w x (Ls[k].map VB) := by
  obtain ⟨vs, h1, h2, h3⟩ := h
  exact ⟨vs, vs[k], h1, h2, List.getElem?_eq_getElem (by omega), h3 k _ _ (List.getElem?_eq_getElem (by omega)) (List.getElem?_eq_getElem hk)⟩
theorem info_bytesP : (Tryz.prog.info? 38).map (·.size) = some 1 := by kernel_rfl
set_option maxRecDepth 100000 in
set_option maxHeartbeats 8000000 in
theorem pcText_any {l : List UInt8} {v u : Value} {Ls : List (List UInt8)} (w : World) (hv : IsVals w v (l.map VB)) (hu : AreLists w u Ls) (hl : l.length ≤ 100000) (hn : Ls.length ≤ 100) (hx : ∀ L ∈ Ls, L.length ≤ 3900) : Calls Tryz.prog 108 #[v, u] w (POwnPost w (l ++ textsL Ls)) := by
  obtain ⟨N, hN⟩ : ∃ N, Ls.length = N := ⟨_, rfl⟩
  have hL0 := hu.len
  have hsum : (textsL Ls).length ≤ 500000 := by have := textsL_le Ls 3900 hx; omega
  obtain ⟨vs0, hvs0, hV0⟩ := hL0
  go_enter Tryz.func108, Tryz.ntmps108
  go_wp2_with (first
    | ((with_reducible change wpList _ _ _ (Oper.mk (some 9) _ _ _ _ _ :: _) _ _); refine kLenN _ _ _ u _ N rfl rfl rfl hV0 (hvs0.trans hN) Tryz.underlying109 ?_; go_frame))
  clear hV0 hvs0
  go_loopw [10, 5] (fun i t wr => ∃ k : Nat, k ≤ N ∧ i = .int .i64 k ∧ OwnB wr w.heap.size t (textsL (Ls.take k)) ∧ Below w.heap.size w wr) (fun i _ _ => N - (intOf i).toNat)
  case atStart => exact ⟨0, by omega, rfl, ownB_nil _ _, Below.refl _ _⟩
  case round =>
    obtain ⟨k, hk, rfl, hO, hB⟩ := hrel
    by_cases hlt : k < N
    · have hd : decide ((k : Int) < (N : Int)) = true := by simp; omega
      have hkl : k < Ls.length := by omega
      obtain ⟨vs, x, hvs, hV0, hxk, hX0⟩ := hu.at hkl
      have hV := hV0.below hB
      have hX := hX0.below hB
      have hsz := hB.size
      have hm : Ls[k].length ≤ 3900 := hx _ (List.getElem_mem hkl)
      have hTk := textsL_take Ls k hkl
      have hTl : (textsL (Ls.take k)).length ≤ 400000 := by have := textsL_le (Ls.take k) 3900 (fun L hL => hx L (List.mem_of_mem_take hL)); rw [List.length_take] at this; omega
      obtain ⟨X, hXe⟩ : ∃ X, Ls[k] = X := ⟨_, rfl⟩
      rw [hXe] at hX hX0 hm hTk
      obtain ⟨m, hme⟩ : ∃ m, X.length = m := ⟨_, rfl⟩
      have hcl := countL_le m
      clear hV0
      go_wp2_with (first
        | ((with_reducible change wpList _ _ _ (Oper.mk (some 11) _ _ _ _ _ :: _) _ _); refine kLssI _ _ _ _ .i64 (k : Int) (N : Int) true rfl rfl rfl rfl hd ?_; go_frame)
        | ((with_reducible change wpList _ _ _ (Oper.mk (some 12) _ _ _ _ _ :: _) _ _); refine kIndexAddrV _ _ _ _ .i64 u vs (k : Int) k x rfl rfl rfl hV rfl Tryz.underlying109 info_bytesP rfl hxk ?_; intro b hb; go_frame)
        | ((with_reducible change wpList _ _ _ (Oper.mk (some 13) _ _ _ _ _ :: _) _ _); refine kLoadCell _ _ b x _ rfl rfl rfl hb Tryz.underlying38 rfl ?_; clear hb hV; go_frame)
        | ((with_reducible change wpList _ _ _ (Oper.mk (some 16) _ _ _ _ _ :: _) _ _); refine kLenN _ _ _ x _ m rfl rfl rfl hX (by rw [List.length_map, hme]) Tryz.underlying38 ?_; go_frame)
        | ((with_reducible change wpList _ _ _ (Oper.mk (some 17) _ _ _ _ _ :: _) _ _); refine kConvIU _ m (by omega) rfl rfl rfl ?_; go_frame)
        | (go_at_call 70; refine (pcCounted_any m _).mono ?_; rintro e w2 ⟨v2, rfl, hO2, hB2⟩; have hO3 := hO.below hB2; have hsz2 := hB2.size; have hB3 := hB.trans (hB2.mono hsz); clear hB2 hO hX; go_frame)
        | ((with_reducible change wpList _ _ _ (Oper.mk (some 19) _ _ _ _ _ :: _) _ _); refine kAppB _ _ rfl rfl w.heap.size _ _ (textsL (Ls.take k)) (countL m) hO3 hO2.vals rfl rfl (by omega) (by omega) ?_; intro v4 w4 hO4 hB4; have hB5 := hB3.trans hB4; have hX4 := hX0.below hB5; have hsz4 := hB5.size; clear hO2 hO3 hB4 hB3; go_frame)
        | ((with_reducible change wpList _ _ _ (Oper.mk (some 22) _ _ _ _ _ :: _) _ _); refine kAppB _ _ rfl rfl w.heap.size _ _ (textsL (Ls.take k) ++ countL m) X hO4 hX4 rfl rfl (by rw [List.length_append]; omega) hsz4 ?_; intro v6 w6 hO6 hB6; have hB7 := hB5.trans hB6; clear hO4 hX4 hB5 hB6; go_frame)
        | ((with_reducible change wpList _ _ _ (Oper.mk (some 23) _ _ _ _ _ :: _) _ _); refine kAddI _ _ _ _ (k : Int) 1 ((k + 1 : Nat) : Int) (by omega) rfl rfl rfl rfl ?_; go_frame))
      go_roundw
      case rel =>
        refine ⟨k + 1, by omega, rfl, ?_, hB7⟩
        rw [hTk, show textL X = countL m ++ X by unfold textL; rw [hme], ← List.append_assoc]; exact hO6
      case measure => simp [intOf]; omega
    · have hd : decide ((k : Int) < (N : Int)) = false := by simp; omega
      have hT : textsL (Ls.take k) = textsL Ls := by rw [List.take_of_length_le (by omega)]
      rw [hT] at hO
      have hv2 := hv.below hB
      have hsz := hB.size
      clear hT
      go_wp2_with (first
        | ((with_reducible change wpList _ _ _ (Oper.mk (some 11) _ _ _ _ _ :: _) _ _); refine kLssI _ _ _ _ .i64 (k : Int) (N : Int) false rfl rfl rfl rfl hd ?_; go_frame)
        | (go_at_call 69; refine (pcBehind_any _ hv2 hO.vals (by omega) hsum).mono ?_; rintro e w2 ⟨v2, rfl, hO2, hB2⟩; have hO3 := own_less hsz hO2; have hB3 := hB.trans (hB2.mono hsz); clear hB2 hO2; go_frame))
      go_ret
      exact ⟨_, rfl, hO3, hB3⟩
end Go.Proofs.YtmfjgehlkbndjaaGreatDoor

/-
  Layer 6: the reference's writers.
-/
namespace Go.Proofs.YtmfjgehlkbndjaaGreatDoor
open Go Go.RowKit

theorem clampS_of (z : Int) (k : Nat) (h : k = clampS z) (hz : (k : Int) < z) : k = 8 := by unfold clampS at h; omega
set_option maxRecDepth 100000 in
set_option maxHeartbeats 8000000 in
theorem jFixed_any (n : Nat) (hn : n < 18446744073709551616) (z : Int) (w : World) : Calls Tryz.prog 38 #[.int .u64 (n : Int), .int .i64 z] w (POwnPost w (fixedL n (clampS z))) := by
  obtain ⟨i, hi, hz, hs1, hby⟩ := b8Info
  have h8 := clampS_le z
  have hcl : ∀ k, k < clampS z → (k : Int) < z := by unfold clampS; omega
  have hco := clampS_of z
  generalize clampS z = S at *
  go_enter Tryz.func38, Tryz.ntmps38
  go_wp2_with (first
    | ((with_reducible change wpList _ _ _ (Oper.mk (some 7) _ _ _ _ _ :: _) _ _); refine kBuildSlice0 _ _ rfl rfl Tryz.underlying38 i hi ?_; intro w1 hR1 hz1 hB1; clear hz1; have hO1 : OwnB w1 w.heap.size _ [] := own_empty (Nat.le_refl _) hR1; clear hR1; go_frame))
  go_loopw [6, 5, 0] (fun i v m wr => ∃ k : Nat, k ≤ S ∧ i = .int .i64 k ∧ m = .int .u64 ((n / 256 ^ k : Nat) : Int) ∧ OwnB wr w.heap.size v (fixedL n k) ∧ Below w.heap.size w wr) (fun i _ _ _ => S - (intOf i).toNat)
  case atStart => exact ⟨0, by omega, rfl, by rw [Nat.pow_zero, Nat.div_one], hO1, hB1⟩
  case round =>
    obtain ⟨k, hk, rfl, rfl, hO, hB⟩ := hrel
    clear hO1 hB1
    by_cases hlt : k < S
    · have hd : decide ((k : Int) < z) = true := by simp; exact hcl k hlt
      have hd8 : decide ((k : Int) < 8) = true := by simp; omega
      have hsz := hB.size
      have hqn : n / 256 ^ k ≤ n := Nat.div_le_self _ _
      generalize hq : n / 256 ^ k = q at hO hqn ⊢
      have hx : VB (UInt8.ofNat (q % 256)) = .int .u8 ((q % 256 % 256 : Nat) : Int) := by rw [Nat.mod_mod]; exact VB_of (Nat.mod_lt _ (by decide))
      go_wp2_with (first
        | ((with_reducible change wpList _ _ _ (Oper.mk (some 10) _ _ _ _ _ :: _) _ _); refine kLssI _ _ _ _ .i64 (k : Int) z true rfl rfl rfl rfl hd ?_; go_frame)
        | ((with_reducible change wpList _ _ _ (Oper.mk (some 13) _ _ _ _ _ :: _) _ _); refine kLssI _ _ _ _ .i64 (k : Int) 8 true rfl rfl rfl rfl hd8 ?_; go_frame)
        | ((with_reducible change wpList _ _ _ (Oper.mk (some 19) _ _ _ _ _ :: _) _ _); refine kRemUP _ _ _ _ q 256 (by decide) rfl rfl rfl rfl ?_; go_frame)
        | ((with_reducible change wpList _ _ _ (Oper.mk (some 20) _ _ _ _ _ :: _) _ _); refine kConv8 _ (q % 256) rfl rfl rfl ?_; go_frame)
        | ((with_reducible change wpList _ _ _ (Oper.mk (some 21) _ _ _ _ _ :: _) _ _); refine kBuildSlice1 _ _ _ (VB (UInt8.ofNat (q % 256))) rfl rfl Tryz.underlying38 i _ hi hz hs1 hx.symm rfl ?_; intro w2 hR2 hz2 hB2; clear hz2; have hV2 := isVals_lit (l := [VB (UInt8.ofNat (q % 256))]) hR2; clear hR2; have hO2 := hO.below hB2; have hsz2 := hB2.size; clear hO; go_frame)
        | ((with_reducible change wpList _ _ _ (Oper.mk (some 22) _ _ _ _ _ :: _) _ _); refine kAppB _ _ rfl rfl w.heap.size _ _ (fixedL n k) [UInt8.ofNat (q % 256)] hO2 hV2 rfl rfl (by rw [fixedL_len]; simp; omega) (by omega) ?_; intro v3 w3 hO3 hB3; have hB4 := hB.trans ((hB2.mono hsz).trans hB3); clear hO2 hV2 hB2 hB3 hB; go_frame)
        | ((with_reducible change wpList _ _ _ (Oper.mk (some 24) _ _ _ _ _ :: _) _ _); refine kQuoU _ _ _ _ q 256 (by decide) (by omega) rfl rfl rfl rfl ?_; go_frame)
        | ((with_reducible change wpList _ _ _ (Oper.mk (some 16) _ _ _ _ _ :: _) _ _); refine kAddI _ _ _ _ (k : Int) 1 ((k + 1 : Nat) : Int) (by omega) rfl rfl rfl rfl ?_; go_frame))
      go_roundw
      case rel =>
        refine ⟨k + 1, by omega, rfl, ?_, ?_, hB4⟩
        · rw [← hq, Nat.div_div_eq_div_mul, Nat.pow_succ]
        · rw [fixedL_snoc, hq]; exact hO3
      case measure => simp [intOf]; omega
    · have Hk := Lib.hid (show k = S by omega)
      by_cases hz2 : (k : Int) < z
      · have hd : decide ((k : Int) < z) = true := by simp; omega
        have hd8 : decide ((k : Int) < 8) = false := by have := hco k Hk.out hz2; simp; omega
        clear hz2
        go_wp2_with (first
          | ((with_reducible change wpList _ _ _ (Oper.mk (some 10) _ _ _ _ _ :: _) _ _); refine kLssI _ _ _ _ .i64 (k : Int) z true rfl rfl rfl rfl hd ?_; go_frame)
          | ((with_reducible change wpList _ _ _ (Oper.mk (some 13) _ _ _ _ _ :: _) _ _); refine kLssI _ _ _ _ .i64 (k : Int) 8 false rfl rfl rfl rfl hd8 ?_; go_frame))
        go_ret
        exact ⟨_, rfl, by rw [← Hk.out]; exact hO, hB⟩
      · have hd : decide ((k : Int) < z) = false := by simp; omega
        clear hz2
        go_wp2_with (first
          | ((with_reducible change wpList _ _ _ (Oper.mk (some 10) _ _ _ _ _ :: _) _ _); refine kLssI _ _ _ _ .i64 (k : Int) z false rfl rfl rfl rfl hd ?_; go_frame))
        go_ret
        exact ⟨_, rfl, by rw [← Hk.out]; exact hO, hB⟩
set_option maxRecDepth 100000 in
set_option maxHeartbeats 8000000 in
theorem jCount_any (n : Nat) (hn : n < 18446744073709551616) (w : World) : Calls Tryz.prog 44 #[.int .u64 (n : Int)] w (POwnPost w (countL n)) := by
  obtain ⟨i, hi, hz, hs1, hby⟩ := b8Info
  by_cases h1 : n ≤ 252
  · rw [show countL n = [UInt8.ofNat n] by unfold countL; rw [if_pos h1]]
    have hx : VB (UInt8.ofNat n) = .int .u8 ((n % 256 : Nat) : Int) := by rw [Nat.mod_eq_of_lt (by omega)]; exact VB_of (by omega)
    go_enter Tryz.func44, Tryz.ntmps44
    go_wp2_with (first
      | ((with_reducible change wpList _ _ _ (Oper.mk (some 4) _ _ _ _ _ :: _) _ _); refine kLeqI _ _ _ _ .u64 (n : Int) 252 true rfl rfl rfl rfl (by simp; omega) ?_; go_frame)
      | ((with_reducible change wpList _ _ _ (Oper.mk (some 6) _ _ _ _ _ :: _) _ _); refine kConv8 _ n rfl rfl rfl ?_; go_frame)
      | ((with_reducible change wpList _ _ _ (Oper.mk (some 7) _ _ _ _ _ :: _) _ _); refine kBuildSlice1 _ _ _ (VB (UInt8.ofNat n)) rfl rfl Tryz.underlying38 i _ hi hz hs1 hx.symm rfl ?_; intro w2 hR2 hz2 hB2; clear hz2; have hO2 := own_one (base := w.heap.size) (Nat.le_refl _) hR2; clear hR2; go_frame))
    go_ret
    exact ⟨_, rfl, hO2, hB2⟩
  by_cases h2 : n ≤ 65535
  · rw [show countL n = [253] ++ fixedL n (clampS 2) by unfold countL; rw [if_neg h1, if_pos h2]; rfl]
    go_enter Tryz.func44, Tryz.ntmps44
    go_wp2_with (first
      | ((with_reducible change wpList _ _ _ (Oper.mk (some 4) _ _ _ _ _ :: _) _ _); refine kLeqI _ _ _ _ .u64 (n : Int) 252 false rfl rfl rfl rfl (by simp; omega) ?_; go_frame)
      | ((with_reducible change wpList _ _ _ (Oper.mk (some 9) _ _ _ _ _ :: _) _ _); refine kLeqI _ _ _ _ .u64 (n : Int) 65535 true rfl rfl rfl rfl (by simp; omega) ?_; go_frame)
      | ((with_reducible change wpList _ _ _ (Oper.mk (some 10) _ _ _ _ _ :: _) _ _); refine kBuildSlice1 _ _ _ (VB 253) rfl rfl Tryz.underlying38 i _ hi hz hs1 rfl rfl ?_; intro w2 hR2 hz2 hB2; clear hz2; have hO2 := own_one (base := w.heap.size) (Nat.le_refl _) hR2; clear hR2; go_frame)
      | (go_at_call 38; refine (jFixed_any n hn 2 _).mono ?_; rintro e w4 ⟨v4, rfl, hO4, hB4⟩; have hO5 := hO2.below hB4; have hsz4 := hB2.size; have hB5 := hB2.trans (hB4.mono hsz4); have hsz5 := hB5.size; clear hO2 hB2 hB4; go_frame)
      | ((with_reducible change wpList _ _ _ (Oper.mk (some 13) _ _ _ _ _ :: _) _ _); refine kAppB _ _ rfl rfl _ _ _ [253] (fixedL n 2) hO5 hO4.vals rfl rfl (by rw [fixedL_len]; decide) hsz5 ?_; intro v6 w6 hO6 hB6; have hB7 := hB5.trans hB6; clear hO5 hO4 hB5 hB6 hsz5 hsz4; go_frame))
    go_ret
    exact ⟨_, rfl, hO6, hB7⟩
  by_cases h3 : n ≤ 4294967295
  · rw [show countL n = [254] ++ fixedL n (clampS 4) by unfold countL; rw [if_neg h1, if_neg h2, if_pos h3]; rfl]
    go_enter Tryz.func44, Tryz.ntmps44
    go_wp2_with (first
      | ((with_reducible change wpList _ _ _ (Oper.mk (some 4) _ _ _ _ _ :: _) _ _); refine kLeqI _ _ _ _ .u64 (n : Int) 252 false rfl rfl rfl rfl (by simp; omega) ?_; go_frame)
      | ((with_reducible change wpList _ _ _ (Oper.mk (some 9) _ _ _ _ _ :: _) _ _); refine kLeqI _ _ _ _ .u64 (n : Int) 65535 false rfl rfl rfl rfl (by simp; omega) ?_; go_frame)
      | ((with_reducible change wpList _ _ _ (Oper.mk (some 15) _ _ _ _ _ :: _) _ _); refine kLeqI _ _ _ _ .u64 (n : Int) 4294967295 true rfl rfl rfl rfl (by simp; omega) ?_; go_frame)
      | ((with_reducible change wpList _ _ _ (Oper.mk (some 16) _ _ _ _ _ :: _) _ _); refine kBuildSlice1 _ _ _ (VB 254) rfl rfl Tryz.underlying38 i _ hi hz hs1 rfl rfl ?_; intro w2 hR2 hz2 hB2; clear hz2; have hO2 := own_one (base := w.heap.size) (Nat.le_refl _) hR2; clear hR2; go_frame)
      | (go_at_call 38; refine (jFixed_any n hn 4 _).mono ?_; rintro e w4 ⟨v4, rfl, hO4, hB4⟩; have hO5 := hO2.below hB4; have hsz4 := hB2.size; have hB5 := hB2.trans (hB4.mono hsz4); have hsz5 := hB5.size; clear hO2 hB2 hB4; go_frame)
      | ((with_reducible change wpList _ _ _ (Oper.mk (some 19) _ _ _ _ _ :: _) _ _); refine kAppB _ _ rfl rfl _ _ _ [254] (fixedL n 4) hO5 hO4.vals rfl rfl (by rw [fixedL_len]; decide) hsz5 ?_; intro v6 w6 hO6 hB6; have hB7 := hB5.trans hB6; clear hO5 hO4 hB5 hB6 hsz5 hsz4; go_frame))
    go_ret
    exact ⟨_, rfl, hO6, hB7⟩
  · rw [show countL n = [255] ++ fixedL n (clampS 8) by unfold countL; rw [if_neg h1, if_neg h2, if_neg h3]; rfl]
    go_enter Tryz.func44, Tryz.ntmps44
    go_wp2_with (first
      | ((with_reducible change wpList _ _ _ (Oper.mk (some 4) _ _ _ _ _ :: _) _ _); refine kLeqI _ _ _ _ .u64 (n : Int) 252 false rfl rfl rfl rfl (by simp; omega) ?_; go_frame)
      | ((with_reducible change wpList _ _ _ (Oper.mk (some 9) _ _ _ _ _ :: _) _ _); refine kLeqI _ _ _ _ .u64 (n : Int) 65535 false rfl rfl rfl rfl (by simp; omega) ?_; go_frame)
      | ((with_reducible change wpList _ _ _ (Oper.mk (some 15) _ _ _ _ _ :: _) _ _); refine kLeqI _ _ _ _ .u64 (n : Int) 4294967295 false rfl rfl rfl rfl (by simp; omega) ?_; go_frame)
      | ((with_reducible change wpList _ _ _ (Oper.mk (some 20) _ _ _ _ _ :: _) _ _); refine kBuildSlice1 _ _ _ (VB 255) rfl rfl Tryz.underlying38 i _ hi hz hs1 rfl rfl ?_; intro w2 hR2 hz2 hB2; clear hz2; have hO2 := own_one (base := w.heap.size) (Nat.le_refl _) hR2; clear hR2; go_frame)
      | (go_at_call 38; refine (jFixed_any n hn 8 _).mono ?_; rintro e w4 ⟨v4, rfl, hO4, hB4⟩; have hO5 := hO2.below hB4; have hsz4 := hB2.size; have hB5 := hB2.trans (hB4.mono hsz4); have hsz5 := hB5.size; clear hO2 hB2 hB4; go_frame)
      | ((with_reducible change wpList _ _ _ (Oper.mk (some 23) _ _ _ _ _ :: _) _ _); refine kAppB _ _ rfl rfl _ _ _ [255] (fixedL n 8) hO5 hO4.vals rfl rfl (by rw [fixedL_len]; decide) hsz5 ?_; intro v6 w6 hO6 hB6; have hB7 := hB5.trans hB6; clear hO5 hO4 hB5 hB6 hsz5 hsz4; go_frame))
    go_ret
    exact ⟨_, rfl, hO6, hB7⟩
set_option maxRecDepth 100000 in
set_option maxHeartbeats 8000000 in
theorem jText_any {x : List UInt8} {v : Value} (w : World) (hv : IsVals w v (x.map VB)) (hl : x.length ≤ 100000) : Calls Tryz.prog 78 #[v] w (POwnPost w (textL x)) := by
  obtain ⟨m, hm⟩ : ∃ m, x.length = m := ⟨_, rfl⟩
  have hcl := countL_le m
  unfold textL
  rw [hm]
  go_enter Tryz.func78, Tryz.ntmps78
  go_wp2_with (first
    | ((with_reducible change wpList _ _ _ (Oper.mk (some 4) _ _ _ _ _ :: _) _ _); refine kLenN _ _ _ v _ m rfl rfl rfl hv (by rw [List.length_map, hm]) Tryz.underlying38 ?_; go_frame)
    | ((with_reducible change wpList _ _ _ (Oper.mk (some 5) _ _ _ _ _ :: _) _ _); refine kConvIU _ m (by omega) rfl rfl rfl ?_; go_frame)
    | (go_at_call 44; refine (jCount_any m (by omega) _).mono ?_; rintro e w1 ⟨v1, rfl, hO1, hB1⟩; have hv1 := hv.below hB1; have hsz := hB1.size; go_frame)
    | ((with_reducible change wpList _ _ _ (Oper.mk (some 8) _ _ _ _ _ :: _) _ _); refine kAppB _ _ rfl rfl w.heap.size _ _ (countL m) x hO1 hv1 rfl rfl (by omega) hsz ?_; intro v2 w2 hO2 hB2; have hB3 := hB1.trans hB2; clear hO1 hB1 hB2 hv1; go_frame))
  go_ret
  exact ⟨_, rfl, hO2, hB3⟩
set_option maxRecDepth 100000 in
set_option maxHeartbeats 8000000 in
theorem jNumber_any {l : List UInt8} {v : Value} (w : World) (hv : IsVals w v (l.map VB)) (hl : l.length ≤ 8) : Calls Tryz.prog 83 #[v] w fun e w' => e = .returned (.int .u64 (numL l : Int)) ∧ w' = w := by
  obtain ⟨N, hN⟩ : ∃ N, l.length = N := ⟨_, rfl⟩
  go_enter Tryz.func83, Tryz.ntmps83
  go_wp2_with (first
    | ((with_reducible change wpList _ _ _ (Oper.mk (some 8) _ _ _ _ _ :: _) _ _); refine kLenN _ _ _ v _ N rfl rfl rfl hv (by rw [List.length_map, hN]) Tryz.underlying38 ?_; go_frame))
  go_loopw [9, 3, 4] (fun i n m wr => ∃ (k W : Nat), k ≤ N ∧ W = 256 ^ k % 18446744073709551616 ∧ i = .int .i64 k ∧ n = .int .u64 (numL (l.take k) : Int) ∧ m = .int .u64 (W : Int) ∧ wr = w) (fun i _ _ _ => N - (intOf i).toNat)
  case atStart => exact ⟨0, 1, by omega, rfl, rfl, rfl, rfl, rfl⟩
  case round =>
    obtain ⟨k, W, hk, hW, rfl, rfl, rfl, rfl⟩ := hrel
    by_cases hlt : k < N
    · have hd : decide ((k : Int) < (N : Int)) = true := by simp; omega
      have hkl : k < l.length := by omega
      have hnt := numL_take l k hkl
      have hcell : (l.map VB)[k]? = some (VB l[k]) := by rw [List.getElem?_map, List.getElem?_eq_getElem hkl]; rfl
      have h1 := numL_lt64 (l.take (k + 1)) (by rw [List.length_take]; omega)
      have hW2 : W = 256 ^ k := by
        rw [hW, Nat.mod_eq_of_lt]
        have h2 : 256 ^ k ≤ 256 ^ 7 := Nat.pow_le_pow_right (by decide) (by omega)
        have e7 : (256 : Nat) ^ 7 = 72057594037927936 := by decide
        omega
      rw [← hW2] at hnt
      obtain ⟨c, hc⟩ : ∃ c, l[k] = c := ⟨_, rfl⟩
      rw [hc] at hnt hcell
      have hcl := c.toNat_lt
      have hmul : c.toNat * W % 18446744073709551616 = c.toNat * W := Nat.mod_eq_of_lt (by omega)
      have hadd : (numL (l.take k) + c.toNat * W) % 18446744073709551616 = numL (l.take (k + 1)) := by rw [← hnt]; exact Nat.mod_eq_of_lt h1
      have hW3 : W * 256 % 18446744073709551616 = 256 ^ (k + 1) % 18446744073709551616 := by rw [hW2, Nat.pow_succ]
      obtain ⟨cW, hcW⟩ : ∃ cW, c.toNat * W = cW := ⟨_, rfl⟩
      rw [hcW] at hmul hadd
      obtain ⟨n1, hn1⟩ : ∃ n1, numL (l.take (k + 1)) = n1 := ⟨_, rfl⟩
      obtain ⟨n0, hn0⟩ : ∃ n0, numL (l.take k) = n0 := ⟨_, rfl⟩
      obtain ⟨V, hV⟩ : ∃ V, W * 256 % 18446744073709551616 = V := ⟨_, rfl⟩
      rw [hn0, hn1] at hadd
      rw [hn0]
      rw [← hcW] at hmul
      clear h1 hnt hW2 hW
      go_wp2_with (first
        | ((with_reducible change wpList _ _ _ (Oper.mk (some 10) _ _ _ _ _ :: _) _ _); refine kLssI _ _ _ _ .i64 (k : Int) (N : Int) true rfl rfl rfl rfl hd ?_; go_frame)
        | ((with_reducible change wpList _ _ _ (Oper.mk (some 11) _ _ _ _ _ :: _) _ _); refine kIndexAddrV _ _ _ _ .i64 v _ (k : Int) k (VB c) rfl rfl rfl hv rfl Tryz.underlying38 info_b8P rfl hcell ?_; intro b hb; go_frame)
        | ((with_reducible change wpList _ _ _ (Oper.mk (some 12) _ _ _ _ _ :: _) _ _); refine kLoadCell _ _ b (VB c) _ rfl rfl rfl hb Tryz.underlying5 rfl ?_; clear hb; go_frame)
        | ((with_reducible change wpList _ _ _ (Oper.mk (some 15) _ _ _ _ _ :: _) _ _); refine kConvB8 _ c.toNat hcl rfl rfl rfl ?_; go_frame)
        | ((with_reducible change wpList _ _ _ (Oper.mk (some 17) _ _ _ _ _ :: _) _ _); refine kMulU _ _ _ _ c.toNat W cW (hmul.trans hcW) rfl rfl rfl rfl ?_; go_frame)
        | ((with_reducible change wpList _ _ _ (Oper.mk (some 18) _ _ _ _ _ :: _) _ _); refine kAddUP _ _ _ _ n0 cW n1 hadd rfl rfl rfl rfl ?_; go_frame)
        | ((with_reducible change wpList _ _ _ (Oper.mk (some 20) _ _ _ _ _ :: _) _ _); refine kMulU _ _ _ _ W 256 V hV rfl rfl rfl rfl ?_; go_frame)
        | ((with_reducible change wpList _ _ _ (Oper.mk (some 21) _ _ _ _ _ :: _) _ _); refine kAddI _ _ _ _ (k : Int) 1 ((k + 1 : Nat) : Int) (by omega) rfl rfl rfl rfl ?_; go_frame))
      go_roundw
      case rel => exact ⟨k + 1, V, by omega, by rw [← hV, hW3], rfl, by rw [hn1], rfl, trivial⟩
      case measure => simp [intOf]; omega
    · have hd : decide ((k : Int) < (N : Int)) = false := by simp; omega
      have hT : l.take k = l := List.take_of_length_le (by omega)
      rw [hT]
      go_wp2_with (first
        | ((with_reducible change wpList _ _ _ (Oper.mk (some 10) _ _ _ _ _ :: _) _ _); refine kLssI _ _ _ _ .i64 (k : Int) (N : Int) false rfl rfl rfl rfl hd ?_; go_frame))
      go_ret
      exact ⟨rfl, rfl⟩
end Go.Proofs.YtmfjgehlkbndjaaGreatDoor

/-
  Layer 6: readers in memory, and the walks of New, Left, Err, take and Raw.
-/
namespace Go.Proofs.YtmfjgehlkbndjaaGreatDoor
open Go Go.RowKit
variable {Lm : Nat}

/-- the next n bytes, where there are so many -/
def takeS (s : Scn) (n : Nat) : List UInt8 × Scn :=
  if s.err ≠ 0 then ([], s) else if s.rest.length < n then ([], ⟨s.rest, 61⟩) else (s.rest.take n, ⟨s.rest.drop n, 0⟩)
theorem takeS_bad {s : Scn} (h : s.err ≠ 0) (n : Nat) : takeS s n = ([], s) := by unfold takeS; rw [if_pos h]
theorem takeS_short {s : Scn} {n : Nat} (h : s.err = 0) (hn : s.rest.length < n) : takeS s n = ([], ⟨s.rest, 61⟩) := by unfold takeS; rw [if_neg (by simp [h]), if_pos hn]
theorem takeS_some {s : Scn} {n : Nat} (h : s.err = 0) (hn : n ≤ s.rest.length) : takeS s n = (s.rest.take n, ⟨s.rest.drop n, 0⟩) := by unfold takeS; rw [if_neg (by simp [h]), if_neg (by omega)]
theorem rawS_take (s : Scn) (n : Nat) : rawS s (n : Int) = takeS s n := by
  unfold rawS takeS
  by_cases h : s.err ≠ 0
  · rw [if_pos (.inl h), if_pos h]
  · rw [if_neg h]
    have h0 : s.err = 0 := by omega
    by_cases hn : n = 0
    · subst hn
      rw [if_pos (.inr (by decide)), if_neg (by omega)]
      cases s; simp_all
    · rw [if_neg (by omega), Int.toNat_natCast]
      by_cases hl : s.rest.length < n
      · rw [if_pos (by omega), if_pos hl]
      · rw [if_neg (by omega), if_neg hl]
theorem rawS_low {s : Scn} {z : Int} (h : z < 1) : rawS s z = ([], s) := by unfold rawS; rw [if_pos (.inr h)]
theorem fixedS_take (s : Scn) (z : Int) : fixedS s z = (numL (takeS s (clampS z)).1, (takeS s (clampS z)).2) := by unfold fixedS; rw [rawS_take]
theorem takeS_len (s : Scn) (n : Nat) : (takeS s n).1.length ≤ n := by
  unfold takeS; split
  · exact Nat.zero_le _
  · split
    · exact Nat.zero_le _
    · rw [List.length_take]; omega

theorem readerF0 : ∃ f fs, Tryz.prog.underlying 97 = some (.struct fs) ∧ fs[0]? = some f ∧ f.offset = 0 ∧ (Tryz.prog.info? f.type).map (·.size) = some (0 + 1) := ⟨_, _, Tryz.underlying97, rfl, rfl, by kernel_rfl⟩
theorem readerF1 : ∃ f fs, Tryz.prog.underlying 97 = some (.struct fs) ∧ fs[1]? = some f ∧ f.offset = 1 ∧ (Tryz.prog.info? f.type).map (·.size) = some (0 + 1) := ⟨_, _, Tryz.underlying97, rfl, rfl, by kernel_rfl⟩
theorem scanF0 : ∃ f fs, Tryz.prog.underlying 89 = some (.struct fs) ∧ fs[0]? = some f ∧ f.offset = 0 ∧ (Tryz.prog.info? f.type).map (·.size) = some (0 + 1) := ⟨_, _, Tryz.underlying89, rfl, rfl, by kernel_rfl⟩
theorem scanF1 : ∃ f fs, Tryz.prog.underlying 89 = some (.struct fs) ∧ fs[1]? = some f ∧ f.offset = 1 ∧ (Tryz.prog.info? f.type).map (·.size) = some (0 + 1) := ⟨_, _, Tryz.underlying89, rfl, rfl, by kernel_rfl⟩
theorem info_errno : (Tryz.prog.info? 35).map (·.size) = some 1 := by kernel_rfl
theorem info_intP : (Tryz.prog.info? 3).map (·.size) = some 1 := by kernel_rfl
theorem built_reader0 (ao : Option Addr) (n c : Nat) : Tryz.prog.built 97 [(0, .slice ao n c)] = some #[.slice ao n c, .int .i64 0] := by kernel_rfl
theorem built_reader {w : World} {v : Value} {l : List Value} (h : IsVals w v l) : Tryz.prog.built 97 [(0, v)] = some #[v, .int .i64 0] := by obtain ⟨ao, c, rfl, _⟩ := h; exact built_reader0 _ _ _
section
variable {ops : Array Oper} {Q : Exit → Act → World → Prop} {rest : List Oper} {o : Oper} {a : Act} {w : World}
theorem kR0 (x : Operand) (b : Nat) (ho : o.op = .fieldAddr 97 x 0) (hg : Region.wanted o (yielded ops a.tmps) = true) (hx : a.eval x = .pointer (some ⟨b, 0, none⟩)) (h : wpList Tryz.prog ops Q rest (a.put o.dst (.pointer (some ⟨b, 0, none⟩))) w) : wpList Tryz.prog ops Q (o :: rest) a w := by
  obtain ⟨f, fs, h1, h2, h3, h4⟩ := readerF0
  have e : 0 + 0 = 0 := by decide
  exact kFieldAt _ x 0 0 0 fs f b 0 ho hg hx h1 h2 h3 h4 (by rw [e]; exact h)
theorem kR1 (x : Operand) (b : Nat) (ho : o.op = .fieldAddr 97 x 1) (hg : Region.wanted o (yielded ops a.tmps) = true) (hx : a.eval x = .pointer (some ⟨b, 0, none⟩)) (h : wpList Tryz.prog ops Q rest (a.put o.dst (.pointer (some ⟨b, 1, none⟩))) w) : wpList Tryz.prog ops Q (o :: rest) a w := by
  obtain ⟨f, fs, h1, h2, h3, h4⟩ := readerF1
  have e : 0 + 1 = 1 := by decide
  exact kFieldAt _ x 1 0 1 fs f b 0 ho hg hx h1 h2 h3 h4 (by rw [e]; exact h)
theorem kS0 (x : Operand) (b : Nat) (ho : o.op = .fieldAddr 89 x 0) (hg : Region.wanted o (yielded ops a.tmps) = true) (hx : a.eval x = .pointer (some ⟨b, 0, none⟩)) (h : wpList Tryz.prog ops Q rest (a.put o.dst (.pointer (some ⟨b, 0, none⟩))) w) : wpList Tryz.prog ops Q (o :: rest) a w := by
  obtain ⟨f, fs, h1, h2, h3, h4⟩ := scanF0
  have e : 0 + 0 = 0 := by decide
  exact kFieldAt _ x 0 0 0 fs f b 0 ho hg hx h1 h2 h3 h4 (by rw [e]; exact h)
theorem kS1 (x : Operand) (b : Nat) (ho : o.op = .fieldAddr 89 x 1) (hg : Region.wanted o (yielded ops a.tmps) = true) (hx : a.eval x = .pointer (some ⟨b, 0, none⟩)) (h : wpList Tryz.prog ops Q rest (a.put o.dst (.pointer (some ⟨b, 1, none⟩))) w) : wpList Tryz.prog ops Q (o :: rest) a w := by
  obtain ⟨f, fs, h1, h2, h3, h4⟩ := scanF1
  have e : 0 + 1 = 1 := by decide
  exact kFieldAt _ x 1 0 1 fs f b 0 ho hg hx h1 h2 h3 h4 (by rw [e]; exact h)
theorem kBuildReader (x : Operand) (v : Value) {l : List Value} (hv : IsVals w v l) (ho : o.op = .build 97 #[(0, x)]) (hg : Region.wanted o (yielded ops a.tmps) = true) (hx : a.eval x = v) (h : wpList Tryz.prog ops Q rest (a.put o.dst (.agg #[v, .int .i64 0])) w) : wpList Tryz.prog ops Q (o :: rest) a w :=
  kBuildAny _ _ #[(0, v)] _ ho hg (by simp [hx]) (built_reader hv) h
end
theorem vals_one {w : World} {v : Value} {l : List Value} (h : IsVals w v l) : v.oneCell' = true := by obtain ⟨ao, c, rfl, _⟩ := h; rfl
/-- a reader's row that is written -/
theorem rd_put {T : TypeId} {w w1 : World} {g : Nat} {s t : Scn} {v : Value} {e : Int} (h : Rd Lm T w g s) (hr : Row w1 g T #[v, .int .i64 e]) (hw : Wrote g w w1) (hv : IsVals w v (t.rest.map VB)) (he : e = (t.err : Int)) (hL : LimR Lm v t.rest) : Rd Lm T w1 g t :=
  ⟨v, by rw [← he]; exact hr, (exc_wrote hw).vals h hv, hL⟩
/-- an answer of bytes, and what became of the reader -/
def TakePost (Lm : Nat) (T : TypeId) (g : Nat) (w : World) (p : List UInt8 × Scn) (e : Ending) (w' : World) : Prop := ∃ v, e = .returned v ∧ IsVals w' v (p.1.map VB) ∧ Rd Lm T w' g p.2 ∧ Exc g w w'
/-- .. in new memory -/
def RawPost (Lm : Nat) (T : TypeId) (g : Nat) (w : World) (p : List UInt8 × Scn) (e : Ending) (w' : World) : Prop := ∃ v, e = .returned v ∧ OwnB w' w.heap.size v p.1 ∧ Rd Lm T w' g p.2 ∧ Exc g w w'
theorem RawPost.take {T : TypeId} {g : Nat} {w : World} {p : List UInt8 × Scn} (e : Ending) (w' : World) (h : RawPost Lm T g w p e w') : TakePost Lm T g w p e w' := by
  obtain ⟨v, h1, h2, h3⟩ := h
  exact ⟨v, h1, h2.vals, h3⟩
theorem Exc.size {g : Nat} {w w' : World} (h : Exc g w w') : w.heap.size ≤ w'.heap.size := by have h2 : w.grownBy w' (some g) := h; exact h2.size
theorem Exc.own {g b : Nat} {w w' : World} {v : Value} {l : List UInt8} (h : Exc g w w') (ho : OwnB w b v l) (hg : g < b) : OwnB w' b v l := by
  have h2 : w.grownBy w' (some g) := h
  refine World.ownsRow.kept ho h2 (.inr fun e => ?_)
  have := (ho.lt g e).1
  omega
/-- an answer of a number, and what became of the reader -/
def PNumPost (Lm : Nat) (T : TypeId) (g : Nat) (w : World) (p : Nat × Scn) (e : Ending) (w' : World) : Prop := e = .returned (.int .u64 (p.1 : Int)) ∧ Rd Lm T w' g p.2 ∧ Exc g w w'
/-- a new reader -/
def PNewPost (w : World) (l : List UInt8) (e : Ending) (w' : World) : Prop := ∃ g, e = .returned (.pointer (some ⟨g, 0, none⟩)) ∧ w.heap.size ≤ g ∧ Rd w'.heap.size 97 w' g ⟨l, 0⟩ ∧ Below w.heap.size w w'
set_option maxRecDepth 100000 in
set_option maxHeartbeats 8000000 in
theorem pcNew_any {l : List UInt8} {v : Value} (w : World) (hv : IsVals w v (l.map VB)) (hl : l.length ≤ 1000000) : Calls Tryz.prog 30 #[v] w (PNewPost w l) := by
  go_enter Tryz.func30, Tryz.ntmps30
  go_wp2_with (first
    | (go_at_call 54; refine (bClone_any _ hv hl).mono ?_; rintro e w1 ⟨v1, rfl, hO1, hB1⟩; have hV1 := hO1.vals; have hL1 : LimR w1.heap.size v1 l := (fun _ => lim_own hO1); clear hO1; go_frame)
    | ((with_reducible change wpList _ _ _ (Oper.mk (some 5) _ _ _ _ _ :: _) _ _); refine kBuildReader _ v1 hV1 rfl rfl rfl ?_; go_frame)
    | ((with_reducible change wpList _ _ _ (Oper.mk (some 6) _ _ _ _ _ :: _) _ _); refine kBox _ _ _ rfl rfl rfl ?_; intro w2 hR2 hz2 hB2; clear hz2; have hV2 := hV1.below hB2; have hL2 := hL1.mono hB2.size; have hsz := hB1.size; have hB3 := hB1.trans (hB2.mono hsz); clear hV1 hB1 hB2; go_frame))
  go_ret
  exact ⟨_, rfl, hsz, ⟨_, hR2, hV2, hL2⟩, hB3⟩
set_option maxRecDepth 100000 in
set_option maxHeartbeats 8000000 in
theorem rdLeft_any {s : Scn} {g n : Nat} (w : World) (h : Rd Lm 97 w g s) (hn : s.rest.length = n) : Calls Tryz.prog 58 #[.pointer (some ⟨g, 0, none⟩)] w fun e w' => e = .returned (.int .i64 (n : Int)) ∧ w' = w := by
  obtain ⟨v, hR, hV, hL⟩ := h
  go_enter Tryz.func58, Tryz.ntmps58
  go_wp2_with (first
    | ((with_reducible change wpList _ _ _ (Oper.mk (some 5) _ _ _ _ _ :: _) _ _); refine kR0 _ g rfl rfl rfl ?_; go_frame)
    | ((with_reducible change wpList _ _ _ (Oper.mk (some 6) _ _ _ _ _ :: _) _ _); refine kLoad1 _ _ _ g 0 _ v _ rfl rfl rfl hR Tryz.underlying38 rfl rfl ?_; go_frame)
    | ((with_reducible change wpList _ _ _ (Oper.mk (some 7) _ _ _ _ _ :: _) _ _); refine kLenN _ _ _ v _ n rfl rfl rfl hV (by rw [List.length_map, hn]) Tryz.underlying38 ?_; go_frame))
  go_ret
  exact ⟨rfl, rfl⟩
set_option maxRecDepth 100000 in
set_option maxHeartbeats 8000000 in
theorem rdErr_any {s : Scn} {g n : Nat} (w : World) (h : Rd Lm 97 w g s) (hn : s.err = n) : Calls Tryz.prog 57 #[.pointer (some ⟨g, 0, none⟩)] w fun e w' => e = .returned (.int .i64 (n : Int)) ∧ w' = w := by
  obtain ⟨v, hR, hV, hL⟩ := h
  rw [hn] at hR
  go_enter Tryz.func57, Tryz.ntmps57
  go_wp2_with (first
    | ((with_reducible change wpList _ _ _ (Oper.mk (some 5) _ _ _ _ _ :: _) _ _); refine kR1 _ g rfl rfl rfl ?_; go_frame)
    | ((with_reducible change wpList _ _ _ (Oper.mk (some 6) _ _ _ _ _ :: _) _ _); refine kLoad1 _ _ _ g 1 _ (.int .i64 (n : Int)) _ rfl rfl rfl hR Tryz.underlying35 rfl rfl ?_; go_frame))
  go_ret
  exact ⟨rfl, rfl⟩
set_option maxRecDepth 100000 in
set_option maxHeartbeats 8000000 in
theorem rdTake_any {s : Scn} {g n : Nat} (w : World) (h : Rd Lm 97 w g s) : Calls Tryz.prog 90 #[.pointer (some ⟨g, 0, none⟩), .int .i64 (n : Int)] w (TakePost Lm 97 g w (takeS s n)) := by
  have h0 := h
  obtain ⟨v, hR, hV, hL⟩ := h
  obtain ⟨m, hm⟩ : ∃ m, s.rest.length = m := ⟨_, rfl⟩
  obtain ⟨E, hE⟩ : ∃ E, s.err = E := ⟨_, rfl⟩
  rw [hE] at hR
  by_cases he : E ≠ 0
  · rw [takeS_bad (by rw [hE]; exact he)]
    have hd : (!decide ((E : Int) = 0)) = true := by simp; exact he
    go_enter Tryz.func90, Tryz.ntmps90
    go_wp2_with (first
      | ((with_reducible change wpList _ _ _ (Oper.mk (some 8) _ _ _ _ _ :: _) _ _); refine kR1 _ g rfl rfl rfl ?_; go_frame)
      | ((with_reducible change wpList _ _ _ (Oper.mk (some 9) _ _ _ _ _ :: _) _ _); refine kLoad1 _ _ _ g 1 _ (.int .i64 (E : Int)) _ rfl rfl rfl hR Tryz.underlying35 rfl rfl ?_; go_frame)
      | ((with_reducible change wpList _ _ _ (Oper.mk (some 10) _ _ _ _ _ :: _) _ _); refine kNeqI _ _ _ _ .i64 (E : Int) 0 true rfl rfl rfl rfl hd ?_; go_frame))
    go_ret
    exact ⟨_, rfl, isVals_nil _, h0, exc_refl _ _⟩
  have he0 : E = 0 := by omega
  have hd : (!decide ((E : Int) = 0)) = false := by simp; exact he0
  by_cases hn : m < n
  · rw [takeS_short (by rw [hE]; exact he0) (by omega)]
    have hg2 : decide ((n : Int) > (m : Int)) = true := by simp; omega
    clear he0 he
    go_enter Tryz.func90, Tryz.ntmps90
    go_wp2_with (first
      | ((with_reducible change wpList _ _ _ (Oper.mk (some 8) _ _ _ _ _ :: _) _ _); refine kR1 _ g rfl rfl rfl ?_; go_frame)
      | ((with_reducible change wpList _ _ _ (Oper.mk (some 9) _ _ _ _ _ :: _) _ _); refine kLoad1 _ _ _ g 1 _ (.int .i64 (E : Int)) _ rfl rfl rfl hR Tryz.underlying35 rfl rfl ?_; go_frame)
      | ((with_reducible change wpList _ _ _ (Oper.mk (some 10) _ _ _ _ _ :: _) _ _); refine kNeqI _ _ _ _ .i64 (E : Int) 0 false rfl rfl rfl rfl hd ?_; go_frame)
      | ((with_reducible change wpList _ _ _ (Oper.mk (some 14) _ _ _ _ _ :: _) _ _); refine kR0 _ g rfl rfl rfl ?_; go_frame)
      | ((with_reducible change wpList _ _ _ (Oper.mk (some 15) _ _ _ _ _ :: _) _ _); refine kLoad1 _ _ _ g 0 _ v _ rfl rfl rfl hR Tryz.underlying38 rfl rfl ?_; go_frame)
      | ((with_reducible change wpList _ _ _ (Oper.mk (some 16) _ _ _ _ _ :: _) _ _); refine kLenN _ _ _ v _ m rfl rfl rfl hV (by rw [List.length_map, hm]) Tryz.underlying38 ?_; go_frame)
      | ((with_reducible change wpList _ _ _ (Oper.mk (some 17) _ _ _ _ _ :: _) _ _); refine kGtrI _ _ _ _ .i64 (n : Int) (m : Int) true rfl rfl rfl rfl hg2 ?_; go_frame)
      | ((with_reducible change wpList _ _ _ (Oper.mk (some 20) _ _ _ _ _ :: _) _ _); refine kR1 _ g rfl rfl rfl ?_; go_frame)
      | ((with_reducible change wpList _ _ _ (Oper.mk none _ _ _ _ _ :: _) _ _); refine kStore1 _ _ _ _ g 1 _ (.int .i64 61) rfl rfl rfl rfl hR info_errno (show 1 < 2 by decide) rfl ?_; intro w1 hR1 hW1; go_frame))
    go_ret
    exact ⟨_, rfl, isVals_nil _, rd_put (t := ⟨s.rest, 61⟩) h0 hR1 hW1 hV rfl hL, exc_wrote hW1⟩
  · rw [takeS_some (by rw [hE]; exact he0) (by omega)]
    have hg2 : decide ((n : Int) > (m : Int)) = false := by simp; omega
    have hnl : n ≤ s.rest.length := by omega
    have HE := Lib.hid he0
    clear he0 he
    go_enter Tryz.func90, Tryz.ntmps90
    go_wp2_with (first
      | ((with_reducible change wpList _ _ _ (Oper.mk (some 8) _ _ _ _ _ :: _) _ _); refine kR1 _ g rfl rfl rfl ?_; go_frame)
      | ((with_reducible change wpList _ _ _ (Oper.mk (some 9) _ _ _ _ _ :: _) _ _); refine kLoad1 _ _ _ g 1 _ (.int .i64 (E : Int)) _ rfl rfl rfl hR Tryz.underlying35 rfl rfl ?_; go_frame)
      | ((with_reducible change wpList _ _ _ (Oper.mk (some 10) _ _ _ _ _ :: _) _ _); refine kNeqI _ _ _ _ .i64 (E : Int) 0 false rfl rfl rfl rfl hd ?_; go_frame)
      | ((with_reducible change wpList _ _ _ (Oper.mk (some 14) _ _ _ _ _ :: _) _ _); refine kR0 _ g rfl rfl rfl ?_; go_frame)
      | ((with_reducible change wpList _ _ _ (Oper.mk (some 15) _ _ _ _ _ :: _) _ _); refine kLoad1 _ _ _ g 0 _ v _ rfl rfl rfl hR Tryz.underlying38 rfl rfl ?_; go_frame)
      | ((with_reducible change wpList _ _ _ (Oper.mk (some 16) _ _ _ _ _ :: _) _ _); refine kLenN _ _ _ v _ m rfl rfl rfl hV (by rw [List.length_map, hm]) Tryz.underlying38 ?_; go_frame)
      | ((with_reducible change wpList _ _ _ (Oper.mk (some 17) _ _ _ _ _ :: _) _ _); refine kGtrI _ _ _ _ .i64 (n : Int) (m : Int) false rfl rfl rfl rfl hg2 ?_; go_frame)
      | ((with_reducible change wpList _ _ _ (Oper.mk (some 23) _ _ _ _ _ :: _) _ _); refine kR0 _ g rfl rfl rfl ?_; go_frame)
      | ((with_reducible change wpList _ _ _ (Oper.mk (some 24) _ _ _ _ _ :: _) _ _); refine kLoad1 _ _ _ g 0 _ v _ rfl rfl rfl hR Tryz.underlying38 rfl rfl ?_; go_frame)
      | ((with_reducible change wpList _ _ _ (Oper.mk (some 26) _ _ _ _ _ :: _) _ _); refine kSliceTo _ _ v s.rest n hV hnl rfl rfl rfl rfl ?_; intro hT; go_frame)
      | ((with_reducible change wpList _ _ _ (Oper.mk (some 30) _ _ _ _ _ :: _) _ _); refine kR0 _ g rfl rfl rfl ?_; go_frame)
      | ((with_reducible change wpList _ _ _ (Oper.mk (some 31) _ _ _ _ _ :: _) _ _); refine kLoad1 _ _ _ g 0 _ v _ rfl rfl rfl hR Tryz.underlying38 rfl rfl ?_; go_frame)
      | ((with_reducible change wpList _ _ _ (Oper.mk (some 33) _ _ _ _ _ :: _) _ _); refine kSliceFromB _ _ v s.rest n hV hnl rfl rfl rfl rfl ?_; intro hF; go_frame)
      | ((with_reducible change wpList _ _ _ (Oper.mk (some 35) _ _ _ _ _ :: _) _ _); refine kR0 _ g rfl rfl rfl ?_; go_frame)
      | ((with_reducible change wpList _ _ _ (Oper.mk none _ _ _ _ _ :: _) _ _); refine kStore1 _ _ _ _ g 0 _ (fromV v n) rfl rfl rfl rfl hR info_bytesP (show 0 < 2 by decide) (vals_one hF) ?_; intro w1 hR1 hW1; go_frame))
    go_ret
    exact ⟨_, rfl, (exc_wrote hW1).vals h0 hT, rd_put (t := ⟨s.rest.drop n, 0⟩) h0 hR1 hW1 hF (by rw [HE.out]) (hL.from n), exc_wrote hW1⟩
set_option maxRecDepth 100000 in
set_option maxHeartbeats 8000000 in
theorem rdRaw_own {s : Scn} {g : Nat} {z : Int} (w : World) (h : Rd Lm 97 w g s) (hs : s.rest.length ≤ 1000000) : Calls Tryz.prog 92 #[.pointer (some ⟨g, 0, none⟩), .int .i64 z] w (RawPost Lm 97 g w (rawS s z)) := by
  by_cases hz : z < 1
  · rw [rawS_low hz]
    have hd : decide (z < 1) = true := by simp; omega
    go_enter Tryz.func92, Tryz.ntmps92
    go_wp2_with (first
      | ((with_reducible change wpList _ _ _ (Oper.mk (some 6) _ _ _ _ _ :: _) _ _); refine kLssI _ _ _ _ .i64 z 1 true rfl rfl rfl rfl hd ?_; go_frame))
    go_ret
    exact ⟨_, rfl, ownB_nil _ _, h, exc_refl _ _⟩
  · have hd : decide (z < 1) = false := by simp; omega
    obtain ⟨n, rfl⟩ : ∃ n : Nat, z = (n : Int) := ⟨z.toNat, by omega⟩
    rw [rawS_take]
    have hlen : (takeS s n).1.length ≤ 1000000 := by
      unfold takeS; split
      · exact Nat.zero_le _
      · split
        · exact Nat.zero_le _
        · rw [List.length_take]; omega
    have htk := rdTake_any (n := n) w h
    generalize takeS s n = p at *
    go_enter Tryz.func92, Tryz.ntmps92
    go_wp2_with (first
      | ((with_reducible change wpList _ _ _ (Oper.mk (some 6) _ _ _ _ _ :: _) _ _); refine kLssI _ _ _ _ .i64 (n : Int) 1 false rfl rfl rfl rfl hd ?_; go_frame)
      | (go_at_call 90; refine (htk).mono ?_; rintro e w1 ⟨v1, rfl, hV1, hR1, hX1⟩; clear htk; go_frame)
      | (go_at_call 54; refine (bClone_any _ hV1 hlen).mono ?_; rintro e w2 ⟨v2, rfl, hO2, hB2⟩; go_frame))
    go_ret
    exact ⟨_, rfl, own_less hX1.size hO2, hR1.below hB2, hX1.trans (exc_below g hB2)⟩
theorem rdRaw_any {s : Scn} {g : Nat} {z : Int} (w : World) (h : Rd Lm 97 w g s) (hs : s.rest.length ≤ 1000000) : Calls Tryz.prog 92 #[.pointer (some ⟨g, 0, none⟩), .int .i64 z] w (TakePost Lm 97 g w (rawS s z)) := (rdRaw_own w h hs).mono RawPost.take
end Go.Proofs.YtmfjgehlkbndjaaGreatDoor

/-
  Layer 6: a range over a slice's bytes, the last first, and the walk of the Reader's Fixed.
-/
namespace Go.Proofs.YtmfjgehlkbndjaaGreatDoor
open Go Go.RowKit Go.Shelf
variable {Lm : Nat}

attribute [local go_sem] Oper.semAt_some

/-- of what lay below N all is as it was, but for the block B -/
structure Kx (N B : Nat) (w w' : World) : Prop where
  os : w'.os = w.os
  tape : w'.tape = w.tape
  output : w'.output = w.output
  size : w.heap.size ≤ w'.heap.size
  block : ∀ k, k < N → k ≠ B → w'.heap[k]? = w.heap[k]?
theorem Kx.refl (N B : Nat) (w : World) : Kx N B w w := ⟨rfl, rfl, rfl, Nat.le_refl _, fun _ _ _ => rfl⟩
theorem Kx.trans {N B : Nat} {a b c : World} (h : Kx N B a b) (k : Kx N B b c) : Kx N B a c :=
  ⟨k.os.trans h.os, k.tape.trans h.tape, k.output.trans h.output, Nat.le_trans h.size k.size, fun i hi hne => (k.block i hi hne).trans (h.block i hi hne)⟩
theorem Kx.cell {N B : Nat} {w w' : World} (h : Kx N B w w') {a : Addr} (ha : a.block < N) (hne : a.block ≠ B) : w'.cell? a = w.cell? a := World.cell?_of_block (h.block _ ha hne)
theorem Kx.grown {N B : Nat} {w a b : World} {row : Option Nat} (h : Kx N B w a) (hN : N ≤ a.heap.size) (hg : a.grownBy b row) (hr : ∀ r, row = some r → N ≤ r) : Kx N B w b :=
  h.trans ⟨hg.os, hg.tape, hg.output, hg.size, fun k hk _ => hg.block k (by omega) fun e => by have := hr k e.symm; omega⟩
theorem Kx.set (N B : Nat) (w : World) (v : Value) : Kx N B w (w.setCell ⟨B, 0, none⟩ v) :=
  ⟨rfl, rfl, rfl, by simp, fun k _ hne => heap_setCell_other _ _ _ _ hne⟩
theorem kx_own {β : Type} {N B : Nat} {w : World} (hN : N ≤ w.heap.size) : OwnFrom N (fun (_ : β) W => Kx N B w W) :=
  fun _ _ _ _ hs hg hr => hs.grown (Nat.le_trans hN hs.size) hg fun r e => (hr r e).1
theorem boxed_ownP {β : Type} {N B : Nat} {t : TypeId} {f : β → Value} (hB : B < N) : OwnFrom N (fun (s : β) W => Boxed W B t (f s)) :=
  fun s _ _ _ hs hg hr => hs.kept hg fun e => by have := (hr B e.symm).1; omega

/-- what has come when k rounds are over -/
def backTo6 (l : List UInt8) (k : Nat) : List (Nat × UInt8) := (List.range k).map fun t => (l.length - 1 - t, l[l.length - 1 - t]?.getD 0)
theorem backTo6_succ (l : List UInt8) (k : Nat) : backTo6 l (k + 1) = backTo6 l k ++ [(l.length - 1 - k, l[l.length - 1 - k]?.getD 0)] := by simp [backTo6, List.range_succ]
theorem backTo6_len (l : List UInt8) (k : Nat) : (backTo6 l k).length = k := by simp [backTo6]
/-- the number that is gathered -/
def gath (xs : List (Nat × UInt8)) : Nat := xs.foldl (fun n x => n * 256 % 18446744073709551616 + x.2.toNat) 0
theorem gath_snoc (xs : List (Nat × UInt8)) (x : Nat × UInt8) : gath (xs ++ [x]) = gath xs * 256 % 18446744073709551616 + x.2.toNat := by simp [gath]
theorem numL_drop (l : List UInt8) (j : Nat) (hj : j < l.length) : numL (l.drop j) = l[j].toNat + 256 * numL (l.drop (j + 1)) := by
  rw [List.drop_eq_getElem_cons hj]; rfl
theorem gath_back (l : List UInt8) (hl : l.length ≤ 8) : ∀ k, k ≤ l.length → gath (backTo6 l k) = numL (l.drop (l.length - k))
  | 0, _ => by simp [backTo6, gath, numL]
  | k + 1, hk => by
    have ih := gath_back l hl k (by omega)
    have hj : l.length - 1 - k < l.length := by omega
    have e1 : l.length - (k + 1) = l.length - 1 - k := by omega
    have e2 : l.length - 1 - k + 1 = l.length - k := by omega
    have hlt : numL (l.drop (l.length - k)) < 72057594037927936 := by
      have h1 := numL_lt (l.drop (l.length - k))
      have h2 : 256 ^ (l.drop (l.length - k)).length ≤ 256 ^ 7 := Nat.pow_le_pow_right (by decide) (by rw [List.length_drop]; omega)
      have e7 : (256 : Nat) ^ 7 = 72057594037927936 := by decide
      omega
    rw [backTo6_succ, gath_snoc, ih, e1, numL_drop l _ hj, e2, List.getElem?_eq_getElem hj, Option.getD_some]
    dsimp only
    omega
theorem gath_all (l : List UInt8) (hl : l.length ≤ 8) : gath (backTo6 l l.length) = numL l := by
  rw [gath_back l hl _ (Nat.le_refl _), Nat.sub_self, List.drop_zero]
/-- bytes that are there lie in a row -/
theorem vals_atP {w : World} {l : List UInt8} {ao : Option Addr} {n c : Nat} (h : IsVals w (.slice ao n c) (l.map VB)) (hl : l ≠ []) : ∃ b off, ao = some ⟨b, off, none⟩ ∧ ∀ j, j < l.length → w.cell? ⟨b, off + j, none⟩ = some (VB (l[j]?.getD 0)) := by
  obtain ⟨ao', c', e, _, _, hj⟩ := h
  simp only [Value.slice.injEq] at e
  obtain ⟨rfl, rfl, rfl⟩ := e
  have hget : ∀ j, j < l.length → (l.map VB)[j]? = some (VB (l[j]?.getD 0)) := fun j hj => by
    rw [List.getElem?_map, List.getElem?_eq_getElem hj]; rfl
  obtain ⟨a, rfl, h0⟩ := hj 0 _ (hget 0 (List.length_pos_iff.2 hl))
  obtain ⟨b, off, spot⟩ := a
  cases spot with
  | some p =>
    exfalso
    unfold Addr.add at h0
    rw [if_pos rfl] at h0
    unfold World.cell? at h0
    split at h0 <;> simp at h0
  | none =>
    refine ⟨b, off, rfl, fun j hjl => ?_⟩
    obtain ⟨a', e, hc⟩ := hj j _ (hget j hjl)
    cases e
    rw [add_none] at hc; exact hc

set_option maxRecDepth 100000 in
set_option maxHeartbeats 4000000 in
/-- Backward's closure, for every loop body that keeps what lay below N but for its one variable -/
theorem backward1_in (n : Nat) (hn : 1 ≤ n) (lp Bs N B b off len cap : Nat) (l : List UInt8) (hlen : l.length = len) (hl8 : len ≤ 8) (hb : b < N) (hbB : b ≠ B) (hs : Bs < N) (hsB : Bs ≠ B) (J Jx : List (Nat × UInt8) → World → Prop)
    (hY : ∀ pre x W, J pre W → pre.length < len → YieldAt Fence.wide (n - 1) Tryz.prog lp #[.int .i64 (x.1 : Int), VB x.2] W fun e W' =>
      (e = .returned (.bool true) ∧ J (pre ++ [x]) W' ∧ Kx N B W W') ∨ (e = .returned (.bool false) ∧ Jx (pre ++ [x]) W'))
    (W : World) (hBs : W.cell? ⟨Bs, 0, none⟩ = some (.slice (some ⟨b, off, none⟩) len cap)) (hc : ∀ j, j < len → W.cell? ⟨b, off + j, none⟩ = some (VB (l[j]?.getD 0))) (h0 : J [] W) :
    CallsIn Fence.wide n Tryz.prog 114 #[.func (.yield lp) #[] #[], .pointer (some ⟨Bs, 0, none⟩)] W fun e W' => (∃ v, e = .returned v) ∧
      ((∃ ys, ys = backTo6 l len ∧ J ys W') ∨ (∃ pre, True ∧ Jx pre W')) := by
  refine callsIn_of_wp Tryz.func114 rfl trivial ?_ rfl
  simp only [Tryz.ntmps114, List.size_toArray, List.length_cons, List.length_nil, Nat.reduceAdd, Nat.reduceSub, Array.replicate_succ, Array.replicate_zero, List.push_toArray, List.append_toArray, List.nil_append, List.cons_append]
  gi_wp2
  gi_loopw [3] (fun i wr => ∃ j k : Nat, j + k = len ∧ i = .int .i64 ((j : Int) - 1) ∧ J (backTo6 l k) wr ∧ Kx N B W wr)
    (fun i _ => (intOf i + 1).toNat)
  case atStart => exact ⟨len, 0, rfl, by go_num, h0, Kx.refl _ _ _⟩
  case round =>
    obtain ⟨j, k, hjk, rfl, hJs, hx⟩ := hrel
    have hBr : wr.cell? ⟨Bs, 0, none⟩ = some (.slice (some ⟨b, off, none⟩) len cap) := (hx.cell (a := ⟨Bs, 0, none⟩) hs hsB).trans hBs
    cases j with
    | zero =>
      obtain rfl : k = len := by omega
      gi_wp2
      go_end0
      exact ⟨⟨_, rfl⟩, .inl ⟨_, rfl, hJs⟩⟩
    | succ j =>
      have hcx : wr.cell? ⟨b, off + j, none⟩ = some (VB (l[j]?.getD 0)) := (hx.cell (a := ⟨b, off + j, none⟩) hb hbB).trans (hc j (by omega))
      obtain ⟨fn, tmps, assign, body, hy, hR⟩ := hY _ (j, l[j]?.getD 0) wr hJs (by rw [backTo6_len]; omega)
      dsimp only at hy
      have ej : ((j + 1 : Nat) : Int) - 1 = (j : Int) := by omega
      rw [ej]
      have hbk : backTo6 l k ++ [(j, l[j]?.getD 0)] = backTo6 l (k + 1) := by rw [backTo6_succ, show l.length - 1 - k = j by omega]
      rw [hbk] at hR
      gi_wp2
      refine hR.mono ?_
      rintro e W3 (⟨rfl, hJ3, hk3⟩ | ⟨rfl, hJx3⟩)
      · gi_wp2
        go_roundw
        case rel => exact ⟨j, k + 1, by omega, by go_num, hJ3, hx.trans hk3⟩
        case measure => simp [intOf]
      · gi_wp2
        refine bodyPost_ret (results_none rfl _ _ _) rfl ?_
        exact ⟨⟨_, rfl⟩, .inr ⟨_, trivial, hJx3⟩⟩
set_option maxRecDepth 100000 in
set_option maxHeartbeats 4000000 in
/-- .. of no bytes: no round -/
theorem backward1_nil (n : Nat) (lp Bs cap : Nat) (ao : Option Addr) (J : List (Nat × UInt8) → World → Prop) (W : World) (hBs : W.cell? ⟨Bs, 0, none⟩ = some (.slice ao 0 cap)) (h0 : J [] W) :
    CallsIn Fence.wide n Tryz.prog 114 #[.func (.yield lp) #[] #[], .pointer (some ⟨Bs, 0, none⟩)] W fun e W' => (∃ v, e = .returned v) ∧ J [] W' := by
  refine callsIn_of_wp Tryz.func114 rfl trivial ?_ rfl
  simp only [Tryz.ntmps114, List.size_toArray, List.length_cons, List.length_nil, Nat.reduceAdd, Nat.reduceSub, Array.replicate_succ, Array.replicate_zero, List.push_toArray, List.append_toArray, List.nil_append, List.cons_append]
  gi_wp2
  gi_loopw [3] (fun i wr => i = .int .i64 (-1) ∧ J [] wr) (fun _ _ => 0)
  case atStart => exact ⟨by go_num, h0⟩
  case round =>
    obtain ⟨rfl, hJs⟩ := hrel
    gi_wp2
    go_end0
    exact ⟨⟨_, rfl⟩, hJs⟩
set_option maxHeartbeats 4000000 in
/-- Backward: the slice is boxed, the function captures the box -/
theorem backward_any (ao : Option Addr) (len cap : Nat) (w : World) :
    Calls Tryz.prog 89 #[.slice ao len cap] w fun e w' => e = .returned (.func (.func 114) #[] #[.pointer (some ⟨w.heap.size, 0, none⟩)]) ∧ w' = w.alloc (.cells #[.slice ao len cap] 38) := by
  refine (callsIn_wide (n := 9)).1 ?_
  refine callsIn_of_wp Tryz.func89 rfl trivial ?_ rfl
  simp only [Tryz.ntmps89, List.size_toArray, List.length_cons, List.length_nil, Nat.reduceAdd, Nat.reduceSub, Array.replicate_succ, Array.replicate_zero, List.push_toArray, List.append_toArray, List.nil_append, List.cons_append]
  gi_wp2
  go_ret
  exact ⟨rfl, rfl⟩
/-- what Backward hands back goes over the bytes, the last first -/
theorem backward_stops (n : Nat) (hn : 1 ≤ n) (Bs N B : Nat) (ao : Option Addr) (len cap : Nat) (l : List UInt8) (hlen : l.length = len) (hl8 : len ≤ 8) (w : World) (hN : N = w.heap.size) (hs : Bs < N) (hsB : Bs ≠ B)
    (hBc : w.cell? ⟨Bs, 0, none⟩ = some (.slice ao len cap)) (hV : IsVals w (.slice ao len cap) (l.map VB)) (hbB : ∀ b off j c, ao = some ⟨b, off, none⟩ → w.cell? ⟨b, off + j, none⟩ = some (VB c) → b ≠ B) :
    SeqStopsK Fence.wide n Tryz.prog 114 #[.pointer (some ⟨Bs, 0, none⟩)] (fun x : Nat × UInt8 => #[Value.int .i64 (x.1 : Int), VB x.2]) (Kx N B) (fun ys => ys = backTo6 l len) (fun _ => True) len w := fun lp J Jx W hW _ _ hY h0 => by
  have hc' := (hW.cell (p := ⟨Bs, 0, none⟩) (by rw [← hN]; exact hs)).trans hBc
  by_cases hl : l = []
  · subst hl
    obtain rfl : len = 0 := by rw [← hlen]; rfl
    exact (backward1_nil n lp Bs cap ao J W hc' h0).mono fun e W' ⟨he, hj⟩ => ⟨he, .inl ⟨_, rfl, hj⟩⟩
  · obtain ⟨b, off, rfl, hcells⟩ := vals_atP hV hl
    have hb0 := hcells 0 (List.length_pos_iff.2 hl)
    have hbN : b < N := by rw [hN]; exact block_lt_of_cell hb0
    refine backward1_in n hn lp Bs N B b off len cap l hlen hl8 hbN (hbB b off 0 _ rfl hb0) hs hsB J Jx hY W hc' (fun j hj => ?_) h0
    exact (hW.cell (p := ⟨b, off + j, none⟩) (by rw [← hN]; exact hbN)).trans (hcells j (by omega))
/-- a digit more: what was shifted has room for it -/
theorem or_digit (n : Nat) (c : UInt8) : bits .or .u64 ((n * 256 % 18446744073709551616 : Nat) : Int) ((c.toNat : Nat) : Int) = ((n * 256 % 18446744073709551616 + c.toNat : Nat) : Int) := by
  have hc := c.toNat_lt
  have e : n * 256 % 18446744073709551616 = 2 ^ 8 * (n % 72057594037927936) := by omega
  rw [u64_or_nat _ _ (by omega) (by omega), e, Nat.two_pow_add_eq_or_of_lt (by omega)]
theorem or_digit2 (n : Nat) (c : UInt8) : bits .or .u64 ((n : Int) * 256 % 18446744073709551616) (B c) = ((n * 256 % 18446744073709551616 + c.toNat : Nat) : Int) := by
  rw [← or_digit]; unfold B; congr 1
theorem or_digit3 (n : Nat) (c : UInt8) : bits .or .u64 (IntKind.u64.wrap ((n : Int) * 256)) (IntKind.u64.wrap (B c)) = ((n * 256 % 18446744073709551616 + c.toNat : Nat) : Int) := by
  have hc := c.toNat_lt
  rw [← or_digit2, IntKind.wrap_u64, IntKind.wrap_u64, show B c % 18446744073709551616 = B c by unfold B; omega]
theorem boxed_noByte {w : World} {B off j : Nat} {t : TypeId} {m : Int} {c : UInt8} (h : Boxed w B t (.int .u64 m)) (hc : w.cell? ⟨B, off + j, none⟩ = some (VB c)) : False := by
  have h' : w.heap[B]? = some (.cells #[.int .u64 m] t (0, 0)) := h
  unfold World.cell? at hc
  rw [h'] at hc
  rcases ho : off + j with _ | n
  · rw [ho] at hc; simp at hc
  · rw [ho] at hc; simp at hc
theorem boxed_noByte2 {w : World} {B : Nat} {t : TypeId} {m : Int} {c : UInt8} {a : Addr} (h : Boxed w B t (.int .u64 m)) (hc : w.cell? a = some (VB c)) : a.block ≠ B := by
  rintro rfl
  obtain ⟨b, off, spot⟩ := a
  cases spot with
  | none => exact boxed_noByte (off := off) (j := 0) h hc
  | some q => unfold World.cell? at hc; split at hc <;> simp at hc
theorem rd_kx {T : TypeId} {w w' : World} {g B : Nat} {t : TypeId} {m : Int} {s : Scn} (hb : Boxed w B t (.int .u64 m)) (hk : Kx w.heap.size B w w') (hg : g ≠ B) (h : Rd Lm T w g s) : Rd Lm T w' g s := by
  obtain ⟨v, hr, ⟨ao, c, rfl, h1, h2, h3⟩, h4⟩ := h
  refine ⟨_, (hk.block g hr.lt hg).trans hr, ⟨ao, c, rfl, h1, h2, fun j u hu => ?_⟩, h4⟩
  obtain ⟨a, rfl, hc⟩ := h3 j u hu
  obtain ⟨x, -, rfl⟩ : ∃ x, x ∈ s.rest ∧ VB x = u := by simpa using List.mem_of_getElem? hu
  exact ⟨a, rfl, (hk.cell (block_lt_of_cell hc) (boxed_noByte2 hb hc)).trans hc⟩
set_option maxRecDepth 100000 in
set_option maxHeartbeats 8000000 in
theorem rdFixed_any {s : Scn} {g : Nat} {z : Int} (w : World) (h : Rd Lm 97 w g s) : Calls Tryz.prog 55 #[.pointer (some ⟨g, 0, none⟩), .int .i64 z] w (PNumPost Lm 97 g w (fixedS s z)) := by
  rw [fixedS_take]
  have hgw := h.lt
  have hlen : (takeS s (clampS z)).1.length ≤ 8 := Nat.le_trans (takeS_len _ _) (clampS_le z)
  have h1 : Rd Lm 97 (w.alloc (.cells #[.int .u64 0] 77)) g s := h.below ((Below.refl _ w).alloc (Nat.le_refl _) _)
  have htk := rdTake_any (n := clampS z) _ h1
  have hwz := pcWithin_any z
  generalize clampS z = S at *
  generalize takeS s S = p at *
  refine (callsIn_wide (n := 9)).1 ?_
  refine callsIn_of_wp_marks Tryz.func55 rfl trivial ?_ rfl
  simp only [Tryz.ntmps55, List.size_toArray, List.length_cons, List.length_nil, Nat.reduceAdd, Nat.reduceSub, Array.replicate_succ, Array.replicate_zero, List.push_toArray, List.append_toArray, List.nil_append, List.cons_append]
  gi_wp2_with (first
    | (refine ⟨trivial, ?_⟩; gi_at_call 91; refine (callsIn_wide.2 (hwz _)).mono ?_; rintro e w1 ⟨rfl, rfl⟩)
    | (refine ⟨trivial, ?_⟩; gi_at_call 90; refine (callsIn_wide.2 htk).mono ?_; rintro e w2 ⟨v2, rfl, hV2, hR2, hX2⟩; obtain ⟨ao, cap, rfl⟩ := vals_slice hV2)
    | (refine ⟨trivial, ?_⟩; gi_at_call 89; refine (callsIn_wide.2 (backward_any _ _ _ _)).mono ?_; rintro e w3 ⟨rfl, rfl⟩))
  clear htk hwz
  obtain ⟨len, hle⟩ : ∃ len, p.1.length = len := ⟨_, rfl⟩
  rw [hle] at hV2 hlen ⊢
  have hsz2 : w.heap.size < w2.heap.size := by have := hX2.size; rw [World.size_alloc] at this; omega
  have bN : Boxed w2 w.heap.size 77 (.int .u64 0) := (Boxed.new w 77 (.int .u64 0)).kept hX2 (fun e => by cases e; omega)
  have hB23 : Below w2.heap.size w2 (w2.alloc (.cells #[.slice ao len cap] 38)) := (Below.refl _ _).alloc (Nat.le_refl _) _
  have bS := Boxed.new w2 38 (.slice ao len cap)
  have bN3 := bN.alloc (.cells #[.slice ao len cap] 38)
  have hz3 : (w2.alloc (.cells #[.slice ao len cap] 38)).heap.size = w2.heap.size + 1 := World.size_alloc ..
  have hR3 := hR2.below hB23
  have hV3 := hV2.below hB23
  have hX3 := hX2.trans (exc_below g hB23)
  generalize w2.alloc (.cells #[.slice ao len cap] 38) = w3 at *
  clear hB23 bN hR2 hV2 hX2
  refine wpIn_rangeFunc_ownG (F := Fence.wide) rfl (by decide) (gf := 114) (lb := #[.pointer (some ⟨w2.heap.size, 0, none⟩)]) rfl trivial (enters_of Tryz.func114 (by kernel_rfl) rfl)
    (backward_stops (9 - 1) (by decide) w2.heap.size w3.heap.size w.heap.size ao len cap p.1 hle hlen w3 rfl (by omega) (by omega) bS.cell hV3 (fun b off j c _ hc e => by subst e; exact boxed_noByte bN3 hc)) (fun h k => h.trans k)
    (fun W l o o' hl ho _ _ => (Kx.refl _ _ W).grown (by have := (Array.getElem?_eq_some_iff.1 ho).1; omega) (grownBy_putObj' W l o') (fun r e => by cases e; exact hl)) (Below.refl _ _) (fun _ => rfl)
    (fun pre W => Boxed W w.heap.size 77 (.int .u64 (gath pre : Int)) ∧ Kx w3.heap.size w.heap.size w3 W)
    (fun _ _ _ => False)
    (OwnFrom.and (boxed_ownP (f := fun pre => Value.int .u64 (gath pre : Int)) (by omega)) (kx_own (Nat.le_refl _)))
    (fun _ _ _ _ _ hs _ _ => hs)
    ⟨bN3, Kx.refl _ _ _⟩
    (fun x => { tmps := #[.pointer (some ⟨g, 0, none⟩), .int .i64 z, undef, undef, .int .u64 0, .pointer (some ⟨w.heap.size, 0, none⟩), undef, VB x.2, .pointer (some ⟨g, 0, none⟩), .int .i64 z, .int .i64 (S : Int), .slice ao len cap, .func (.func 114) #[] #[.pointer (some ⟨w2.heap.size, 0, none⟩)], .int .i64 (x.1 : Int), VB x.2, undef, undef, undef, undef, undef, undef], defers := [] }) ?assign ?body ?done ?stop
  case assign =>
    intro l x W K hK
    gi_wp2
    exact hK
  case body =>
    rintro l pre x W ⟨hb, hk⟩ _
    have hc := hb.cell
    have hf := hb.frozen
    gi_wp2
    rw [or_digit3 (gath pre) x.2]
    exact ⟨(KeepsOthers.setCell _ _ _).from _, Kx.set _ _ _ _, by rw [gath_snoc]; exact hb.set _, hk.trans (Kx.set _ _ _ _)⟩
  case done =>
    rintro D ys W hD rfl ⟨hb, hk⟩ hK
    have hc := hb.cell
    gi_wp2
    refine ⟨by simp, .inl ⟨_, _, rfl, run_takeDeferred hK, ?_⟩⟩
    have hk2 : Kx w3.heap.size w.heap.size w3 (W.putObj D (.deferred none)) := hk.grown hk.size (grownBy_putObj' W D _) (fun r e => by cases e; exact hD)
    refine ⟨_, results_tmp rfl _ _ _, ?_, rd_kx bN3 hk2 (by omega) hR3, ?_⟩
    · rw [← hle, gath_all p.1 (by omega)]; rfl
    · have hx := (exc_below g ((Below.refl _ w).alloc (Nat.le_refl _) (.cells #[.int .u64 0] 77))).trans hX3
      have hs3 := hx.size
      exact ⟨hk2.os.trans hx.os, hk2.tape.trans hx.tape, hk2.output.trans hx.output, Nat.le_trans hx.size hk2.size, fun k hk hne => (hk2.block k (by omega) (by omega)).trans (hx.block k hk hne)⟩
  case stop =>
    rintro D c pre W _ _ h _
    exact h.elim
end Go.Proofs.YtmfjgehlkbndjaaGreatDoor
