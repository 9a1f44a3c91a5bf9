/-
  Layer 6: what its walks ask besides: bytes appended into new memory, readers in memory, and what a call leaves alone.
-/
import Derived.Test.YtgichipcmbnnhaaBytesKit
import Derived.Test.YtgichipcmbnnhaaPcPlain
namespace Go.Proofs.Ytgichipcmbnnhaa
open Go Go.RowKit

theorem info_b8P : (Try.prog.info? 5).map (·.size) = some 1 := by kernel_rfl
/-- an answer of bytes in new memory -/
def POwnPost (w : World) (l : List UInt8) (e : Ending) (w' : World) : Prop := ∃ v, e = .returned v ∧ OwnB w' w.heap.size v l ∧ Below w.heap.size w w'
theorem OwnB.below {w w' : World} {b : Nat} {v : Value} {l : List UInt8} (h : OwnB w b v l) (hb : Below w.heap.size w w') : OwnB w' b v l := ownsRow_below h hb
theorem ownB_nil (w : World) (b : Nat) : OwnB w b (.slice none 0 0) [] := World.ownsRow_nil w b _ _
/-- a slice whose room is its length -/
def fullV : Value → Value
  | .slice ao n _ => .slice ao n n
  | v => v
theorem vals_none {w : World} {l : List UInt8} {n c : Nat} (h : IsVals w (.slice none n c) (l.map VB)) : l = [] ∧ n = 0 ∧ c = 0 := by
  obtain ⟨ao, c', e, h1, h2, h3⟩ := h
  simp only [Value.slice.injEq] at e
  obtain ⟨rfl, rfl, rfl⟩ := e
  cases l with
  | nil => exact ⟨rfl, rfl, h2 rfl⟩
  | cons x l => obtain ⟨a, ha, _⟩ := h3 0 _ rfl; cases ha
theorem vals_len {w : World} {l : List UInt8} {ao : Option Addr} {n c : Nat} (h : IsVals w (.slice ao n c) (l.map VB)) : n = l.length ∧ n ≤ c := by
  obtain ⟨ao', c', e, h1, _⟩ := h
  simp only [Value.slice.injEq] at e
  obtain ⟨rfl, rfl, rfl⟩ := e
  exact ⟨by simp, h1⟩
/-- a slice that lies in a block below this one -/
def Lim (Lm : Nat) (v : Value) : Prop := ∀ b, v.ownBlock = some b → b < Lm
theorem Lim.from {Lm : Nat} {v : Value} (h : Lim Lm v) (n : Nat) : Lim Lm (fromV v n) := by
  intro b hb
  refine h b ?_
  cases v with
  | slice ao k c =>
    cases ao with
    | none => simp [fromV, Value.ownBlock] at hb
    | some a =>
      have e : (a.add n).block = a.block := by unfold Addr.add; split <;> rfl
      simp only [fromV] at hb
      split at hb
      · exact hb
      · simp only [Option.map_some, Value.ownBlock, Option.some.injEq] at hb ⊢; rw [← hb, e]
  | _ => first | exact hb | (simp [fromV, Value.ownBlock] at hb)
theorem Lim.mono {Lm Lm' : Nat} {v : Value} (h : Lim Lm v) (hl : Lm ≤ Lm') : Lim Lm' v := fun b hb => Nat.lt_of_lt_of_le (h b hb) hl
/-- .. if there is anything in it -/
def LimR (Lm : Nat) (v : Value) (l : List UInt8) : Prop := l ≠ [] → Lim Lm v
theorem LimR.from {Lm : Nat} {v : Value} {l : List UInt8} (h : LimR Lm v l) (n : Nat) : LimR Lm (fromV v n) (l.drop n) := fun hn => (h fun e => hn (by rw [e]; simp)).from n
theorem LimR.mono {Lm Lm' : Nat} {v : Value} {l : List UInt8} (h : LimR Lm v l) (hl : Lm ≤ Lm') : LimR Lm' v l := fun hn => (h hn).mono hl
theorem limR_vals {w : World} {v : Value} {l : List UInt8} (h : IsVals w v (l.map VB)) : LimR w.heap.size v l := by
  intro hn b hb
  obtain ⟨ao, c, rfl, -, -, hj⟩ := h
  cases l with
  | nil => exact absurd rfl hn
  | cons x l =>
    obtain ⟨a, rfl, hc⟩ := hj 0 _ rfl
    have := block_lt_of_cell hc
    have e : (a.add 0).block = a.block := by unfold Addr.add; split <;> rfl
    simp only [Value.ownBlock, Option.some.injEq] at hb
    rw [← hb, ← e]; exact this
theorem lim_own {w : World} {base : Nat} {v : Value} {l : List UInt8} (h : OwnB w base v l) : Lim w.heap.size v := fun b hb => (h.lt b hb).2
/-- a reader's row: what is left, and the error -/
def Rd (Lm : Nat) (T : TypeId) (w : World) (g : Nat) (s : Scn) : Prop := ∃ v, Row w g T #[v, .int .i64 (s.err : Int)] ∧ IsVals w v (s.rest.map VB) ∧ LimR Lm v s.rest
/-- all that was there is as it was, but for one block -/
abbrev Exc (g : Nat) (w w' : World) : Prop := w.grownBy w' (some g)
theorem exc_refl (g : Nat) (w : World) : Exc g w w := ⟨rfl, rfl, rfl, Nat.le_refl _, fun _ _ _ => rfl⟩
theorem Exc.trans {g : Nat} {a b c : World} (h : Exc g a b) (k : Exc g b c) : Exc g a c :=
  ⟨k.os.trans h.os, k.tape.trans h.tape, k.output.trans h.output, Nat.le_trans h.size k.size, fun i hi hne => (k.block i (Nat.lt_of_lt_of_le hi h.size) hne).trans (h.block i hi hne)⟩
theorem exc_below {w w' : World} (g : Nat) (h : Below w.heap.size w w') : Exc g w w' := ⟨h.os, h.tape, h.output, h.size, fun k hk _ => h.block k hk⟩
theorem exc_wrote {g : Nat} {w w' : World} (h : Wrote g w w') : Exc g w w' := ⟨h.os, h.tape, h.output, Nat.le_of_eq h.size.symm, fun k _ hne => h.other k fun e => hne (by rw [e])⟩
theorem Exc.below {g B : Nat} {w w' : World} (h : Exc g w w') (hB : B ≤ g) (hs : B ≤ w.heap.size) : Below B w w' :=
  ⟨h.os, h.tape, h.output, h.size, fun k hk => h.block k (by omega) (fun e => by cases e; omega)⟩
theorem Exc.row {g k : Nat} {w w' : World} {T : TypeId} {cs : Array Value} (h : Exc g w w') (hr : Row w k T cs) (hk : k ≠ g) : Row w' k T cs :=
  (h.block k hr.lt fun e => hk (by cases e; rfl)).trans hr
theorem rd_noByte {Lm : Nat} {T : TypeId} {w : World} {g : Nat} {s : Scn} (h : Rd Lm T w g s) {a : Addr} {c : UInt8} (hc : w.cell? a = some (VB c)) : a.block ≠ g := by
  rintro rfl
  obtain ⟨v, hr, ⟨ao, cp, rfl, _⟩, _⟩ := h
  have hr' : w.heap[a.block]? = some (.cells #[.slice ao (s.rest.map VB).length cp, .int .i64 (s.err : Int)] T (0, 0)) := hr
  unfold World.cell? at hc
  rw [hr'] at hc
  simp only at hc
  split at hc
  · cases hc
  · rcases ho : a.off with _ | _ | n
    · rw [ho] at hc; simp at hc
    · rw [ho] at hc; simp at hc
    · rw [ho] at hc; simp at hc
theorem Exc.vals {Lm : Nat} {T : TypeId} {w w' : World} {g : Nat} {s : Scn} {v : Value} {l : List UInt8} (h : Exc g w w') (hr : Rd Lm T w g s) (hv : IsVals w v (l.map VB)) : IsVals w' v (l.map VB) := by
  obtain ⟨ao, c, rfl, hc, hn, hj⟩ := hv
  refine ⟨ao, c, rfl, hc, hn, fun j u hu => ?_⟩
  obtain ⟨a, rfl, hcell⟩ := hj j u hu
  obtain ⟨x, -, rfl⟩ : ∃ x, x ∈ l ∧ VB x = u := by
    have := List.mem_of_getElem? hu
    simpa using this
  exact ⟨a, rfl, h.cell hcell fun e => rd_noByte hr hcell (by cases e; rfl)⟩
theorem Exc.rd {Lm Lm2 : Nat} {T U : TypeId} {w w' : World} {g k : Nat} {s t : Scn} (h : Exc g w w') (hr : Rd Lm T w g s) (hs : Rd Lm2 U w k t) (hk : k ≠ g) : Rd Lm2 U w' k t := by
  obtain ⟨v, h1, h2, h3⟩ := hs
  exact ⟨v, h.row h1 hk, h.vals hr h2, h3⟩
theorem Rd.lt {Lm : Nat} {T : TypeId} {w : World} {g : Nat} {s : Scn} (h : Rd Lm T w g s) : g < w.heap.size := by obtain ⟨v, h1, _⟩ := h; exact h1.lt
theorem Rd.below {Lm : Nat} {T : TypeId} {w w' : World} {g : Nat} {s : Scn} (h : Rd Lm T w g s) (hb : Below w.heap.size w w') : Rd Lm T w' g s := by
  obtain ⟨v, h1, h2, h3⟩ := h
  exact ⟨v, h1.below hb h1.lt, h2.below hb, h3⟩
theorem Rd.mono {Lm Lm' : Nat} {T : TypeId} {w : World} {g : Nat} {s : Scn} (h : Rd Lm T w g s) (hl : Lm ≤ Lm') : Rd Lm' T w g s := by
  obtain ⟨v, h1, h2, h3⟩ := h
  exact ⟨v, h1, h2, h3.mono hl⟩
/-- a reader, over what is written beside it -/
theorem Rd.wrote {Lm : Nat} {T : TypeId} {w w' : World} {g B : Nat} {s : Scn} (h : Rd Lm T w g s) (hW : Wrote B w w') (hB : Lm ≤ B) (hg : g ≠ B) : Rd Lm T w' g s := by
  obtain ⟨v, h1, h2, h3⟩ := h
  exact ⟨v, hW.row h1 hg, h2.wrote hW (fun j u hu a ha => by have := h3 (fun e => by rw [e] at hu; simp at hu) a ha; omega), h3⟩
theorem exc_new {g B : Nat} {w w1 w2 : World} (h : Exc g w w1) (hW : Wrote B w1 w2) (hB : w.heap.size ≤ B) : Exc g w w2 :=
  ⟨hW.os.trans h.os, hW.tape.trans h.tape, hW.output.trans h.output, by rw [hW.size]; exact h.size, fun i hi hne => (hW.other i (by omega)).trans (h.block i hi hne)⟩
section
variable {ops : Array Oper} {Q : Exit → Act → World → Prop} {rest : List Oper} {o : Oper} {a : Act} {w : World}
theorem kSliceFull (x y z : Operand) (ho : o.op = .slice 25 x none (some y) (some z)) (hg : Region.wanted o (yielded ops a.tmps) = true) (v : Value) (l : List UInt8) (hv : IsVals w v (l.map VB)) (hx : a.eval x = v) (hy : a.eval y = .int .i64 (l.length : Int)) (hz : a.eval z = .int .i64 (l.length : Int))
    (h : wpList Try.prog ops Q rest (a.put o.dst (fullV v)) w) : wpList Try.prog ops Q (o :: rest) a w := by
  refine kPure _ hg ?_ h
  obtain ⟨ao, c, rfl, hc, hn, hj⟩ := hv
  have hs := info_b8P
  cases hq : Try.prog.info? 5 with
  | none => simp [hq] at hs
  | some t =>
    have hc' : l.length ≤ c := by simpa using hc
    have hb : ∀ (y : Nat) code, l.length ≤ y → (Instr.sliceBound (.int .i64 (l.length : Int)) y code).run Try.prog w = .ok l.length w := fun y code hy => by
      have := run_sliceBound (P := Try.prog) (w := w) .i64 (l.length : Int) y code (by omega) (by omega)
      simpa using this
    have hrun : (Instr.sliceAt 25 (.slice ao (l.map VB).length c) none (some (.int .i64 (l.length : Int))) (some (.int .i64 (l.length : Int)))).run Try.prog w = .ok (fullV (.slice ao (l.map VB).length c)) w := by
      simp [Instr.sliceAt, run_underlying Try.underlying25, Instr.slice, Instr.sliceBounds, hb _ _ hc', hb _ _ (Nat.le_refl _), sizeOf, typeInfo, hq, fullV]
      cases ao <;> simp [Addr.add]
    unfold execOp
    simp only [ho, hx, hy, hz, Option.map_some, Option.map_none, Sem.run_bind, hrun, Result.andThen_ok, Sem.run_pure]
/-- append to bytes of one's own -/
theorem kAppB (s x : Operand) (ho : o.op = .call { callee := .builtin .append, args := #[s, x], argTypes := #[25, 25] }) (hg : o.guard = none) (base : Nat) (v y : Value) (xs news : List UInt8) (hown : OwnB w base v xs) (hy : IsVals w y (news.map VB)) (hs : a.eval s = v) (hx : a.eval x = y)
    (hlen : xs.length + news.length ≤ 1000000000) (hbase : base ≤ w.heap.size)
    (h : ∀ v' w', OwnB w' base v' (xs ++ news) → Below base w w' → wpList Try.prog ops Q rest (a.put o.dst v') w') : wpList Try.prog ops Q (o :: rest) a w := by
  obtain ⟨i, hi, hz, hsize, hby⟩ := b8Info
  refine kAppend s x _ _ ho hg base i _ Try.underlying25 hi hz hsize rfl v y (xs.map VB) (news.map VB) hs hown hx hy (vbs_one _) (by simp [maxLen]; omega) (by rw [hby]; simp; omega) hbase fun v' w' h1 h2 => ?_
  rw [← List.map_append] at h1
  exact h v' w' h1 (below_grown hown h2 hbase)
/-- append to a slice without spare room: new memory -/
theorem kAppNew (s x : Operand) (ho : o.op = .call { callee := .builtin .append, args := #[s, x], argTypes := #[25, 25] }) (hg : o.guard = none) (v y : Value) (olds news : List UInt8) (hv : IsVals w v (olds.map VB)) (hy : IsVals w y (news.map VB)) (hs : a.eval s = fullV v) (hx : a.eval x = y) (hnn : news ≠ [])
    (hlen : olds.length + news.length ≤ 1000000000)
    (h : ∀ v' w', OwnB w' w.heap.size v' (olds ++ news) → Below w.heap.size w w' → wpList Try.prog ops Q rest (a.put o.dst v') w') : wpList Try.prog ops Q (o :: rest) a w := by
  have hv' := hv
  obtain ⟨ao, c, rfl, hc, hn, hj⟩ := hv'
  cases ao with
  | none =>
    obtain ⟨rfl, h1, rfl⟩ := vals_none hv
    refine kAppB s x ho hg w.heap.size (.slice none 0 0) y [] news (ownB_nil _ _) hy hs hx (by simpa using hlen) (Nat.le_refl _) h
  | some ad =>
    obtain ⟨i, hi, hz, hsize, hby⟩ := b8Info
    have hy' := hy
    obtain ⟨bo, cp, rfl, hcp, hnp, hjp⟩ := hy'
    cases bo with
    | none => exact absurd (vals_none hy).1 hnn
    | some bd =>
      have hpos : 0 < news.length := List.length_pos_iff.2 hnn
      have holds : ∀ j u, (olds.map VB)[j]? = some u → w.cell? (ad.add j) = some u := fun j u hu => by
        obtain ⟨a', ha, hcell⟩ := hj j u hu; cases ha; exact hcell
      have hnews : ∀ j u, (news.map VB)[j]? = some u → w.cell? (bd.add j) = some u := fun j u hu => by
        obtain ⟨a', ha, hcell⟩ := hjp j u hu; cases ha; exact hcell
      have hml : (news.map VB).length = news.length := by simp
      have hol : (olds.map VB).length = olds.length := by simp
      have hr := run_append_grow (P := Try.prog) w 25 o.type 5 i _ Try.underlying25 hi hz ad (olds.map VB).length (olds.map VB).length (olds.map VB) (by rw [hsize]; omega) holds bd (news.map VB).length cp (news.map VB) (by rw [hsize]; omega) hnews (by omega) (by omega) (growslice_fits (by omega) (by rw [hby]; omega))
      refine BigFrame.wpList_want (by unfold Region.wanted; rw [hg]) fun K hK => ?_
      unfold Oper.wp execOp
      simp only [ho, resolve, invoke, builtin, Sem.run_bind, Sem.run_pure, Result.andThen_ok, List.map_toArray, List.map_cons, List.map_nil, hs, hx, fullV, hr]
      have hB : Below w.heap.size w (w.drew.alloc (.cells ((olds.map VB).toArray ++ (news.map VB).toArray ++ Builtin.zeroCells (Value.int .u8 0).cells (grownCap w ((olds.map VB).length + (news.map VB).length) (olds.map VB).length 5 - ((olds.map VB).length + (news.map VB).length))) 5)) := by
        have hb := fun o => (Below.refl w.drew.heap.size w.drew).alloc (Nat.le_refl _) o
        exact ⟨(hb _).os, (hb _).tape, (hb _).output, (hb _).size, (hb _).block⟩
      refine hK _ _ (h _ _ ⟨by simp, .inr ⟨w.heap.size, grownCap w ((olds.map VB).length + (news.map VB).length) (olds.map VB).length 5, _, ?_, Nat.le_refl _, heap_alloc_new w.drew _, ?_, grownCap_le_maxLen _ _ _ _ (by unfold maxLen; omega), ?_, ?_⟩⟩ hB)
      · simp
      · have := grownCap_ge w ((olds.map VB).length + (news.map VB).length) (olds.map VB).length 5
        simpa using this
      · have := grownCap_ge w ((olds.map VB).length + (news.map VB).length) (olds.map VB).length 5
        rw [Array.size_append, size_zeroCells]
        simp [Value.cells] at this ⊢
        omega
      · rw [Array.toList_append, Array.toList_append, List.take_append_of_le_length (by simp)]
        rw [List.take_of_length_le (by simp), List.map_append]
theorem kSliceTo (x y : Operand) (v : Value) (l : List UInt8) (n : Nat) (hv : IsVals w v (l.map VB)) (hn : n ≤ l.length) (ho : o.op = .slice 25 x none (some y) none) (hg : Region.wanted o (yielded ops a.tmps) = true) (hx : a.eval x = v) (hy : a.eval y = .int .i64 (n : Int))
    (h : IsVals w (toV v n) ((l.take n).map VB) → wpList Try.prog ops Q rest (a.put o.dst (toV v n)) w) : wpList Try.prog ops Q (o :: rest) a w := by
  have hv2 := isVals_to (n := n) hv (by simpa using hn)
  rw [← List.map_take] at hv2
  refine kPure _ hg ?_ (h hv2)
  unfold execOp
  simp only [ho, hx, hy, Option.map_some, Option.map_none, Sem.run_bind, run_sliceToV (n := n) Try.underlying25 info_b8P hv rfl (by simpa using hn), Result.andThen_ok, Sem.run_pure]
theorem kSliceFromB (x y : Operand) (v : Value) (l : List UInt8) (n : Nat) (hv : IsVals w v (l.map VB)) (hn : n ≤ l.length) (ho : o.op = .slice 25 x (some y) none none) (hg : Region.wanted o (yielded ops a.tmps) = true) (hx : a.eval x = v) (hy : a.eval y = .int .i64 (n : Int))
    (h : IsVals w (fromV v n) ((l.drop n).map VB) → wpList Try.prog ops Q rest (a.put o.dst (fromV v n)) w) : wpList Try.prog ops Q (o :: rest) a w := by
  have hv2 := isVals_from (n := n) hv (by simpa using hn)
  rw [← List.map_drop] at hv2
  refine kPure _ hg ?_ (h hv2)
  unfold execOp
  simp only [ho, hx, hy, Option.map_some, Option.map_none, Sem.run_bind, run_sliceFromV (n := n) Try.underlying25 info_b8P hv rfl (by simpa using hn), Result.andThen_ok, Sem.run_pure]
theorem kSliceLH (x y z : Operand) (v : Value) (l : List UInt8) (p q : Nat) (hv : IsVals w v (l.map VB)) (hp : p ≤ q) (hq : q ≤ l.length) (ho : o.op = .slice 25 x (some y) (some z) none) (hg : Region.wanted o (yielded ops a.tmps) = true) (hx : a.eval x = v) (hy : a.eval y = .int .i64 (p : Int)) (hz : a.eval z = .int .i64 (q : Int))
    (h : ∀ u, IsVals w u (((l.take q).drop p).map VB) → wpList Try.prog ops Q rest (a.put o.dst u) w) : wpList Try.prog ops Q (o :: rest) a w := by
  have hv2 := isVals_to (n := q) hv (by simpa using hq)
  rw [← List.map_take] at hv2
  have hv3 := isVals_from (n := p) hv2 (by simp; omega)
  rw [← List.map_drop] at hv3
  refine kPure _ hg ?_ (h _ hv3)
  obtain ⟨ao, c, rfl, hc, hn, hj⟩ := hv
  have hc' : l.length ≤ c := by simpa using hc
  have hs := info_b8P
  cases hi : Try.prog.info? 5 with
  | none => simp [hi] at hs
  | some t =>
    have hs' : t.size = 1 := by simpa [hi] using hs
    have hbd : ∀ (k m : Nat) code, k ≤ m → (Instr.sliceBound (.int .i64 (k : Int)) m code).run Try.prog w = .ok k w := fun k m code hkm => by
      have := run_sliceBound (P := Try.prog) (w := w) .i64 (k : Int) m code (by omega) (by omega)
      simpa using this
    have hrun : (Instr.sliceAt 25 (.slice ao (l.map VB).length c) (some (.int .i64 (p : Int))) (some (.int .i64 (q : Int))) none).run Try.prog w = .ok (fromV (toV (.slice ao (l.map VB).length c) q) p) w := by
      simp [Instr.sliceAt, run_underlying Try.underlying25, Instr.slice, Instr.sliceBounds, hbd q c _ (by omega), hbd p q _ hp, sizeOf, typeInfo, hi, hs', fromV, toV]
    unfold execOp
    simp only [ho, hx, hy, hz, Option.map_some, Option.map_none, Sem.run_bind, hrun, Result.andThen_ok, Sem.run_pure]
end
end Go.Proofs.Ytgichipcmbnnhaa
