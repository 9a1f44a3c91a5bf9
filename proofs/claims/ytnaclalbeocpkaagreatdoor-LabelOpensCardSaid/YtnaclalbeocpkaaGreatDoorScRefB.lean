/-
  Layer 7: the reference's state in memory, and the walk of its branch.
-/
import Derived.Test.YtnaclalbeocpkaaGreatDoorScRef2
import Derived.Test.YtnaclalbeocpkaaGreatDoorFAll
namespace Go.Proofs.YtnaclalbeocpkaaGreatDoor
open Go Go.RowKit

/-- the cells of a state -/
def stC (hs : List Value) (sv wv : Value) : Array Value := (sv :: wv :: hs).toArray
def isSlJ (v : Value) : Prop := ∃ ao n c, v = .slice ao n c
theorem IsVals.sl {w : World} {v : Value} {l : List Value} (h : IsVals w v l) : isSlJ v := by obtain ⟨ao, c, rfl, _⟩ := h; exact ⟨ao, _, c, rfl⟩
theorem isSlJ.one {v : Value} (h : isSlJ v) : v.oneCell' = true := by obtain ⟨ao, n, c, rfl⟩ := h; rfl
/-- the hash's cells -/
structure HsOk (hs : List Value) : Prop where
  len : hs.length = 32
  byte : ∀ u ∈ hs, ∃ k : Int, u = .int .u8 k
theorem HsOk.one {hs : List Value} (h : HsOk hs) : ∀ u ∈ hs, u.oneCell' = true := fun u hu => by obtain ⟨k, rfl⟩ := h.byte u hu; rfl
theorem stC_size {hs : List Value} (h : HsOk hs) (sv wv : Value) : (stC hs sv wv).size = 34 := by unfold stC; simp [h.len]
theorem stC_one {hs : List Value} (h : HsOk hs) {sv wv : Value} (h1 : isSlJ sv) (h2 : isSlJ wv) : ∀ u ∈ stC hs sv wv, u.oneCell' = true := fun u hu => by
  unfold stC at hu; simp at hu
  rcases hu with rfl | rfl | hu
  · exact h1.one
  · exact h2.one
  · exact h.one u hu
/-- a state by its value -/
def SX (hs : List Value) (w : World) (cs : Array Value) (s : SSt) : Prop := ∃ sv wv, cs = stC hs sv wv ∧ IsVals w sv (s.stack.reverse.map textV) ∧ IsVals w wv (s.ways.reverse.map Value.bool)
theorem SX.is {hs : List Value} {w : World} {cs : Array Value} {s : SSt} (h : SX hs w cs s) (hh : HsOk hs) : StIs w cs s := by
  obtain ⟨sv, wv, rfl, h1, h2⟩ := h; exact ⟨sv, wv, hs, rfl, ⟨hh.len, hh.one⟩, h1, h2⟩
theorem SX.below {hs : List Value} {w w' : World} {cs : Array Value} {s : SSt} (h : SX hs w cs s) (hb : Below w.heap.size w w') : SX hs w' cs s := by
  obtain ⟨sv, wv, rfl, h1, h2⟩ := h; exact ⟨sv, wv, rfl, h1.below hb, h2.below hb⟩
/-- no text and no flag lies in a state's row -/
theorem st_no {w : World} {g : Nat} {T : TypeId} {hs : List Value} {sv wv u : Value} (hh : HsOk hs) (hR : Row w g T (stC hs sv wv)) (h1 : isSlJ sv) (h2 : isSlJ wv) (hu : (∃ l, u = textV l) ∨ ∃ b, u = .bool b) {a : Addr} (hc : w.cell? a = some u) : a.block ≠ g := by
  rintro rfl
  have hr' : w.heap[a.block]? = some (.cells (stC hs sv wv) T (0, 0)) := hR
  unfold World.cell? at hc
  rw [hr'] at hc
  simp only at hc
  have key : ∀ x ∈ stC hs sv wv, x ≠ u := fun x hx e => by
    subst e
    unfold stC at hx; simp at hx
    rcases hx with rfl | rfl | hx
    · obtain ⟨_, _, _, rfl⟩ := h1; rcases hu with ⟨l, e⟩ | ⟨b, e⟩ <;> cases e
    · obtain ⟨_, _, _, rfl⟩ := h2; rcases hu with ⟨l, e⟩ | ⟨b, e⟩ <;> cases e
    · obtain ⟨k, rfl⟩ := hh.byte _ hx; rcases hu with ⟨l, e⟩ | ⟨b, e⟩ <;> cases e
  split at hc
  · cases hc
  · exact key _ (Array.mem_of_getElem? hc) rfl
theorem st_keep {w w' : World} {g : Nat} {T : TypeId} {hs : List Value} {sv wv v : Value} {l : List Value} (hh : HsOk hs) (hR : Row w g T (stC hs sv wv)) (h1 : isSlJ sv) (h2 : isSlJ wv) (hW : Wrote g w w') (hl : ∀ u ∈ l, (∃ x, u = textV x) ∨ ∃ b, u = .bool b) (h : IsVals w v l) : IsVals w' v l := by
  obtain ⟨ao, c, rfl, hc, hn, hj⟩ := h
  refine ⟨ao, c, rfl, hc, hn, fun j u hu => ?_⟩
  obtain ⟨a, rfl, hcell⟩ := hj j u hu
  exact ⟨a, rfl, by rw [World.cell?_of_block (w := w) (hW.other _ (st_no hh hR h1 h2 (hl u (List.mem_of_getElem? hu)) hcell))]; exact hcell⟩
theorem txts (l : List (List UInt8)) : ∀ u ∈ l.map textV, (∃ x, u = textV x) ∨ ∃ b, u = .bool b := fun u hu => by obtain ⟨x, -, rfl⟩ := List.mem_map.1 hu; exact .inl ⟨x, rfl⟩
theorem flags (l : List Bool) : ∀ u ∈ l.map Value.bool, (∃ x, u = textV x) ∨ ∃ b, u = .bool b := fun u hu => by obtain ⟨x, -, rfl⟩ := List.mem_map.1 hu; exact .inr ⟨x, rfl⟩
theorem info_stringG : (Tryz.prog.info? 9).map (·.size) = some 1 := by kernel_rfl
theorem info_boolsG : (Tryz.prog.info? 41).map (·.size) = some 1 := by kernel_rfl
def zeroHs : List Value := List.replicate 32 (Value.int .u8 0)
theorem zeroHs_ok : HsOk zeroHs := ⟨rfl, fun u hu => ⟨0, List.eq_of_mem_replicate hu⟩⟩
theorem nil_sl : isSlJ (.slice none 0 0) := ⟨_, _, _, rfl⟩
theorem stC_0 (hs : List Value) (sv wv : Value) : (stC hs sv wv)[0]? = some sv := rfl
theorem stC_1 (hs : List Value) (sv wv : Value) : (stC hs sv wv)[1]? = some wv := rfl
theorem stC_set0 (hs : List Value) (sv wv x : Value) : (stC hs sv wv).setIfInBounds 0 x = stC hs x wv := by unfold stC; simp
theorem stC_set1 (hs : List Value) (sv wv x : Value) : (stC hs sv wv).setIfInBounds 1 x = stC hs sv x := by unfold stC; simp
theorem strInfo0 : (Tryz.prog.info? 9).map (fun i => (i.zero, i.size, i.bytes)) = some (some (.string ⟨#[]⟩), 1, 16) := by kernel_rfl
theorem strInfo : ∃ i, Tryz.prog.info? 9 = some i ∧ i.zero = some (.string ⟨#[]⟩) ∧ i.size = 1 ∧ i.bytes = 16 := by
  have h := strInfo0
  cases hq : Tryz.prog.info? 9 with
  | none => rw [hq] at h; cases h
  | some i => rw [hq] at h; simp at h; exact ⟨i, rfl, h.1, h.2.1, h.2.2⟩
theorem blG0 : (Tryz.prog.info? 4).map (fun i => (i.zero, i.size, i.bytes)) = some (some (.bool false), 1, 1) := by kernel_rfl
theorem blG : ∃ i, Tryz.prog.info? 4 = some i ∧ i.zero = some (.bool false) ∧ i.size = 1 ∧ i.bytes = 1 := by
  have h := blG0
  cases hq : Tryz.prog.info? 4 with
  | none => rw [hq] at h; cases h
  | some i => rw [hq] at h; simp at h; exact ⟨i, rfl, h.1, h.2.1, h.2.2⟩
/-- rows of one's own: flags, texts -/
def OwnG (w : World) (base : Nat) (v : Value) (l : List Bool) : Prop := w.ownsRow base 4 1 v (l.map Value.bool).length (l.map Value.bool)
def OwnT (w : World) (base : Nat) (v : Value) (l : List (List UInt8)) : Prop := w.ownsRow base 9 1 v (l.map textV).length (l.map textV)
theorem OwnG.vals {w : World} {b : Nat} {v : Value} {l : List Bool} (h : OwnG w b v l) : IsVals w v (l.map Value.bool) := isVals_own h
theorem OwnT.vals {w : World} {b : Nat} {v : Value} {l : List (List UInt8)} (h : OwnT w b v l) : IsVals w v (l.map textV) := isVals_own h
theorem OwnG.below {w w' : World} {b : Nat} {v : Value} {l : List Bool} (h : OwnG w b v l) (hb : Below w.heap.size w w') : OwnG w' b v l := ownsRow_below h hb
theorem OwnT.below {w w' : World} {b : Nat} {v : Value} {l : List (List UInt8)} (h : OwnT w b v l) (hb : Below w.heap.size w w') : OwnT w' b v l := ownsRow_below h hb
section
variable {ops : Array Oper} {Q : Exit → Act → World → Prop} {rest : List Oper} {o : Oper} {a : Act} {w : World}
theorem kAppG (s x : Operand) (ho : o.op = .call { callee := .builtin .append, args := #[s, x], argTypes := #[41, 41] }) (hg : o.guard = none) (base : Nat) (v y : Value) (xs news : List Bool) (hown : OwnG w base v xs) (hy : IsVals w y (news.map Value.bool)) (hs : a.eval s = v) (hx : a.eval x = y)
    (hlen : xs.length + news.length ≤ 1000000000) (hbase : base ≤ w.heap.size)
    (h : ∀ v' w', OwnG w' base v' (xs ++ news) → Below base w w' → wpList Tryz.prog ops Q rest (a.put o.dst v') w') : wpList Tryz.prog ops Q (o :: rest) a w := by
  obtain ⟨i, hi, hz, hsize, hby⟩ := blG
  refine kAppend s x _ _ ho hg base i _ Tryz.underlying41 hi hz hsize rfl v y (xs.map Value.bool) (news.map Value.bool) hs hown hx hy (fun u hu => by obtain ⟨x, -, rfl⟩ := List.mem_map.1 hu; rfl) (by simp [maxLen]; omega) (by rw [hby]; simp; omega) hbase fun v' w' h1 h2 => ?_
  rw [← List.map_append] at h1
  exact h v' w' h1 (below_grown hown h2 hbase)
theorem kSliceG (T E : TypeId) (x y : Operand) (v : Value) (l : List Value) (n : Nat) (ht : Tryz.prog.underlying T = some (.slice E)) (hsz : (Tryz.prog.info? E).map (·.size) = some 1) (hv : IsVals w v l) (hn : n ≤ l.length) (ho : o.op = .slice T x none (some y) none) (hg : Region.wanted o (yielded ops a.tmps) = true) (hx : a.eval x = v) (hy : a.eval y = .int .i64 (n : Int))
    (h : IsVals w (toV v n) (l.take n) → wpList Tryz.prog ops Q rest (a.put o.dst (toV v n)) w) : wpList Tryz.prog ops Q (o :: rest) a w := by
  refine kPure _ hg ?_ (h (isVals_to hv hn))
  unfold execOp
  simp only [ho, hx, hy, Option.map_some, Option.map_none, Sem.run_bind, run_sliceToV (n := n) ht hsz hv rfl hn, Result.andThen_ok, Sem.run_pure]
end
/-- the answer of branch, and of all: the state, and the error's number -/
def SPost (hs : List Value) (w : World) (q : SSt × Nat) (e : Ending) (w' : World) : Prop := ∃ cs, e = .returned (.tuple #[.agg cs, .int .i64 (q.2 : Int)]) ∧ SX hs w' cs q.1 ∧ Below w.heap.size w w'
end Go.Proofs.YtnaclalbeocpkaaGreatDoor
