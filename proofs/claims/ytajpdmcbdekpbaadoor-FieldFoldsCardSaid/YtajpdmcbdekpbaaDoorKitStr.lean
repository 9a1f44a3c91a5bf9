/-
  My kit: texts: bytes become a text, a text's byte, the digits of a byte.
-/
import Derived.Test.YtajpdmcbdekpbaaDoorKit3
import Derived.Test.YtajpdmcbdekpbaaDoorSha
import Derived.Laws.BytesString
namespace Go.Proofs.YtajpdmcbdekpbaaDoor
open Go Go.RowKit

/-- a text of these bytes -/
def textV (l : List UInt8) : Value := .string ⟨l.toArray⟩

theorem foldl_push (l : List UInt8) : ∀ (s : ByteArray), (l.map B).foldl (fun r n => r.push (UInt8.ofNat n.toNat)) s = ⟨s.data ++ l.toArray⟩ := by
  induction l with
  | nil => intro s; simp
  | cons b l ih =>
    intro s
    rw [List.map_cons, List.foldl_cons, ih]
    have : UInt8.ofNat (B b).toNat = b := by unfold B; simp
    rw [this]
    simp [ByteArray.push]

theorem run_toString {P : Program} {w : World} {src dst E : TypeId} {v : Value} {l : List UInt8} (hv : IsVals w v (l.map VB)) (hs : P.underlying src = some (.slice E)) (he : P.underlying E = some (.int .u8)) (hd : P.underlying dst = some .string) :
    (convert src dst v).run P w = .ok (textV l) w := by
  obtain ⟨ao, c, rfl, hc, hn, hj⟩ := hv
  rw [run_convert_bytes_string w src dst E ao _ c hs he hd]
  cases ao with
  | none =>
    have e0 : l = [] := by
      cases l with
      | nil => rfl
      | cons u us => obtain ⟨a, ha, _⟩ := hj 0 (VB u) rfl; cases ha
    subst e0; rfl
  | some a =>
    have hl : (loadCells a (l.map VB).length).run P w = .ok ((l.map B).map (Value.int .u8)).toArray w := by
      have := run_loadCells_list (P := P) w a (l.map VB) (fun j v hv => by obtain ⟨a', ha, hcell⟩ := hj j v hv; cases ha; exact hcell)
      rw [this, List.map_map]; rfl
    rw [run_bytesToString w a _ c (l.map B) hl, foldl_push]
    have e : ByteArray.empty.data ++ l.toArray = l.toArray := by show #[] ++ l.toArray = _; simp
    rw [e]; rfl

section
variable {P : Program} {ops : Array Oper} {Q : Exit → Act → World → Prop} {rest : List Oper} {o : Oper} {a : Act} {w : World}
theorem kToString (src dst E : TypeId) (x : Operand) (v : Value) (l : List UInt8) (ho : o.op = .convert src dst x) (hg : Region.wanted o (yielded ops a.tmps) = true) (hx : a.eval x = v) (hv : IsVals w v (l.map VB)) (hs : P.underlying src = some (.slice E)) (he : P.underlying E = some (.int .u8)) (hd : P.underlying dst = some .string)
    (h : wpList P ops Q rest (a.put o.dst (textV l)) w) : wpList P ops Q (o :: rest) a w := by
  refine BigFrame.wpList_want hg fun K hK => ?_
  unfold Oper.wp execOp
  simp only [ho, hx, Sem.run_bind, run_toString hv hs he hd, Result.andThen_ok, Sem.run_pure]
  exact hK _ _ h
end

theorem run_indexStr {P : Program} {w : World} {T : TypeId} {k : IntKind} {i : Int} {j : Nat} {l : List UInt8} (hu : P.underlying T = some .string) (hi : i = (j : Int)) (hj : j < l.length) :
    (Instr.index T (textV l) (.int k i)).run P w = .ok (VB (at8 l j)) w := by
  subst hi
  have h1 : (⟨l.toArray⟩ : ByteArray)[j]? = some l[j] := by
    rw [getElem?_pos (⟨l.toArray⟩ : ByteArray) j (by simpa [ByteArray.size] using hj)]; rfl
  simp [Instr.index, asIntOf, run_underlying hu, textV, h1, at8, hj, VB, B]

section
variable {P : Program} {ops : Array Oper} {S : World → Prop} {Q : Exit → Act → World → Prop} {L : Act → World → Prop} {bs : List Bool} {o : Oper} {rest : List Oper} {a : Act} {w : World}
theorem mixIndexStr (T : TypeId) (x y : Operand) (k : IntKind) (i : Int) (j : Nat) (l : List UInt8) (hS : S w) (ho : o.op = .index T x y) (hg : Region.wanted o (yielded ops a.tmps) = true) (hx : a.eval x = textV l) (hy : a.eval y = .int k i) (hu : P.underlying T = some .string) (hi : i = (j : Int)) (hj : j < l.length)
    (h : wpMix P ops Q S L bs rest (a.put o.dst (VB (at8 l j))) w) : wpMix P ops Q S L (true :: bs) (o :: rest) a w :=
  mixQuiet _ hS hg (fun w _ => by unfold execOp; simp only [ho, hx, hy, Sem.run_bind, run_indexStr hu hi hj, Result.andThen_ok, Sem.run_pure]) h
theorem mixMove (x : Operand) (v : Value) (hS : S w) (ho : o.op = .move x) (hg : Region.wanted o (yielded ops a.tmps) = true) (hx : a.eval x = v)
    (h : wpMix P ops Q S L bs rest (a.put o.dst v) w) : wpMix P ops Q S L (true :: bs) (o :: rest) a w :=
  mixQuiet _ hS hg (fun w _ => by unfold execOp; simp only [ho, hx, Sem.run_pure]) h
end
theorem kIndexStr {P : Program} {ops : Array Oper} {Q : Exit → Act → World → Prop} {rest : List Oper} {o : Oper} {a : Act} {w : World} (T : TypeId) (x y : Operand) (k : IntKind) (i : Int) (j : Nat) (l : List UInt8) (ho : o.op = .index T x y) (hg : Region.wanted o (yielded ops a.tmps) = true) (hx : a.eval x = textV l) (hy : a.eval y = .int k i) (hu : P.underlying T = some .string) (hi : i = (j : Int)) (hj : j < l.length)
    (h : wpList P ops Q rest (a.put o.dst (VB (at8 l j))) w) : wpList P ops Q (o :: rest) a w := by
  refine BigFrame.wpList_want hg fun K hK => ?_
  unfold Oper.wp execOp
  simp only [ho, hx, hy, Sem.run_bind, run_indexStr hu hi hj, Result.andThen_ok, Sem.run_pure]
  exact hK _ _ h

/-- the sixteen digits -/
def hexL : List UInt8 := [48, 49, 50, 51, 52, 53, 54, 55, 56, 57, 97, 98, 99, 100, 101, 102]
def hexd (n : Nat) : UInt8 := at8 hexL n
def pairOf (x : UInt8) : List UInt8 := [hexd (x.toNat / 16), hexd (x.toNat % 16)]
/-- the digits of a row of 32 bytes, from behind, the first k of them -/
def textTo (h : List UInt8) (k : Nat) : List UInt8 := (List.range k).flatMap fun i => pairOf (at8 h (31 - i))
theorem textTo_succ (h : List UInt8) (k : Nat) : textTo h (k + 1) = textTo h k ++ pairOf (at8 h (31 - k)) := by
  unfold textTo; rw [List.range_succ, List.flatMap_append]; simp
theorem textTo_len (h : List UInt8) (k : Nat) : (textTo h k).length = 2 * k := by
  induction k with
  | zero => rfl
  | succ k ih => rw [textTo_succ, List.length_append, ih]; simp [pairOf]; omega
theorem B_div16 (x : UInt8) : B x / 16 = ((x.toNat / 16 : Nat) : Int) := by unfold B; omega
theorem B_and15 (x : UInt8) : bits .and .u8 (B x) 15 = ((x.toNat % 16 : Nat) : Int) := by
  unfold B
  have h := u8_and_nat x.toNat 15 x.toNat_lt (by decide)
  rw [nat_mask4] at h
  exact h

/-- []byte of a constant: the row bears a mark behind its end; its cells are as they were. -/
theorem kConvSame {P : Program} {ops : Array Oper} {Q : Exit → Act → World → Prop} {rest : List Oper} {o : Oper} {a : Act} {w : World} (T E : TypeId) (x : Operand) (g n c : Nat) (cs : Array Value) (ho : o.op = .convert T T x) (hg : Region.wanted o (yielded ops a.tmps) = true)
    (hx : a.eval x = .slice (some ⟨g, 0, none⟩) n c) (hr : Row w g E cs) (ht : P.underlying T = some (.slice E)) (he : P.underlying E = some (.int .u8))
    (h : ∀ w1, Wrote g w w1 → (∀ v l, IsVals w v l → IsVals w1 v l) → wpList P ops Q rest (a.put o.dst (.slice (some ⟨g, 0, none⟩) n c)) w1) : wpList P ops Q (o :: rest) a w := by
  refine BigFrame.wpList_want hg fun K hK => ?_
  unfold Oper.wp execOp
  have hsh : w.shape? g = some (E, cs.size) := by unfold World.shape?; rw [show w.heap[g]? = _ from hr]
  have hrun : (convert T T (.slice (some ⟨g, 0, none⟩) n c)).run P w = .ok (.slice (some ⟨g, 0, none⟩) n c) (w.freeze ⟨g, cs.size, none⟩ 1) := by
    simp [convert, run_underlying ht, run_underlying he, markStringish, hsh]
  simp only [ho, hx, Sem.run_bind, hrun, Result.andThen_ok, Sem.run_pure]
  have hcell : ∀ b, (w.freeze ⟨g, cs.size, none⟩ 1).cell? b = w.cell? b := fun b => by
    unfold World.freeze World.cell?
    rw [if_neg (by decide)]
    simp only [Array.getElem?_modify]
    by_cases hb : g = b.block
    · rw [if_pos hb, ← hb, show w.heap[g]? = _ from hr]; rfl
    · rw [if_neg hb]
  refine hK _ _ (h _ ⟨?_, ?_, ?_, ?_, fun k hk => ?_⟩ fun v l hv => ?_)
  · unfold World.freeze; split <;> rfl
  · unfold World.freeze; split <;> rfl
  · unfold World.freeze; split <;> rfl
  · unfold World.freeze; split <;> simp
  · unfold World.freeze
    rw [if_neg (by decide)]
    simp only [Array.getElem?_modify]
    rw [if_neg (Ne.symm hk)]
  · obtain ⟨ao, c', rfl, h1, h2, h3⟩ := hv
    exact ⟨ao, c', rfl, h1, h2, fun j u hu => by obtain ⟨b, hb, hc⟩ := h3 j u hu; exact ⟨b, hb, by rw [hcell]; exact hc⟩⟩

theorem kLenStr {P : Program} {ops : Array Oper} {Q : Exit → Act → World → Prop} {rest : List Oper} {o : Oper} {a : Act} {w : World} (T : TypeId) (x : Operand) (l : List UInt8) (ho : o.op = .call { callee := .builtin .len, args := #[x], argTypes := #[T] }) (hg : Region.wanted o (yielded ops a.tmps) = true) (hx : a.eval x = textV l) (ht : P.underlying T = some .string)
    (h : wpList P ops Q rest (a.put o.dst (.int .i64 (l.length : Int))) w) : wpList P ops Q (o :: rest) a w := by
  refine BigFrame.wpList_want hg fun K hK => ?_
  unfold Oper.wp
  have hrun : (execOp a.eval o).run P w = .ok (.value (.int .i64 (l.length : Int))) w := by
    have hz : (⟨l.toArray⟩ : ByteArray).size = l.length := by simp [ByteArray.size]
    simp [execOp, ho, resolve, invoke, builtin, hx, Builtin.len_, run_underlying ht, goInt, textV, hz]
  rw [hrun]
  exact hK _ _ h

end Go.Proofs.YtajpdmcbdekpbaaDoor
