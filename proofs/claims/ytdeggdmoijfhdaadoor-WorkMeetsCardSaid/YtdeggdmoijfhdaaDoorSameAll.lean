/-
  Joined: TxSame0, TxSame, TxMap.
-/
import Derived.Test.YtdeggdmoijfhdaaDoorTxIds
import Derived.MapKept
import Derived.ChangeMaps4
import Derived.Carry
/-
  Layer 10: transactions held against each other; what makes something.
-/
namespace Go.Proofs.YtdeggdmoijfhdaaDoor
open Go Go.RowKit

def sameI (i j : InP) : Bool := ((decide (i.id = j.id) && decide ((i.at' : Int) = (j.at' : Int))) && decide ((i.order : Int) = (j.order : Int))) && (i.unlock == j.unlock)
def sameIs : List InP → List InP → Bool
  | [], [] => true
  | i :: is, j :: js => sameI i j && sameIs is js
  | _, _ => false
def sameOs : List (Int × List UInt8) → List (Int × List UInt8) → Bool
  | [], [] => true
  | i :: is, j :: js => sameO i.1 i.2 j.1 j.2 && sameOs is js
  | _, _ => false
def sameT (t u : TxP) : Bool := ((decide ((t.version : Int) = (u.version : Int)) && decide ((t.end' : Int) = (u.end' : Int))) && sameIs t.ins u.ins) && sameOs t.outs u.outs
theorem sameI_iff {i j : InP} : sameI i j = true ↔ i = j := by
  obtain ⟨a, b, c, d⟩ := i
  obtain ⟨e, f, g, h⟩ := j
  simp only [sameI, Bool.and_eq_true, decide_eq_true_eq, beq_iff_eq, InP.mk.injEq]
  constructor
  · rintro ⟨⟨⟨h1, h2⟩, h3⟩, h4⟩; exact ⟨h1, by omega, h4, by omega⟩
  · rintro ⟨h1, h2, h3, h4⟩; exact ⟨⟨⟨h1, by omega⟩, by omega⟩, h3⟩
theorem sameIs_iff : ∀ {is js : List InP}, sameIs is js = true ↔ is = js
  | [], [] => by simp [sameIs]
  | i :: is, j :: js => by simp only [sameIs, Bool.and_eq_true, sameI_iff, sameIs_iff, List.cons.injEq]
  | [], j :: js => by simp [sameIs]
  | i :: is, [] => by simp [sameIs]
theorem sameOs_iff : ∀ {is js : List (Int × List UInt8)}, sameOs is js = true ↔ is = js
  | [], [] => by simp [sameOs]
  | i :: is, j :: js => by
    simp only [sameOs, Bool.and_eq_true, sameO_iff, sameOs_iff, List.cons.injEq]
    rw [Prod.ext_iff]
  | [], j :: js => by simp [sameOs]
  | i :: is, [] => by simp [sameOs]
theorem sameT_iff {t u : TxP} : sameT t u = true ↔ t = u := by
  obtain ⟨a, b, c, d⟩ := t
  obtain ⟨e, f, g, h⟩ := u
  simp only [sameT, Bool.and_eq_true, decide_eq_true_eq, sameIs_iff, sameOs_iff, TxP.mk.injEq]
  constructor
  · rintro ⟨⟨⟨h1, h2⟩, h3⟩, h4⟩; exact ⟨by omega, h3, h4, by omega⟩
  · rintro ⟨h1, h2, h3, h4⟩; exact ⟨⟨⟨by omega, by omega⟩, h2⟩, h3⟩
theorem sameT_refl (t : TxP) : sameT t t = true := sameT_iff.2 rfl
theorem sameIs_len : ∀ {is js : List InP}, is.length ≠ js.length → sameIs is js = false := fun h => by
  cases hb : sameIs _ _
  · rfl
  · exact absurd (congrArg List.length (sameIs_iff.1 hb)) h
theorem sameOs_len : ∀ {is js : List (Int × List UInt8)}, is.length ≠ js.length → sameOs is js = false := fun h => by
  cases hb : sameOs _ _
  · rfl
  · exact absurd (congrArg List.length (sameOs_iff.1 hb)) h
theorem sameIs_step {is js : List InP} {k : Nat} {i j : InP} (hi : is[k]? = some i) (hj : js[k]? = some j) : sameIs (is.drop k) (js.drop k) = (sameI i j && sameIs (is.drop (k + 1)) (js.drop (k + 1))) := by
  obtain ⟨h1, rfl⟩ := List.getElem?_eq_some_iff.1 hi
  obtain ⟨h2, rfl⟩ := List.getElem?_eq_some_iff.1 hj
  rw [List.drop_eq_getElem_cons h1, List.drop_eq_getElem_cons h2]; rfl
theorem sameOs_step {is js : List (Int × List UInt8)} {k : Nat} {i j : Int × List UInt8} (hi : is[k]? = some i) (hj : js[k]? = some j) : sameOs (is.drop k) (js.drop k) = (sameO i.1 i.2 j.1 j.2 && sameOs (is.drop (k + 1)) (js.drop (k + 1))) := by
  obtain ⟨h1, rfl⟩ := List.getElem?_eq_some_iff.1 hi
  obtain ⟨h2, rfl⟩ := List.getElem?_eq_some_iff.1 hj
  rw [List.drop_eq_getElem_cons h1, List.drop_eq_getElem_cons h2]; rfl
end Go.Proofs.YtdeggdmoijfhdaaDoor

/-
  Layer 10: transactions held against each other; what makes something; what is spent twice.
-/
namespace Go.Proofs.YtdeggdmoijfhdaaDoor
open Go Go.RowKit

def nullR (l : List UInt8) (n : Nat) : Bool := decide (l = z32) && decide ((n : Int) = ((4294967295 : Nat) : Int))
def nullI (i : InP) : Bool := nullR i.id i.at'
def baseB : List InP → Bool
  | [i] => nullI i
  | _ => false
theorem baseB_not {is : List InP} (h : is.length ≠ 1) : baseB is = false := by
  match is, h with
  | [], _ => rfl
  | [i], h => exact absurd rfl h
  | i :: j :: is, _ => rfl
theorem z32_len : z32.length = 32 := rfl
section
variable {ops : Array Oper} {Q : Exit → Act → World → Prop} {rest : List Oper} {o : Oper} {a : Act} {w : World} {S : World → Prop}
/-- the first field at any address -/
theorem addr_add0 (b : Addr) : b.add 0 = b := by simp [Addr.add]
theorem run_fieldAtAny {P : Program} (T : TypeId) (k n fo : Nat) (fs : Array Field) (f : Field) (b : Addr) (hu : P.underlying T = some (.struct fs)) (hf : fs[k]? = some f) (h0 : f.offset = fo) (hn : (P.info? f.type).map (·.size) = some (n + 1)) (w : World) : (Instr.fieldAt T (.pointer (some b)) k).run P w = .ok (.pointer (some (b.add fo))) w := by
  unfold Instr.fieldAt
  rw [Sem.run_bind, run_underlying hu w]
  cases hq : P.info? f.type with
  | none => simp [hq] at hn
  | some i =>
    have hs : i.size = n + 1 := by simpa [hq] using hn
    simp [hf, Instr.sureAddr, fieldPlace, h0, sizeOf, typeInfo, hq, hs]
theorem kFldAt0 {P : Program} {T : TypeId} {n : Nat} (hF : ∃ f fs, P.underlying T = some (.struct fs) ∧ fs[0]? = some f ∧ f.offset = 0 ∧ (P.info? f.type).map (·.size) = some (n + 1)) (x : Operand) (b : Addr) (ho : o.op = .fieldAddr T x 0) (hg : Region.wanted o (yielded ops a.tmps) = true) (hx : a.eval x = .pointer (some b)) (h : wpList P ops Q rest (a.put o.dst (.pointer (some b))) w) : wpList P ops Q (o :: rest) a w := by
  obtain ⟨f, fs, h1, h2, h3, h4⟩ := hF
  refine kPure _ hg ?_ h
  have hrun := run_fieldAtAny (w := w) T 0 n 0 fs f b h1 h2 h3 h4
  rw [addr_add0] at hrun
  unfold execOp; simp only [ho, hx, Sem.run_bind, hrun, Result.andThen_ok, Sem.run_pure]
theorem kFldAtN {P : Program} {T : TypeId} {k n fo : Nat} (hF : ∃ f fs, P.underlying T = some (.struct fs) ∧ fs[k]? = some f ∧ f.offset = fo ∧ (P.info? f.type).map (·.size) = some (n + 1)) (x : Operand) (b : Addr) (ho : o.op = .fieldAddr T x k) (hg : Region.wanted o (yielded ops a.tmps) = true) (hx : a.eval x = .pointer (some b)) (h : wpList P ops Q rest (a.put o.dst (.pointer (some (b.add fo)))) w) : wpList P ops Q (o :: rest) a w := by
  obtain ⟨f, fs, h1, h2, h3, h4⟩ := hF
  refine kPure _ hg ?_ h
  have hrun := run_fieldAtAny (w := w) T k n fo fs f b h1 h2 h3 h4
  unfold execOp; simp only [ho, hx, Sem.run_bind, hrun, Result.andThen_ok, Sem.run_pure]
end
end Go.Proofs.YtdeggdmoijfhdaaDoor

/-
  Layer 10: a map whose keys are references and whose elements are numbers: looked up, added to in place.
-/
namespace Go.Proofs.YtdeggdmoijfhdaaDoor
open Go Go.RowKit
open Go.ChangeMaps (setBlock)

def mEnt (j : Nat) (e : (List UInt8 × Nat) × Int) : MapEntry := ⟨.agg (refC e.1.1 e.1.2), .int .i64 e.2, j⟩
def mEnts : Nat → List ((List UInt8 × Nat) × Int) → List MapEntry
  | _, [] => []
  | j, e :: E => mEnt j e :: mEnts (j + 1) E
theorem mEnts_len : ∀ (j : Nat) (E : List ((List UInt8 × Nat) × Int)), (mEnts j E).length = E.length
  | _, [] => rfl
  | j, e :: E => by simp [mEnts, mEnts_len (j + 1) E]
theorem mEnts_append : ∀ (j : Nat) (E : List ((List UInt8 × Nat) × Int)) (e : (List UInt8 × Nat) × Int), mEnts j (E ++ [e]) = mEnts j E ++ [mEnt (j + E.length) e]
  | _, [], _ => rfl
  | j, x :: E, e => by
    rw [List.cons_append, mEnts, mEnts_append (j + 1) E e, mEnts, List.length_cons, List.cons_append, show j + 1 + E.length = j + (E.length + 1) by omega]
theorem mEnts_at : ∀ (j : Nat) (E : List ((List UInt8 × Nat) × Int)) (q : Nat), (mEnts j E)[q]? = (E[q]?).map (mEnt (j + q))
  | _, [], q => by simp [mEnts]
  | j, x :: E, 0 => by simp [mEnts]
  | j, x :: E, q + 1 => by
    rw [mEnts, List.getElem?_cons_succ, List.getElem?_cons_succ, mEnts_at (j + 1) E q, show j + 1 + q = j + (q + 1) by omega]
theorem mEnts_set (j : Nat) (E : List ((List UInt8 × Nat) × Int)) (q : Nat) (e : (List UInt8 × Nat) × Int) : (mEnts j E).set q (mEnt (j + q) e) = mEnts j (E.set q e) := by
  refine List.ext_getElem? fun p => ?_
  rw [List.getElem?_set, mEnts_at, mEnts_at, List.getElem?_set, mEnts_len]
  split
  · rename_i h; subst h
    split <;> simp
  · rfl
theorem mEnts_born : ∀ (j : Nat) (E : List ((List UInt8 × Nat) × Int)) (q : Nat), q < E.length → (mEnts j E).findIdx? (fun e => (e.born : Int) == ((j + q : Nat) : Int)) = some q
  | _, [], _, h => by simp at h
  | j, x :: E, 0, _ => by rw [mEnts, List.findIdx?_cons]; simp [mEnt]
  | j, x :: E, q + 1, h => by
    have ih := mEnts_born (j + 1) E q (by simpa using h)
    rw [show j + 1 + q = j + (q + 1) by omega] at ih
    rw [mEnts, List.findIdx?_cons, ih]
    have hne : (((mEnt j x).born : Int) == ((j + (q + 1) : Nat) : Int)) = false := by simp only [beq_eq_false_iff_ne, mEnt]; omega
    rw [hne]; rfl
def Len32 (E : List ((List UInt8 × Nat) × Int)) : Prop := ∀ e ∈ E, e.1.1.length = 32
/-- the map at block b: these references, so often each, in the order in which they came -/
def MapRow (w : World) (b : Nat) (E : List ((List UInt8 × Nat) × Int)) : Prop := w.heap[b]? = some (.map (mEnts 0 E).toArray E.length)
theorem MapRow.lt {w : World} {b : Nat} {E : List ((List UInt8 × Nat) × Int)} (h : MapRow w b E) : b < w.heap.size := (Array.getElem?_eq_some_iff.1 h).1
theorem MapRow.below {w w' : World} {b : Nat} {E : List ((List UInt8 × Nat) × Int)} (h : MapRow w b E) (hb : Below w.heap.size w w') : MapRow w' b E := (hb.block b h.lt).trans h
theorem MapRow.wrote {w w' : World} {b g : Nat} {E : List ((List UInt8 × Nat) × Int)} (h : MapRow w b E) (hW : Wrote g w w') (hg : b ≠ g) : MapRow w' b E := (hW.other b hg).trans h
theorem wrote_setBlock (w : World) (b : Nat) (o : Obj) : Wrote b w (setBlock w b o) := ⟨rfl, rfl, rfl, by simp [setBlock], fun k hk => by simp [setBlock, Ne.symm hk]⟩
theorem setBlock_at {w : World} {b : Nat} (o : Obj) (h : b < w.heap.size) : (setBlock w b o).heap[b]? = some o := by simp [setBlock, h]
theorem zero_intM (w : World) : (zeroValue 3).run Tryd.prog w = .ok (.int .i64 0) w := by kernel_rfl
theorem sameBits_agg (n : Nat) (a b : Array Value) : Instr.sameBits (n + 1) (.agg a) (.agg b) = (a.size == b.size && (a.toList.zip b.toList).all fun (x, y) => Instr.sameBits n x y) := rfl
theorem same_ref (l : List UInt8) (n : Nat) : Instr.sameBits 10000 (.agg (refC l n)) (.agg (refC l n)) = true := by
  have hz : ∀ cs : List Value, (∀ v ∈ cs, ∃ k z, v = Value.int k z) → ((cs.zip cs).all fun (x, y) => Instr.sameBits 9999 x y) = true := by
    intro cs
    induction cs with
    | nil => intro _; rfl
    | cons v cs ih =>
      intro h
      obtain ⟨k, z, rfl⟩ := h v (by simp)
      simp only [List.zip_cons_cons, List.all_cons, ih fun x hx => h x (by simp [hx]), Bool.and_true]
      simp [Instr.sameBits]
  have hl : ∀ v ∈ (refC l n).toList, ∃ k z, v = Value.int k z := by
    intro v hv
    simp only [refC, List.mem_append, List.mem_map, List.mem_singleton] at hv
    rcases hv with ⟨j, -, rfl⟩ | rfl
    · exact ⟨_, _, rfl⟩
    · exact ⟨_, _, rfl⟩
  rw [show (10000 : Nat) = 9999 + 1 from rfl, sameBits_agg, hz _ hl]; simp
theorem run_stays (l : List UInt8) (n : Nat) (w : World) : (Instr.keyThatStays (.agg (refC l n)) (.agg (refC l n))).run Tryd.prog w = .ok (.agg (refC l n)) w := by
  unfold Instr.keyThatStays
  rw [same_ref]; rfl
theorem run_entryStore {w : World} {b : Nat} {E : List ((List UInt8 × Nat) × Int)} (T : TypeId) (q : Nat) (z y : Int) (r : List UInt8 × Nat) (h : MapRow w b E) (hq : E[q]? = some (r, y)) : (Instr.entryStore T (.map (some b)) (.int .i64 (q : Int)) (.int .i64 z)).run Tryd.prog w = .ok () (setBlock w b (.map (mEnts 0 (E.set q (r, z))).toArray E.length)) := by
  have hs := fun o => MapKept.run_setObj_map (P := Tryd.prog) o h
  have hlt : q < E.length := (List.getElem?_eq_some_iff.1 hq).1
  have hb := mEnts_born 0 E q hlt
  rw [Nat.zero_add] at hb
  have hfi : (mEnts 0 E).toArray.findIdx? (fun e => (e.born : Int) == (q : Int)) = some q := by rw [List.findIdx?_toArray]; exact hb
  have e1 : (mEnts 0 E).toArray.modify q (fun e => { e with val := Value.int .i64 z }) = (mEnts 0 (E.set q (r, z))).toArray := by
    rw [List.modify_toArray, ← mEnts_set]
    refine congrArg List.toArray (List.ext_getElem? fun p => ?_)
    rw [List.getElem?_modify, List.getElem?_set, mEnts_len]
    by_cases hp : q = p
    · subst hp
      rw [mEnts_at, hq]; simp [mEnt, hlt]
    · simp [hp]
  unfold Instr.entryStore
  simp only [Sem.run_bind, MapKept.run_getObj_map h, Result.andThen_ok, asInt, asIntOf, Sem.run_pure, hfi, e1, hs]
  rfl
end Go.Proofs.YtdeggdmoijfhdaaDoor
