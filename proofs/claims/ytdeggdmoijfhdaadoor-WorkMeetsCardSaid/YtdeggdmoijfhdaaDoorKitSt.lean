/-
  My kit: '==' of structs field by field.
-/
import Derived.Test.YtdeggdmoijfhdaaDoorKitAll
import Derived.Laws.StructEq
namespace Go.Proofs.YtdeggdmoijfhdaaDoor
open Go Go.RowKit

def EqSteps (P : Program) (w : World) (d : Nat) (xs ys : Array Value) : List (TypeId × Nat × Bool) → List Bool → Prop
  | [], [] => True
  | (t, o, u) :: ls, b :: bs => u = false ∧ (∃ x y, (Go.part t xs o).run P w = .ok x w ∧ (Go.part t ys o).run P w = .ok y w ∧ (Op.equalIn d t x y).run P w = .ok b w) ∧ EqSteps P w d xs ys ls bs
  | _, _ => False
theorem run_eqSteps {P : Program} {w : World} {d : Nat} {xs ys : Array Value} : ∀ (fs : List Field) (ls : List (TypeId × Nat × Bool)) (bs : List Bool), fs.map (fun f => (f.type, f.offset, decide (f.name = "_"))) = ls → EqSteps P w d xs ys ls bs → (Op.eqFields d xs ys fs).run P w = .ok (bs.all id) w
  | [], ls, bs, hL, h => by
    subst hL
    cases bs with
    | nil => simp [Op.eqFields]
    | cons b bs => exact h.elim
  | f :: fs, ls, bs, hL, h => by
    subst hL
    cases bs with
    | nil => exact h.elim
    | cons b bs =>
      obtain ⟨hn, ⟨x, y, hx, hy, he⟩, hr⟩ := h
      have ih := run_eqSteps fs _ bs rfl hr
      have hn' : f.name ≠ "_" := of_decide_eq_false hn
      simp only [Op.eqFields, hn', ne_eq, not_false_eq_true, if_true, Sem.run_bind, hx, hy, he, Result.andThen_ok, List.all_cons, id]
      cases b
      · simp
      · simpa using ih
/-- '==' of structs, its fields' types and places, and what each tells -/
theorem run_eqStruct {P : Program} {w : World} {T : TypeId} {xs ys : Array Value} (ls : List (TypeId × Nat × Bool)) (bs : List Bool) (ht : P.underlying T = some (.struct (P.fieldsOf T))) (hp : P.stoodInHeld T = false) (hL : (P.fieldsOf T).toList.map (fun f => (f.type, f.offset, decide (f.name = "_"))) = ls) (h : EqSteps P w 9999 xs ys ls bs) : (Op.equalIn 10000 T (.agg xs) (.agg ys)).run P w = .ok (bs.all id) w := by
  rw [show 10000 = 9999 + 1 from rfl, run_equalIn_struct w 9999 _ _ _ ht hp]
  exact run_eqSteps _ _ _ hL h
theorem part1 {P : Program} {T : TypeId} {d : TypeDesc} (hu : P.underlying T = some d) (hd : aggDesc d = false) (cs : Array Value) (off : Nat) (v : Value) (hc : cs[off]? = some v) (w : World) : (Go.part T cs off).run P w = .ok v w := by
  simp [Go.part, run_isAgg hu, hd, hc]
theorem partA {P : Program} {T : TypeId} {d : TypeDesc} (hu : P.underlying T = some d) (hd : aggDesc d = true) {n : Nat} (hi : (P.info? T).map (·.size) = some n) (cs vs : Array Value) (off : Nat) (hc : cs.extract off (off + n) = vs) (w : World) : (Go.part T cs off).run P w = .ok (.agg vs) w := by
  cases hq : P.info? T with
  | none => rw [hq] at hi; cases hi
  | some i =>
    have hs' : i.size = n := by simpa [hq] using hi
    simp [Go.part, run_isAgg hu, hd, sizeOf, typeInfo, hq, hs', hc]
theorem run_equalStr {P : Program} {T : TypeId} (hu : P.underlying T = some .string) (d : Nat) (l m : List UInt8) (w : World) : (Op.equalIn (d + 1) T (textV l) (textV m)).run P w = .ok (decide (l = m)) w := by
  have h := run_equalIn_string (P := P) w d T ⟨l.toArray⟩ ⟨m.toArray⟩ hu
  rw [textV, textV, h]
  congr 1
  have e1 : ∀ l : List UInt8, (⟨l.toArray⟩ : ByteArray).toList = l := fun l => by simp
  rw [e1, e1]
  by_cases e : l = m <;> simp [e]
theorem run_equalZ {P : Program} {T : TypeId} {k k' : IntKind} (hu : P.underlying T = some (.int k')) (d : Nat) (l m : Int) (w : World) : (Op.equalIn (d + 1) T (.int k l) (.int k m)).run P w = .ok (decide (l = m)) w := by
  rw [run_equalIn_int (P := P) w d T k k' l m hu]
  congr 1
theorem all_at {c c' : List UInt8} {n : Nat} (h : c.length = n) (h' : c'.length = n) : ((List.range n).all fun j => B (at8 c j) == B (at8 c' j)) = decide (c = c') := by
  rw [Bool.eq_iff_iff, List.all_eq_true, decide_eq_true_eq]
  constructor
  · intro hh
    refine List.ext_getElem (by rw [h, h']) fun j h1 h2 => ?_
    have := hh j (List.mem_range.2 (by omega))
    simp only [B, at8, beq_iff_eq, List.getD_eq_getElem?_getD, List.getElem?_eq_getElem h1, List.getElem?_eq_getElem h2, Option.getD_some] at this
    exact UInt8.toNat_inj.1 (by omega)
  · rintro rfl; intro j _; simp
theorem run_equalBytes {P : Program} {w : World} {T E : TypeId} {n : Nat} (hu : P.underlying T = some (.array n E)) (he : P.underlying E = some (.int .u8)) (hs : (P.info? E).map (·.size) = some 1) (d : Nat) {l m : List UInt8} (hl : l.length = n) (hm : m.length = n) : (Op.equalIn (d + 2) T (.agg (tab n fun p => VB (at8 l p))) (.agg (tab n fun p => VB (at8 m p)))).run P w = .ok (decide (l = m)) w := by
  rw [← all_at hl hm]
  exact run_equalIn_arr (k := .u8) hu he hs _ _
section
variable {P : Program} {ops : Array Oper} {Q : Exit → Act → World → Prop} {rest : List Oper} {o : Oper} {a : Act} {w : World} {S : World → Prop}
theorem kEqlSt {T : TypeId} (T2 : TypeId) (u v : Operand) {xs ys : Array Value} (b : Bool) (hq : P.eqGuardType P.depth T = false) (hr : ∀ w, (Op.equalIn 10000 T (.agg xs) (.agg ys)).run P w = .ok b w) (ho : o.op = .binOp .eql T u v T2) (hg : Region.wanted o (yielded ops a.tmps) = true) (hx : a.eval u = .agg xs) (hy : a.eval v = .agg ys)
    (h : wpList P ops Q rest (a.put o.dst (.bool b)) w) : wpList P ops Q (o :: rest) a w := by
  refine kPure _ hg ?_ h
  unfold execOp
  have hr : ∀ w, (do eqGuard .eql T u v (.agg xs) (.agg ys); binOp .eql T (.agg xs) (.agg ys) : Sem Value).run P w = .ok (.bool b) w := fun w => by
    simp only [Sem.run_bind, run_eqGuard_agg w _ _ _ _ _ _ hq, Result.andThen_ok, run_eql_struct, hr]
  simp only [ho, hx, hy]
  rw [Sem.run_bind, hr]
  rfl
theorem kNeqSt {T : TypeId} (T2 : TypeId) (u v : Operand) {xs ys : Array Value} (b : Bool) (hq : P.eqGuardType P.depth T = false) (hr : ∀ w, (Op.equalIn 10000 T (.agg xs) (.agg ys)).run P w = .ok b w) (ho : o.op = .binOp .neq T u v T2) (hg : Region.wanted o (yielded ops a.tmps) = true) (hx : a.eval u = .agg xs) (hy : a.eval v = .agg ys)
    (h : wpList P ops Q rest (a.put o.dst (.bool (!b))) w) : wpList P ops Q (o :: rest) a w := by
  refine kPure _ hg ?_ h
  unfold execOp
  have hr : ∀ w, (do eqGuard .neq T u v (.agg xs) (.agg ys); binOp .neq T (.agg xs) (.agg ys) : Sem Value).run P w = .ok (.bool (!b)) w := fun w => by
    simp only [Sem.run_bind, run_eqGuard_agg w _ _ _ _ _ _ hq, Result.andThen_ok, run_neq_struct, hr]
  simp only [ho, hx, hy]
  rw [Sem.run_bind, hr]
  rfl
theorem yEqlSt {T : TypeId} (T2 : TypeId) (u v : Operand) {xs ys : Array Value} (b : Bool) (hq : P.eqGuardType P.depth T = false) (hr : ∀ w, (Op.equalIn 10000 T (.agg xs) (.agg ys)).run P w = .ok b w) (ho : o.op = .binOp .eql T u v T2) (hg : Region.wanted o (yielded ops a.tmps) = true) (hx : a.eval u = .agg xs) (hy : a.eval v = .agg ys) : YieldsIf P ops S o (.bool b) a :=
  yOf hg fun w _ => by
    unfold execOp
    have hr : ∀ w, (do eqGuard .eql T u v (.agg xs) (.agg ys); binOp .eql T (.agg xs) (.agg ys) : Sem Value).run P w = .ok (.bool b) w := fun w => by
      simp only [Sem.run_bind, run_eqGuard_agg w _ _ _ _ _ _ hq, Result.andThen_ok, run_eql_struct, hr]
    simp only [ho, hx, hy]
    rw [Sem.run_bind, hr]
    rfl
theorem yNeqSt {T : TypeId} (T2 : TypeId) (u v : Operand) {xs ys : Array Value} (b : Bool) (hq : P.eqGuardType P.depth T = false) (hr : ∀ w, (Op.equalIn 10000 T (.agg xs) (.agg ys)).run P w = .ok b w) (ho : o.op = .binOp .neq T u v T2) (hg : Region.wanted o (yielded ops a.tmps) = true) (hx : a.eval u = .agg xs) (hy : a.eval v = .agg ys) : YieldsIf P ops S o (.bool (!b)) a :=
  yOf hg fun w _ => by
    unfold execOp
    have hr : ∀ w, (do eqGuard .neq T u v (.agg xs) (.agg ys); binOp .neq T (.agg xs) (.agg ys) : Sem Value).run P w = .ok (.bool (!b)) w := fun w => by
      simp only [Sem.run_bind, run_eqGuard_agg w _ _ _ _ _ _ hq, Result.andThen_ok, run_neq_struct, hr]
    simp only [ho, hx, hy]
    rw [Sem.run_bind, hr]
    rfl
end
end Go.Proofs.YtdeggdmoijfhdaaDoor
