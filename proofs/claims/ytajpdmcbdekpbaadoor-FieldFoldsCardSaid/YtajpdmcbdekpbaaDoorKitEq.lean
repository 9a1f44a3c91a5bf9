/-
  My kit: '==' and '!=' of texts and of arrays of numbers.
-/
import Derived.Test.YtajpdmcbdekpbaaDoorKitStr
import Derived.Laws.StructEq
namespace Go.Proofs.YtajpdmcbdekpbaaDoor
open Go Go.RowKit

theorem run_eqlStr {P : Program} {w : World} (T : TypeId) (l m : List UInt8) (x y : Operand) : (do eqGuard .eql T x y (textV l) (textV m); binOp .eql T (textV l) (textV m) : Sem Value).run P w = .ok (.bool (l == m)) w := by
  simp [eqGuard, textV, binOp_string_eql]
theorem run_neqStr {P : Program} {w : World} (T : TypeId) (l m : List UInt8) (x y : Operand) : (do eqGuard .neq T x y (textV l) (textV m); binOp .neq T (textV l) (textV m) : Sem Value).run P w = .ok (.bool (l != m)) w := by
  simp [eqGuard, textV, binOp, Op.stringOp, bne]

theorem forIn_all {P : Program} {w : World} (body : Nat → Sem Bool) (p : Nat → Bool) : ∀ (l : List Nat), (∀ i ∈ l, (body i).run P w = .ok (p i) w) →
    ((forIn l ((none, ()) : Option Bool × Unit) fun i _ => do
      let r ← body i
      if r = false then pure (ForInStep.done (some false, ())) else pure (ForInStep.yield (none, ())) : Sem (Option Bool × Unit)).run P w) = .ok (if l.all p then none else some false, ()) w
  | [], _ => by simp
  | i :: l, h => by
    have h0 := h i (by simp)
    have ih := forIn_all body p l (fun j hj => h j (by simp [hj]))
    cases hp : p i
    · simp [List.forIn_cons, h0, hp]
    · simp only [List.forIn_cons, Sem.run_bind, h0, hp, Result.andThen_ok, Bool.true_eq_false, if_false, Sem.run_pure]
      rw [ih]
      simp [hp]

theorem run_equalIn_arr {P : Program} {w : World} {T elem : TypeId} {len d : Nat} {k k' : IntKind} (hu : P.underlying T = some (.array len elem)) (he : P.underlying elem = some (.int k')) (hs : (P.info? elem).map (·.size) = some 1) (f g : Nat → Int) :
    (Op.equalIn (d + 2) T (.agg (tab len fun j => .int k (f j))) (.agg (tab len fun j => .int k (g j)))).run P w = .ok ((List.range len).all fun j => f j == g j) w := by
  cases hq : P.info? elem with
  | none => simp [hq] at hs
  | some t =>
    have hs' : t.size = 1 := by simpa [hq] using hs
    have hpart : ∀ (F : Nat → Int) (i : Nat), i < len → (Go.part elem (tab len fun j => .int k (F j)) i).run P w = .ok (.int k (F i)) w := fun F i hi => by
      simp [Go.part, run_isAgg he, aggDesc, tab_get len (fun j => Value.int k (F j)) i hi]
    have hall := forIn_all (P := P) (w := w) (fun i => do
        let a ← Go.part elem (tab len fun j => .int k (f j)) i
        let b ← Go.part elem (tab len fun j => .int k (g j)) i
        Op.equalIn (d + 1) elem a b) (fun i => f i == g i) (List.range' 0 len) (fun i hi => by
      have hi' : i < len := by have := (List.mem_range'_1.1 hi).2; omega
      simp [hpart f i hi', hpart g i hi', run_equalIn_int (P := P) w d elem k k' (f i) (g i) he])
    unfold Op.equalIn
    simp [run_underlying hu, sizeOf, typeInfo, hq, hs']
    simp only [bind_assoc] at hall
    rw [hall, List.range_eq_range']
    cases (List.range' 0 len).all fun i => f i == g i <;> simp

theorem run_eqlArr {P : Program} {w : World} {T elem : TypeId} {len : Nat} {k k' : IntKind} (hu : P.underlying T = some (.array len elem)) (he : P.underlying elem = some (.int k')) (hs : (P.info? elem).map (·.size) = some 1) (hq : P.eqGuardType P.depth T = false) (f g : Nat → Int) (x y : Operand) :
    (do eqGuard .eql T x y (.agg (tab len fun j => .int k (f j))) (.agg (tab len fun j => .int k (g j))); binOp .eql T (.agg (tab len fun j => .int k (f j))) (.agg (tab len fun j => .int k (g j))) : Sem Value).run P w = .ok (.bool ((List.range len).all fun j => f j == g j)) w := by
  have h := run_equalIn_arr (P := P) (w := w) (d := 9998) (k := k) hu he hs f g
  simp [eqGuard, binOp, Op.equal, Op.maxDepth, hq, h]
theorem run_neqArr {P : Program} {w : World} {T elem : TypeId} {len : Nat} {k k' : IntKind} (hu : P.underlying T = some (.array len elem)) (he : P.underlying elem = some (.int k')) (hs : (P.info? elem).map (·.size) = some 1) (hq : P.eqGuardType P.depth T = false) (f g : Nat → Int) (x y : Operand) :
    (do eqGuard .neq T x y (.agg (tab len fun j => .int k (f j))) (.agg (tab len fun j => .int k (g j))); binOp .neq T (.agg (tab len fun j => .int k (f j))) (.agg (tab len fun j => .int k (g j))) : Sem Value).run P w = .ok (.bool (!(List.range len).all fun j => f j == g j)) w := by
  have h := run_equalIn_arr (P := P) (w := w) (d := 9998) (k := k) hu he hs f g
  simp [eqGuard, binOp, Op.equal, Op.maxDepth, hq, h]

section
variable {P : Program} {ops : Array Oper} {Q : Exit → Act → World → Prop} {rest : List Oper} {o : Oper} {a : Act} {w : World}
theorem kEqlStr (T T2 : TypeId) (x y : Operand) (l m : List UInt8) (b : Bool) (ho : o.op = .binOp .eql T x y T2) (hg : Region.wanted o (yielded ops a.tmps) = true) (hx : a.eval x = textV l) (hy : a.eval y = textV m) (hb : (l == m) = b)
    (h : wpList P ops Q rest (a.put o.dst (.bool b)) w) : wpList P ops Q (o :: rest) a w := by
  subst hb
  refine BigFrame.wpList_want hg fun K hK => ?_
  unfold Oper.wp execOp
  have hr := run_eqlStr (P := P) (w := w) T l m x y
  simp only [ho, hx, hy]
  rw [Sem.run_bind, hr]
  exact hK _ _ h
theorem kNeqStr (T T2 : TypeId) (x y : Operand) (l m : List UInt8) (b : Bool) (ho : o.op = .binOp .neq T x y T2) (hg : Region.wanted o (yielded ops a.tmps) = true) (hx : a.eval x = textV l) (hy : a.eval y = textV m) (hb : (l != m) = b)
    (h : wpList P ops Q rest (a.put o.dst (.bool b)) w) : wpList P ops Q (o :: rest) a w := by
  subst hb
  refine BigFrame.wpList_want hg fun K hK => ?_
  unfold Oper.wp execOp
  have hr := run_neqStr (P := P) (w := w) T l m x y
  simp only [ho, hx, hy]
  rw [Sem.run_bind, hr]
  exact hK _ _ h
theorem kEqlArr (T T2 elem : TypeId) (x y : Operand) (len : Nat) (k k' : IntKind) (f g : Nat → Int) (b : Bool) (ho : o.op = .binOp .eql T x y T2) (hg : Region.wanted o (yielded ops a.tmps) = true) (hx : a.eval x = .agg (tab len fun j => .int k (f j))) (hy : a.eval y = .agg (tab len fun j => .int k (g j)))
    (hu : P.underlying T = some (.array len elem)) (he : P.underlying elem = some (.int k')) (hs : (P.info? elem).map (·.size) = some 1) (hq : P.eqGuardType P.depth T = false) (hb : ((List.range len).all fun j => f j == g j) = b)
    (h : wpList P ops Q rest (a.put o.dst (.bool b)) w) : wpList P ops Q (o :: rest) a w := by
  subst hb
  refine BigFrame.wpList_want hg fun K hK => ?_
  unfold Oper.wp execOp
  have hr := run_eqlArr (P := P) (w := w) (k := k) hu he hs hq f g x y
  simp only [ho, hx, hy]
  rw [Sem.run_bind, hr]
  exact hK _ _ h
theorem kNeqArr (T T2 elem : TypeId) (x y : Operand) (len : Nat) (k k' : IntKind) (f g : Nat → Int) (b : Bool) (ho : o.op = .binOp .neq T x y T2) (hg : Region.wanted o (yielded ops a.tmps) = true) (hx : a.eval x = .agg (tab len fun j => .int k (f j))) (hy : a.eval y = .agg (tab len fun j => .int k (g j)))
    (hu : P.underlying T = some (.array len elem)) (he : P.underlying elem = some (.int k')) (hs : (P.info? elem).map (·.size) = some 1) (hq : P.eqGuardType P.depth T = false) (hb : (!(List.range len).all fun j => f j == g j) = b)
    (h : wpList P ops Q rest (a.put o.dst (.bool b)) w) : wpList P ops Q (o :: rest) a w := by
  subst hb
  refine BigFrame.wpList_want hg fun K hK => ?_
  unfold Oper.wp execOp
  have hr := run_neqArr (P := P) (w := w) (k := k) hu he hs hq f g x y
  simp only [ho, hx, hy]
  rw [Sem.run_bind, hr]
  exact hK _ _ h
end
theorem all_refl (n : Nat) (f : Nat → Int) : ((List.range n).all fun j => f j == f j) = true := by simp

end Go.Proofs.YtajpdmcbdekpbaaDoor
