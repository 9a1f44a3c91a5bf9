/-
  My kit: general laws of steps (a call that yields here and now, new variables of whose place no equation is told, arrays and slices in drawn regions), over whatever program.
-/
import Derived.Test.YtajpdmcbdekpbaaDoorKit7
import Derived.Laws.Externs
namespace Go.Proofs.YtajpdmcbdekpbaaDoor
open Go Go.RowKit

section
variable {P : Program} {ops : Array Oper} {S : World → Prop} {Q : Exit → Act → World → Prop} {L : Act → World → Prop} {bs : List Bool} {o : Oper} {rest : List Oper} {a : Act} {w : World}
/-- a call that yields its value here and now -/
theorem exec_call3 {f : FuncId} {x y z : Operand} {Ts : Array TypeId} {u v t r : Value} (ho : o.op = .call { callee := .value (.func f), args := #[x, y, z], argTypes := Ts }) (hx : a.eval x = u) (hy : a.eval y = v) (hz : a.eval z = t)
    (hr : (callFunc f #[u, v, t]).run P w = .ok (.value r) w) : (execOp a.eval o).run P w = .ok (.value r) w := by
  have hff : a.eval (.func f) = .func (.func f) #[] #[] := rfl
  unfold execOp
  simp only [ho, resolve, List.map_toArray, List.map_cons, List.map_nil, hx, hy, hz, hff, Deferred.ofValue, Sem.run_bind, Sem.run_pure, Result.andThen_ok, invoke]
  simpa using hr
theorem kCallV3 (f : FuncId) (x y z : Operand) (Ts : Array TypeId) (u v t r : Value) (ho : o.op = .call { callee := .value (.func f), args := #[x, y, z], argTypes := Ts }) (hg : Region.wanted o (yielded ops a.tmps) = true) (hx : a.eval x = u) (hy : a.eval y = v) (hz : a.eval z = t)
    (hr : (callFunc f #[u, v, t]).run P w = .ok (.value r) w) (h : wpList P ops Q rest (a.put o.dst r) w) : wpList P ops Q (o :: rest) a w := by
  refine BigFrame.wpList_want hg fun K hK => ?_
  unfold Oper.wp
  rw [exec_call3 ho hx hy hz hr]
  exact hK _ _ h
theorem mixCallV3 (f : FuncId) (x y z : Operand) (Ts : Array TypeId) (u v t r : Value) (hS : S w) (ho : o.op = .call { callee := .value (.func f), args := #[x, y, z], argTypes := Ts }) (hg : Region.wanted o (yielded ops a.tmps) = true) (hx : a.eval x = u) (hy : a.eval y = v) (hz : a.eval z = t)
    (hr : ∀ w, (callFunc f #[u, v, t]).run P w = .ok (.value r) w) (h : wpMix P ops Q S L bs rest (a.put o.dst r) w) : wpMix P ops Q S L (true :: bs) (o :: rest) a w :=
  mixQuiet _ hS hg (fun w _ => exec_call3 ho hx hy hz (hr w)) h
theorem mixIndexAddr1 (T elem : TypeId) (x y : Operand) (k : IntKind) (g : Nat) (i : Int) (j len : Nat) (hS : S w) (ho : o.op = .indexAddr T x y) (hg : Region.wanted o (yielded ops a.tmps) = true)
    (hx : a.eval x = .pointer (some ⟨g, 0, none⟩)) (hy : a.eval y = .int k i) (hu : P.underlying T = some (.array len elem))
    (hs : (P.info? elem).map (·.size) = some 1) (hi : i = (j : Int)) (hj : j < len)
    (h : wpMix P ops Q S L bs rest (a.put o.dst (.pointer (some ⟨g, j, none⟩))) w) : wpMix P ops Q S L (true :: bs) (o :: rest) a w := by
  refine mixQuiet _ hS hg (fun w _ => ?_) h
  subst hi
  unfold execOp
  cases hq : P.info? elem with
  | none => simp [hq] at hs
  | some t =>
    have hs' : t.size = 1 := by simpa [hq] using hs
    have hc : (0 : Int) ≤ (j : Int) ∧ (j : Int) < (len : Int) := by omega
    simp only [ho, hx, hy]
    simp [Instr.indexAt, asIntOf, run_underlying hu, hc, Instr.sureAddr, sizeOf, typeInfo, hq, hs', add_none]
    omega
theorem mixLoad1 (T U : TypeId) (x : Operand) (g off : Nat) (cs : Array Value) (v : Value) (d : TypeDesc) (hS : S w) (ho : o.op = .load T x) (hg : Region.wanted o (yielded ops a.tmps) = true)
    (hx : a.eval x = .pointer (some ⟨g, off, none⟩)) (hr : ∀ w, S w → Row w g U cs) (hu : P.underlying T = some d) (hd : aggDesc d = false) (hv : cs[off]? = some v)
    (h : wpMix P ops Q S L bs rest (a.put o.dst v) w) : wpMix P ops Q S L (true :: bs) (o :: rest) a w := by
  refine mixQuiet _ hS hg (fun w hw => ?_) h
  unfold execOp
  simp only [ho, hx, Instr.loadAt, Instr.sureAddr, Sem.run_bind, Sem.run_pure, Result.andThen_ok, run_load1 (hr w hw) hu hd hv]
theorem mixExtract (x : Operand) (i : Nat) (vs : Array Value) (v : Value) (hS : S w) (ho : o.op = .extract x i) (hg : Region.wanted o (yielded ops a.tmps) = true) (hx : a.eval x = .tuple vs) (hv : vs[i]? = some v)
    (h : wpMix P ops Q S L bs rest (a.put o.dst v) w) : wpMix P ops Q S L (true :: bs) (o :: rest) a w := by
  refine mixQuiet _ hS hg (fun w _ => ?_) h
  unfold execOp
  simp [ho, hx, Instr.extract, hv]
end

section
variable {P : Program} {ops : Array Oper} {Q : Exit → Act → World → Prop} {rest : List Oper} {o : Oper} {a : Act} {w : World}
/-- a new variable, of whose place no equation is told -/
theorem kAllocL (T : TypeId) (Z : Array Value) (ho : o.op = .alloc T) (hg : Region.wanted o (yielded ops a.tmps) = true) (hz : ((P.info? T).bind (·.zero)).map Value.cells = some Z)
    (h : ∀ w1, Row w1 w.heap.size T Z → w.heap.size < w1.heap.size → Below w.heap.size w w1 → wpList P ops Q rest (a.put o.dst (.pointer (some ⟨w.heap.size, 0, none⟩))) w1) : wpList P ops Q (o :: rest) a w :=
  kAlloc T Z ho hg hz fun w1 hr hs hb => h w1 hr (by omega) hb
theorem kBoxL (T : TypeId) (x : Operand) (cs : Array Value) (ho : o.op = .box T x) (hg : Region.wanted o (yielded ops a.tmps) = true) (hx : a.eval x = .agg cs)
    (h : ∀ w1, Row w1 w.heap.size T cs → w.heap.size < w1.heap.size → Below w.heap.size w w1 → wpList P ops Q rest (a.put o.dst (.pointer (some ⟨w.heap.size, 0, none⟩))) w1) : wpList P ops Q (o :: rest) a w :=
  kBox T x cs ho hg hx fun w1 hr hs hb => h w1 hr (by omega) hb
end

/-- what a function hands back: a row of its own and a value; two rows of its own -/
theorem result_row_tmp {P : Program} {a : Act} {w : World} {fn : Func} {R : Ending → World → Prop} {p u : Tmp} {T U : TypeId} {d : TypeDesc} {g : Nat} {cs : Array Value} {v : Value} (h : fn.results = #[.cell p T, .tmp u])
    (hp : a.tmps.getD p undef = .pointer (some ⟨g, 0, none⟩)) (hv : a.tmps.getD u undef = v) (hr : Row w g U cs) (hu : P.underlying T = some d) (hd : aggDesc d = true)
    (hi : (P.info? T).map (·.size) = some cs.size) (hdf : a.defers = []) (hR : R (.returned (.tuple #[.agg cs, v])) w) : bodyPost P fn R .ret a w := by
  refine bodyPost_ret (v := .tuple #[.agg cs, v]) ?_ hdf hR
  have hp' : a.tmps[p]?.getD undef = .pointer (some ⟨g, 0, none⟩) := by simpa using hp
  have hv' : a.tmps[u]?.getD undef = v := by simpa using hv
  simp [results, h, hp', hv', asAddr, run_loadVar_row w g U T cs _ d hr hu (by cases d <;> first | rfl | cases hd) hi]
theorem result_row2 {P : Program} {a : Act} {w : World} {fn : Func} {R : Ending → World → Prop} {p q : Tmp} {T T2 U U2 : TypeId} {d d2 : TypeDesc} {g g2 : Nat} {cs cs2 : Array Value} (h : fn.results = #[.cell p T, .cell q T2])
    (hp : a.tmps.getD p undef = .pointer (some ⟨g, 0, none⟩)) (hq : a.tmps.getD q undef = .pointer (some ⟨g2, 0, none⟩)) (hr : Row w g U cs) (hu : P.underlying T = some d) (hd : aggDesc d = true)
    (hi : (P.info? T).map (·.size) = some cs.size) (hr2 : Row w g2 U2 cs2) (hu2 : P.underlying T2 = some d2) (hd2 : aggDesc d2 = true)
    (hi2 : (P.info? T2).map (·.size) = some cs2.size) (hdf : a.defers = []) (hR : R (.returned (.tuple #[.agg cs, .agg cs2])) w) : bodyPost P fn R .ret a w := by
  refine bodyPost_ret (v := .tuple #[.agg cs, .agg cs2]) ?_ hdf hR
  have hp' : a.tmps[p]?.getD undef = .pointer (some ⟨g, 0, none⟩) := by simpa using hp
  have hq' : a.tmps[q]?.getD undef = .pointer (some ⟨g2, 0, none⟩) := by simpa using hq
  simp [results, h, hp', hq', asAddr, run_loadVar_row w g U T cs _ d hr hu (by cases d <;> first | rfl | cases hd) hi, run_loadVar_row w g2 U2 T2 cs2 _ d2 hr2 hu2 (by cases d2 <;> first | rfl | cases hd2) hi2]

section
variable {P : Program} {ops : Array Oper} {S : World → Prop} {Q : Exit → Act → World → Prop} {L : Act → World → Prop} {bs : List Bool} {o : Oper} {rest : List Oper} {a : Act} {w : World}
theorem mixArrayAt (T E : TypeId) (x : Operand) (n len cap : Nat) (p : Option Addr) (hS : S w) (ho : o.op = .sliceToArrayPointer T x) (hg : Region.wanted o (yielded ops a.tmps) = true) (hx : a.eval x = .slice p len cap) (ht : P.underlying T = some (.array n E)) (hn : n ≤ len)
    (h : wpMix P ops Q S L bs rest (a.put o.dst (.pointer p)) w) : wpMix P ops Q S L (true :: bs) (o :: rest) a w :=
  mixQuiet _ hS hg (fun w _ => by
    have : ¬ len < n := by omega
    unfold execOp; simp [ho, hx, Instr.arrayAt, run_underlying ht, this]) h
theorem mixSliceArrFrom (T E : TypeId) (x y : Operand) (len g n : Nat) (k : IntKind) (i : Int) (hS : S w) (ho : o.op = .slice T x (some y) none none) (hg : Region.wanted o (yielded ops a.tmps) = true) (hx : a.eval x = .pointer (some ⟨g, 0, none⟩)) (hy : a.eval y = .int k i) (ht : P.underlying T = some (.array len E)) (hsz : (P.info? E).map (·.size) = some 1) (hi : i = (n : Int)) (hn : n < len)
    (h : wpMix P ops Q S L bs rest (a.put o.dst (.slice (some ⟨g, n, none⟩) (len - n) (len - n))) w) : wpMix P ops Q S L (true :: bs) (o :: rest) a w := by
  refine mixQuiet _ hS hg (fun w _ => ?_) h
  subst hi
  have hrun : (Instr.sliceAt T (.pointer (some ⟨g, 0, none⟩)) (some (.int k (n : Int))) none none).run P w = .ok (.slice (some ⟨g, n, none⟩) (len - n) (len - n)) w := by
    cases hq : P.info? E with
    | none => simp [hq] at hsz
    | some t =>
      have hs' : t.size = 1 := by simpa [hq] using hsz
      have hb : (Instr.sliceBound (.int k (n : Int)) len .sliceB).run P w = .ok n w := by
        have := run_sliceBound (P := P) (w := w) k (n : Int) len .sliceB (by omega) (by omega)
        simpa using this
      have hne : ¬ len = n := by omega
      simp [Instr.sliceAt, run_underlying ht, Instr.sureAddr, Instr.sliceBounds, hb, sizeOf, typeInfo, hq, hs', hne, add_none]
  unfold execOp
  simp only [ho, hx, hy, Option.map_some, Option.map_none, Sem.run_bind, hrun, Result.andThen_ok, Sem.run_pure]
theorem mixLoadAs (T U : TypeId) (x : Operand) (g off n : Nat) (cs vs : Array Value) (d : TypeDesc) (hS : S w) (ho : o.op = .load T x) (hg : Region.wanted o (yielded ops a.tmps) = true)
    (hx : a.eval x = .pointer (some ⟨g, off, none⟩)) (hr : ∀ w, S w → Row w g U cs) (hu : P.underlying T = some d) (hd : aggDesc d = true) (hi : (P.info? T).map (·.size) = some n) (hn : off + n ≤ cs.size) (hv : cs.extract off (off + n) = vs)
    (h : wpMix P ops Q S L bs rest (a.put o.dst (.agg vs)) w) : wpMix P ops Q S L (true :: bs) (o :: rest) a w := by
  subst hv
  refine mixQuiet _ hS hg (fun w hw => ?_) h
  unfold execOp
  simp only [ho, hx, Instr.loadAt, Instr.sureAddr, Sem.run_bind, Sem.run_pure, Result.andThen_ok, run_loadPart (hr w hw) hu hd hi hn]
end

theorem isVals_addr {w : World} {v : Value} {l : List Value} {j : Nat} {u : Value} (h : IsVals w v l) (hj : l[j]? = some u) : ∃ b : Addr, w.cell? b = some u ∧ ∀ (P : Program) (T E : TypeId) (k : IntKind) (w' : World), P.underlying T = some (.slice E) → (P.info? E).map (·.size) = some 1 → (Instr.indexAt T v (.int k (j : Int))).run P w' = .ok (.pointer (some b)) w' := by
  obtain ⟨ao, c, rfl, hc, hnone, hcells⟩ := h
  obtain ⟨b, rfl, hcell⟩ := hcells j u hj
  have hjl := (List.getElem?_eq_some_iff.1 hj).1
  refine ⟨b.add j, hcell, fun P T E k w' ht hs => ?_⟩
  cases hq : P.info? E with
  | none => simp [hq] at hs
  | some t =>
    have hs' : t.size = 1 := by simpa [hq] using hs
    have hc : (0 : Int) ≤ (j : Int) ∧ (j : Int) < (l.length : Int) := by omega
    simp [Instr.indexAt, asIntOf, run_underlying ht, hc, sizeOf, typeInfo, hq, hs']
    intro hle; omega

section
variable {P : Program} {ops : Array Oper} {C : World → Prop} {Q : Act → Prop} {rest : List Oper} {o : Oper} {a : Act}
theorem qIndexAddrB (T E : TypeId) (x y : Operand) (k : IntKind) (v : Value) (i : Int) (j : Nat) (b : Addr) (ho : o.op = .indexAddr T x y) (hg : Region.wanted o (yielded ops a.tmps) = true) (hx : a.eval x = v) (hy : a.eval y = .int k i) (hi : i = (j : Int)) (ht : P.underlying T = some (.slice E)) (hs : (P.info? E).map (·.size) = some 1)
    (hrun : ∀ (P : Program) (T E : TypeId) (k : IntKind) (w' : World), P.underlying T = some (.slice E) → (P.info? E).map (·.size) = some 1 → (Instr.indexAt T v (.int k (j : Int))).run P w' = .ok (.pointer (some b)) w')
    (h : wpQuiet P ops C Q rest (a.put o.dst (.pointer (some b)))) : wpQuiet P ops C Q (o :: rest) a := by
  subst hi
  refine qStep _ hg (fun w _ => ?_) h
  unfold execOp
  simp only [ho, hx, hy, Sem.run_bind, hrun P T E k w ht hs, Result.andThen_ok, Sem.run_pure]
theorem qLoadB (T : TypeId) (x : Operand) (b : Addr) (v : Value) (d : TypeDesc) (ho : o.op = .load T x) (hg : Region.wanted o (yielded ops a.tmps) = true) (hx : a.eval x = .pointer (some b)) (hr : ∀ w, C w → w.cell? b = some v) (hu : P.underlying T = some d) (hd : aggDesc d = false)
    (h : wpQuiet P ops C Q rest (a.put o.dst v)) : wpQuiet P ops C Q (o :: rest) a := by
  refine qStep _ hg (fun w hw => ?_) h
  unfold execOp
  have hcell := hr w hw
  have hl : (loadVar T b).run P w = .ok v w := by simp [loadVar, Sem.run_bind, run_isAgg hu, hd, load, Sem.run, hcell]
  simp only [ho, hx, Instr.loadAt, Instr.sureAddr, Sem.run_bind, Sem.run_pure, Result.andThen_ok, hl]
end

theorem qEqlBool {P : Program} {ops : Array Oper} {C : World → Prop} {Q : Act → Prop} {rest : List Oper} {o : Oper} {a : Act} (T T2 : TypeId) (x y : Operand) (b c d : Bool) (ho : o.op = .binOp .eql T x y T2) (hg : Region.wanted o (yielded ops a.tmps) = true) (hx : a.eval x = .bool b) (hy : a.eval y = .bool c) (ht : P.underlying T = some .bool) (hd : (b == c) = d)
    (h : wpQuiet P ops C Q rest (a.put o.dst (.bool d))) : wpQuiet P ops C Q (o :: rest) a := by
  subst hd
  refine qStep _ hg (fun w _ => ?_) h
  have hr := run_eqlBool (P := P) (w := w) T b c x y ht
  unfold execOp
  simp only [ho, hx, hy]
  rw [Sem.run_bind, hr]; rfl
theorem qLeqInt {P : Program} {ops : Array Oper} {C : World → Prop} {Q : Act → Prop} {rest : List Oper} {o : Oper} {a : Act} (T2 : TypeId) (x y : Operand) (b c : Int) (d : Bool) {T : TypeId} (ho : o.op = .binOp .leq T x y T2) (hg : Region.wanted o (yielded ops a.tmps) = true) (hx : a.eval x = .int .i64 b) (hy : a.eval y = .int .i64 c) (hd : decide (b ≤ c) = d)
    (h : wpQuiet P ops C Q rest (a.put o.dst (.bool d))) : wpQuiet P ops C Q (o :: rest) a := by
  subst hd
  refine qStep _ hg (fun w _ => ?_) h
  unfold execOp
  simp only [ho, hx, hy]
  simp [eqGuard, binOp, Op.intCmp]

section
variable {P : Program} {ops : Array Oper} {C : World → Prop} {Q : Act → Prop} {rest : List Oper} {o : Oper} {a : Act}
theorem qSliceArrAll (T E : TypeId) (x : Operand) (len g : Nat) (ho : o.op = .slice T x none none none) (hg : Region.wanted o (yielded ops a.tmps) = true) (hx : a.eval x = .pointer (some ⟨g, 0, none⟩)) (ht : P.underlying T = some (.array len E)) (hsz : (P.info? E).map (·.size) = some 1)
    (h : wpQuiet P ops C Q rest (a.put o.dst (.slice (some ⟨g, 0, none⟩) len len))) : wpQuiet P ops C Q (o :: rest) a :=
  qStep _ hg (fun w _ => by unfold execOp; simp only [ho, hx, Option.map_none, Sem.run_bind, run_sliceArrAll ht hsz, Result.andThen_ok, Sem.run_pure]) h
theorem qToString (src dst E : TypeId) (x : Operand) (v : Value) (l : List UInt8) (ho : o.op = .convert src dst x) (hg : Region.wanted o (yielded ops a.tmps) = true) (hx : a.eval x = v) (hv : ∀ w, C w → IsVals w v (l.map VB)) (hs : P.underlying src = some (.slice E)) (he : P.underlying E = some (.int .u8)) (hd : P.underlying dst = some .string)
    (h : wpQuiet P ops C Q rest (a.put o.dst (textV l))) : wpQuiet P ops C Q (o :: rest) a :=
  qStep _ hg (fun w hw => by unfold execOp; simp only [ho, hx, Sem.run_bind, run_toString (hv w hw) hs he hd, Result.andThen_ok, Sem.run_pure]) h
theorem qLssStr (T T2 : TypeId) (x y : Operand) (l m : List UInt8) (b : Bool) (ho : o.op = .binOp .lss T x y T2) (hg : Region.wanted o (yielded ops a.tmps) = true) (hx : a.eval x = textV l) (hy : a.eval y = textV m) (hb : Op.bytesLess l m = b)
    (h : wpQuiet P ops C Q rest (a.put o.dst (.bool b))) : wpQuiet P ops C Q (o :: rest) a := by
  subst hb
  refine qStep _ hg (fun w _ => ?_) h
  unfold execOp
  simp only [ho, hx, hy]
  simp [eqGuard, textV, binOp_string_lss]
end

section
variable {P : Program} {ops : Array Oper} {S : World → Prop} {Q : Exit → Act → World → Prop} {L : Act → World → Prop} {bs : List Bool} {o : Oper} {rest : List Oper} {a : Act} {w : World}
theorem mixPick (c x y : Operand) (b : Bool) (v : Value) (hS : S w) (ho : o.op = .pick c x y) (hg : Region.wanted o (yielded ops a.tmps) = true) (hc : a.eval c = .bool b) (hv : (if b = true then a.eval x else a.eval y) = v)
    (h : wpMix P ops Q S L bs rest (a.put o.dst v) w) : wpMix P ops Q S L (true :: bs) (o :: rest) a w := by
  subst hv
  refine mixQuiet _ hS hg (fun w _ => ?_) h
  unfold execOp
  simp only [ho, hc, asBool, Sem.run_bind, Sem.run_pure, Result.andThen_ok]
theorem mixEqlBool (T T2 : TypeId) (x y : Operand) (b c d : Bool) (hS : S w) (ho : o.op = .binOp .eql T x y T2) (hg : Region.wanted o (yielded ops a.tmps) = true) (hx : a.eval x = .bool b) (hy : a.eval y = .bool c) (ht : P.underlying T = some .bool) (hd : (b == c) = d)
    (h : wpMix P ops Q S L bs rest (a.put o.dst (.bool d)) w) : wpMix P ops Q S L (true :: bs) (o :: rest) a w := by
  subst hd
  refine mixQuiet _ hS hg (fun w _ => ?_) h
  have hr := run_eqlBool (P := P) (w := w) T b c x y ht
  unfold execOp
  simp only [ho, hx, hy]
  rw [Sem.run_bind, hr]; rfl
theorem exec_geq {T T2 : TypeId} {x y : Operand} {z c : Int} {d : Bool} (ho : o.op = .binOp .geq T x y T2) (hx : a.eval x = .int .i64 z) (hy : a.eval y = .int .i64 c) (hd : decide (z ≥ c) = d) (w : World) : (execOp a.eval o).run P w = .ok (.value (.bool d)) w := by
  subst hd
  unfold execOp
  simp only [ho, hx, hy]
  simp [eqGuard, binOp, Op.intCmp]
end

end Go.Proofs.YtajpdmcbdekpbaaDoor
