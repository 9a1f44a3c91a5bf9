/-
  My kit, eighth part: a drawn region by a list of what its operations yield; behind it the frame is as if they had been done in their written order.
-/
import Derived.Test.YtajpdmcbdekpbaaDoorKit7
namespace Go.Proofs.YtajpdmcbdekpbaaDoor
open Go Go.RowKit

/-- what an operation yields: a value; a pointer to a new row of so many cells; (of a store) that row with these cells; or what a predicate says that later worlds keep -/
inductive Spec
  | val (v : Value)
  | fresh (B : Nat) (T : TypeId) (n : Nat)
  | hold (B : Nat) (T : TypeId) (cs : Array Value)
  | prop (p : World → Value → Prop) (mono : ∀ w w' v, Below w.heap.size w w' → p w v → p w' v)
def Spec.at : Spec → World → Value → Prop
  | .val u, _, v => v = u
  | .fresh B T n, w, v => ∃ g cs, v = .pointer (some ⟨g, 0, none⟩) ∧ B ≤ g ∧ cs.size = n ∧ Row w g T cs
  | .hold B T cs, w, v => ∃ g, v = .pointer (some ⟨g, 0, none⟩) ∧ B ≤ g ∧ Row w g T cs
  | .prop p _, w, v => p w v
theorem Spec.mono {s : Spec} {w w' : World} {v : Value} (hb : Below w.heap.size w w') (h : s.at w v) : s.at w' v := by
  cases s with
  | val u => exact h
  | fresh B T n => obtain ⟨g, cs, h1, h2, h3, h4⟩ := h; exact ⟨g, cs, h1, h2, h3, h4.below hb h4.lt⟩
  | hold B T cs => obtain ⟨g, h1, h2, h4⟩ := h; exact ⟨g, h1, h2, h4.below hb h4.lt⟩
  | prop p m => exact m _ _ _ hb h
def specAt (ss : List Spec) (i : Nat) (w : World) (v : Value) : Prop := match ss[i]? with
  | some s => s.at w v
  | none => True
theorem specAt_mono {ss : List Spec} : ∀ i w w' v, Below w.heap.size w w' → specAt ss i w v → specAt ss i w' v := by
  intro i w w' v hb h
  unfold specAt at *
  split at h
  · exact Spec.mono hb h
  · trivial
/-- all rows that are spoken of may be the one that is written -/
def Singles (T : TypeId) (cs : Array Value) : List Spec → Prop
  | [] => True
  | .val _ :: ss => Singles T cs ss
  | .fresh _ T' n :: ss => (T' = T ∧ cs.size = n) ∧ Singles T cs ss
  | .hold _ T' cs' :: ss => (T' = T ∧ cs' = cs) ∧ Singles T cs ss
  | .prop _ _ :: _ => False
theorem singles_wrote {T : TypeId} {cs : Array Value} {g : Nat} {w w' : World} (hw : Wrote g w w') (hr : Row w' g T cs) : ∀ (ss : List Spec), Singles T cs ss → ∀ i v, specAt ss i w v → specAt ss i w' v := by
  intro ss
  induction ss with
  | nil => intro _ i v _; simp [specAt]
  | cons s ss ih =>
    intro hs i v h
    cases i with
    | succ i =>
      have hs' : Singles T cs ss := by cases s with
        | val _ => exact hs
        | fresh _ _ _ => exact hs.2
        | hold _ _ _ => exact hs.2
        | prop _ _ => exact hs.elim
      exact ih hs' i v h
    | zero =>
      show s.at w' v
      have h : s.at w v := h
      cases s with
      | val u => exact h
      | fresh B T' n =>
        obtain ⟨⟨e1, e2⟩, _⟩ := hs
        obtain ⟨g', cs', h1, h2, h3, h4⟩ := h
        by_cases e : g' = g
        · subst e; subst e1; exact ⟨g', cs, h1, h2, e2, hr⟩
        · exact ⟨g', cs', h1, h2, h3, hw.row h4 e⟩
      | hold B T' cs' =>
        obtain ⟨⟨e1, e2⟩, _⟩ := hs
        obtain ⟨g', h1, h2, h4⟩ := h
        by_cases e : g' = g
        · subst e; subst e1; subst e2; exact ⟨g', h1, h2, hr⟩
        · exact ⟨g', h1, h2, hw.row h4 e⟩
      | prop p m => exact hs.elim

/-- for all values that meet the list -/
def AllV (w : World) : List Spec → (List Value → Prop) → Prop
  | [], k => k []
  | .val u :: ss, k => AllV w ss (fun vs => k (u :: vs))
  | .fresh B T n :: ss, k => ∀ v, (Spec.fresh B T n).at w v → AllV w ss (fun vs => k (v :: vs))
  | .hold B T cs :: ss, k => ∀ g, B ≤ g → Row w g T cs → AllV w ss (fun vs => k (.pointer (some ⟨g, 0, none⟩) :: vs))
  | .prop p _ :: ss, k => ∀ v, p w v → AllV w ss (fun vs => k (v :: vs))
theorem allV_at {w : World} : ∀ (ss : List Spec) (k : List Value → Prop) (vs : List Value), vs.length = ss.length → (∀ i, i < ss.length → specAt ss i w (vs.getD i undef)) → AllV w ss k → k vs
  | [], k, [], _, _, h => h
  | [], k, _ :: _, hl, _, _ => by simp at hl
  | _ :: _, k, [], hl, _, _ => by simp at hl
  | s :: ss, k, v :: vs, hl, hall, h => by
    have h0 : s.at w v := hall 0 (by simp)
    have ht : ∀ i, i < ss.length → specAt ss i w (vs.getD i undef) := fun i hi => hall (i + 1) (by simpa using hi)
    have hl' : vs.length = ss.length := by simpa using hl
    cases s with
    | val u => obtain rfl : v = u := h0; exact allV_at ss _ vs hl' ht h
    | fresh B T n => exact allV_at ss _ vs hl' ht (h v h0)
    | hold B T cs => obtain ⟨g, rfl, h1, h2⟩ := h0; exact allV_at ss _ vs hl' ht (h g h1 h2)
    | prop p m => exact allV_at ss _ vs hl' ht (h v h0)
/-- the frame behind all operations -/
def putAll (a : Act) : List Oper → List Value → Act
  | o :: l, v :: vs => putAll (a.put o.dst v) l vs
  | _, _ => a
theorem putAll_size : ∀ (l : List Oper) (vs : List Value) (a : Act), (putAll a l vs).tmps.size = a.tmps.size
  | [], _, _ => rfl
  | _ :: _, [], _ => rfl
  | o :: l, v :: vs, a => by
    rw [putAll, putAll_size l vs]
    cases hd : o.dst <;> simp [Act.put]
theorem putAll_defers : ∀ (l : List Oper) (vs : List Value) (a : Act), (putAll a l vs).defers = a.defers
  | [], _, _ => rfl
  | _ :: _, [], _ => rfl
  | o :: l, v :: vs, a => by
    rw [putAll, putAll_defers l vs]
    cases hd : o.dst <;> simp [Act.put]
theorem putAll_out {s : Tmp} : ∀ (l : List Oper) (vs : List Value) (a : Act), (∀ (j : Nat) o, l[j]? = some o → o.dst ≠ some s) → (putAll a l vs).tmps.getD s undef = a.tmps.getD s undef
  | [], _, _, _ => rfl
  | _ :: _, [], _, _ => rfl
  | o :: l, v :: vs, a, h => by
    rw [putAll, putAll_out l vs _ fun j o' hj => h (j + 1) o' (by simpa using hj)]
    have h0 := h 0 o rfl
    cases hd : o.dst with
    | none => rfl
    | some d =>
      have hne : d ≠ s := fun e => h0 (by rw [hd, e])
      simp [Act.put, Array.getElem?_setIfInBounds_ne hne]
theorem putAll_in {s : Tmp} : ∀ (l : List Oper) (vs : List Value) (a : Act) (i : Nat) (o : Oper), s < a.tmps.size → l.length = vs.length → l[i]? = some o → o.dst = some s → (∀ (j : Nat) o', l[j]? = some o' → j ≠ i → o'.dst ≠ some s) → (putAll a l vs).tmps.getD s undef = vs.getD i undef
  | [], _, _, _, _, _, _, h, _, _ => by simp at h
  | _ :: _, [], _, _, _, _, hl, _, _, _ => by simp at hl
  | o :: l, v :: vs, a, 0, o', hs, hl, hi, hd, hall => by
    obtain rfl : o = o' := by simpa using hi
    rw [putAll, putAll_out l vs _ fun j o' hj => hall (j + 1) o' (by simpa using hj) (by omega)]
    rw [hd, put_get hs]; simp
  | o :: l, v :: vs, a, i + 1, o', hs, hl, hi, hd, hall => by
    rw [putAll, putAll_in l vs _ i o' (by cases hq : o.dst <;> simpa [Act.put] using hs) (by simpa using hl) (by simpa using hi) hd fun j o2 hj hne => hall (j + 1) o2 (by simpa using hj) (by omega)]
    simp

/-- what is known of an operation's value at the end: of a new variable, what the store says that is done to it -/
def finAt (l : List Oper) (alt : Nat → Nat) (ss : List Spec) (j : Nat) : Spec :=
  match (l[j]?).bind (·.dst) with
  | none => .val undef
  | some _ => match (List.range l.length).find? (fun i => alt i == j && ((l[i]?).bind (·.dst)).isNone) with
    | some i => ss.getD i (.val undef)
    | none => ss.getD j (.val undef)
def finList (l : List Oper) (alt : Nat → Nat) (ss : List Spec) : List Spec := (List.range l.length).map (finAt l alt ss)

section
variable {P : Program} {Q : Exit → Act → World → Prop}
/-- what a step must show -/
def SymStep (P : Program) (Q : Exit → Act → World → Prop) (l : List Oper) (alt : Nat → Nat) (ss : List Spec) (a0 : Act) (w0 : World) (i : Nat) (o : Oper) : Prop :=
  ∀ a w, a.tmps.size = a0.tmps.size → (∀ s, (∀ (j : Nat) o, l[j]? = some o → o.dst ≠ some s) → a.tmps.getD s undef = a0.tmps.getD s undef) → Below w0.heap.size w0 w →
      (∀ e ∈ o.after, Region.binds .any e = true → specAt ss e.on w (a.tmps.getD (srcOf l alt e.on) undef)) →
      wpList P l.toArray (Exit.then (fun a' w' => ∃ v, a' = a.put o.dst v ∧ Below w0.heap.size w0 w' ∧ (∀ j u, specAt ss j w u → specAt ss j w' u) ∧ specAt ss i w' (a'.tmps.getD (srcOf l alt i) undef)) (NoPanic Q)) [o] a w

theorem region_sym {id : Nat} {a0 : Act} {w0 : World} {l : List Oper} (alt : Nat → Nat) (ss fs : List Spec) (hm : P.follows .mixedOrders = true) (hB : slots2B l a0.tmps.size alt = true) (hl : ss.length = l.length) (hfs : finList l alt ss = fs)
    (hstep : ∀ i o, l[i]? = some o → SymStep P Q l alt ss a0 w0 i o)
    (hfin : ∀ w, Below w0.heap.size w0 w → AllV w fs (fun vs => Q .normal (putAll a0 l vs) w)) :
    (Code.region id l.toArray true).wp P Q a0 w0 := by
  refine region_inv2 alt (specAt ss) hm hB hstep ?_
  intro a w hsz hdf hbel hoth hall
  have hf := hfin w hbel
  obtain ⟨vs, hvs⟩ : ∃ vs : List Value, vs = (List.range l.length).map fun j => match (l[j]?).bind (·.dst) with | some d => a.tmps.getD d undef | none => undef := ⟨_, rfl⟩
  have hvl : vs.length = l.length := by rw [hvs]; simp
  have hva : ∀ j, j < l.length → vs.getD j undef = match (l[j]?).bind (·.dst) with | some d => a.tmps.getD d undef | none => undef := fun j hj => by
    rw [hvs]; simp [List.getD_eq_getElem?_getD, hj]
  have key := allV_at fs _ vs (by rw [← hfs, hvl]; simp [finList]) (fun j hj => by
    rw [← hfs] at hj ⊢
    have hjl : j < l.length := by simpa [finList] using hj
    have e1 : (finList l alt ss)[j]? = some (finAt l alt ss j) := by simp [finList, hjl]
    unfold specAt
    rw [e1]
    show (finAt l alt ss j).at w (vs.getD j undef)
    rw [hva j hjl]
    obtain ⟨o, ho⟩ : ∃ o, l[j]? = some o := ⟨l[j], List.getElem?_eq_getElem hjl⟩
    have hss : ∀ i, i < l.length → ss[i]? = some (ss.getD i (.val undef)) := fun i hi => by
      rw [List.getD_eq_getElem?_getD, List.getElem?_eq_getElem (by omega)]; simp
    unfold finAt
    cases hd : o.dst with
    | none => simp [ho, hd, Spec.at]
    | some d =>
      have ho2 : (l[j]?).bind (·.dst) = some d := by rw [ho]; simp [hd]
      rw [ho2]
      show Spec.at (match (List.range l.length).find? (fun i => alt i == j && ((l[i]?).bind (·.dst)).isNone) with | some i => ss.getD i (.val undef) | none => ss.getD j (.val undef)) w (a.tmps.getD d undef)
      cases hq : (List.range l.length).find? (fun i => alt i == j && ((l[i]?).bind (·.dst)).isNone) with
      | none =>
        have h1 := hall j hjl
        unfold specAt at h1
        rw [hss j hjl] at h1
        have es : srcOf l alt j = d := by unfold srcOf; simp [ho, hd]
        rw [es] at h1
        exact h1
      | some i =>
        have h2 := List.find?_some hq
        have hil : i < l.length := by simpa using List.mem_of_find?_eq_some hq
        simp only [Bool.and_eq_true, beq_iff_eq] at h2
        obtain ⟨h3, h4⟩ := h2
        obtain ⟨oi, hoi⟩ : ∃ o, l[i]? = some o := ⟨l[i], List.getElem?_eq_getElem hil⟩
        rw [hoi] at h4
        have h5 : oi.dst = none := by simpa using h4
        have h1 := hall i hil
        unfold specAt at h1
        rw [hss i hil] at h1
        have es : srcOf l alt i = d := by unfold srcOf; simp [hoi, h5, h3, dstOf, ho, hd]
        rw [es] at h1
        exact h1) hf
  have ea : a = putAll a0 l vs := by
    have hs2 := putAll_size l vs a0
    have hd2 := putAll_defers l vs a0
    obtain ⟨tm, df⟩ := a
    generalize hpa : putAll a0 l vs = pa at *
    obtain ⟨tm2, df2⟩ := pa
    have e1 : tm = tm2 := by
      have hn : tm.size = a0.tmps.size := hsz
      have hn2 : tm2.size = a0.tmps.size := hs2
      apply Array.ext (by omega)
      intro s h1 h2
      have hg : tm.getD s undef = tm2.getD s undef := by
        by_cases hin : ∃ (j : Nat) (o : Oper), l[j]? = some o ∧ o.dst = some s
        · obtain ⟨j, o, ho, hd⟩ := hin
          have hjl : j < l.length := (List.getElem?_eq_some_iff.1 ho).1
          have h3 := putAll_in l vs a0 j o (Nat.lt_of_lt_of_eq h1 hn) hvl.symm ho hd ((slots2_at hB ho).1 s hd).2
          rw [hpa] at h3
          rw [show tm2.getD s undef = vs.getD j undef from h3, hva j hjl, ho]
          simp [hd]
        · have hno : ∀ (j : Nat) o, l[j]? = some o → o.dst ≠ some s := fun j o hj hd => hin ⟨j, o, hj, hd⟩
          have h3 := putAll_out l vs a0 hno
          rw [hpa] at h3
          exact (hoth s hno).trans h3.symm
      simpa [h1, h2] using hg
    have e2 : df = df2 := hdf.trans hd2.symm
    rw [e1, e2]
  rw [ea]; exact key

/-- the end of a step that yields a value -/
theorem symV {l : List Oper} {alt : Nat → Nat} {ss : List Spec} {a0 a : Act} {w0 w w' : World} {o : Oper} {i d : Nat} {v : Value} (hbel : Below w0.heap.size w0 w) (hsz : a.tmps.size = a0.tmps.size) (hd : o.dst = some d) (hs : srcOf l alt i = d) (hdn : d < a0.tmps.size) (hB : Below w.heap.size w w') (hp : specAt ss i w' v) :
    wpList P l.toArray (Exit.then (fun a' w' => ∃ v, a' = a.put o.dst v ∧ Below w0.heap.size w0 w' ∧ (∀ j u, specAt ss j w u → specAt ss j w' u) ∧ specAt ss i w' (a'.tmps.getD (srcOf l alt i) undef)) (NoPanic Q)) [] (a.put o.dst v) w' :=
  stepV specAt_mono hbel hsz hd hs hdn hB hp
/-- the end of a step that writes a new variable -/
theorem symW {l : List Oper} {alt : Nat → Nat} {ss : List Spec} {a a' : Act} {w0 w w' : World} {o : Oper} {i g : Nat} {T : TypeId} {cs : Array Value} {v : Value} (hbel : Below w0.heap.size w0 w) (ha : a' = a.put o.dst v) (hW : Wrote g w w') (hg : w0.heap.size ≤ g) (hr : Row w' g T cs) (hs : Singles T cs ss) (hp : specAt ss i w' (a'.tmps.getD (srcOf l alt i) undef)) :
    wpList P l.toArray (Exit.then (fun a' w' => ∃ v, a' = a.put o.dst v ∧ Below w0.heap.size w0 w' ∧ (∀ j u, specAt ss j w u → specAt ss j w' u) ∧ specAt ss i w' (a'.tmps.getD (srcOf l alt i) undef)) (NoPanic Q)) [] a' w' :=
  mixOn ⟨v, ha, hbel.trans (hW.below hg), singles_wrote hW hr ss hs, hp⟩

theorem kCall3 {ops : Array Oper} {rest : List Oper} {o : Oper} {a : Act} {w : World} (f : FuncId) (Ts : Array TypeId) (x y z : Operand) (u t s : Value) (ho : o.op = .call { callee := .value (.func f), args := #[x, y, z], argTypes := Ts }) (hg : Region.wanted o (yielded ops a.tmps) = true) (hf : bodied P f = true) (hx : a.eval x = u) (hy : a.eval y = t) (hz : a.eval z = s)
    (hc : Calls P f #[u, t, s] w fun e w' => ∃ v, e = .returned v ∧ wpList P ops Q rest (a.put o.dst v) w') : wpList P ops Q (o :: rest) a w := by
  refine BigFrame.wpList_want hg fun K hK => ?_
  have hrun : (execOp a.eval o).run P w = .ok (.enter f #[u, t, s]) w := by
    have hff : a.eval (.func f) = .func (.func f) #[] #[] := rfl
    unfold execOp
    simp only [ho, resolve, List.map_toArray, List.map_cons, List.map_nil, hx, hy, hz, hff, Deferred.ofValue, Sem.run_bind, Sem.run_pure, Result.andThen_ok, invoke]
    simpa using run_callFunc_bodied hf #[u, t, s] w
  unfold Oper.wp
  rw [hrun, Oper.upon_enter]
  exact hc.mono fun e w' ⟨v, he, h⟩ => by subst he; exact hK _ _ h
theorem kCall0 {ops : Array Oper} {rest : List Oper} {o : Oper} {a : Act} {w : World} (f : FuncId) (Ts : Array TypeId) (ho : o.op = .call { callee := .value (.func f), args := #[], argTypes := Ts }) (hg : Region.wanted o (yielded ops a.tmps) = true) (hf : bodied P f = true)
    (hc : Calls P f #[] w fun e w' => ∃ v, e = .returned v ∧ wpList P ops Q rest (a.put o.dst v) w') : wpList P ops Q (o :: rest) a w := by
  refine BigFrame.wpList_want hg fun K hK => ?_
  have hrun : (execOp a.eval o).run P w = .ok (.enter f #[]) w := by
    have hff : a.eval (.func f) = .func (.func f) #[] #[] := rfl
    unfold execOp
    simp only [ho, resolve, List.map_toArray, List.map_nil, hff, Deferred.ofValue, Sem.run_bind, Sem.run_pure, Result.andThen_ok, invoke]
    simpa using run_callFunc_bodied hf #[] w
  unfold Oper.wp
  rw [hrun, Oper.upon_enter]
  exact hc.mono fun e w' ⟨v, he, h⟩ => by subst he; exact hK _ _ h
end
end Go.Proofs.YtajpdmcbdekpbaaDoor
