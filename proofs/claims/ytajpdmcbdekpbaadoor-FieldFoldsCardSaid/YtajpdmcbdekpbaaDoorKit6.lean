/-
  My kit, sixth part: a drawn region by an invariant, in which some operations write: such a one has no slot, and its predicate speaks of the slot of an operation that it waits for.
-/
import Derived.Test.YtajpdmcbdekpbaaDoorKit5
namespace Go.Proofs.YtajpdmcbdekpbaaDoor
open Go Go.RowKit

section
variable {P : Program} {Q : Exit → Act → World → Prop}

/-- the slot of which an operation's predicate speaks -/
def srcOf (l : List Oper) (alt : Nat → Nat) (j : Nat) : Tmp := match l[j]? with
  | some o => (match o.dst with
    | some d => d
    | none => dstOf l (alt j))
  | none => 0
/-- every operation has a slot of its own, inside the frame, or none, and then waits for one that has; what it waits for comes before it -/
def slots2B (l : List Oper) (n : Nat) (alt : Nat → Nat) : Bool :=
  (List.range l.length).all fun i => match l[i]? with
    | some o => (match o.dst with
        | some d => decide (d < n) && (List.range l.length).all fun j => decide (j = i) || (match l[j]? with | some o' => o'.dst != some d | none => true)
        | none => decide (((l[alt i]?).bind (·.dst)).isSome = true) && o.after.any fun e => e.on == alt i && Region.binds .any e) && o.after.all fun e => !Region.binds .any e || decide (e.on < i)
    | none => true

theorem slots2_at {l : List Oper} {n i : Nat} {alt : Nat → Nat} {o : Oper} (h : slots2B l n alt = true) (hi : l[i]? = some o) :
    (∀ d, o.dst = some d → d < n ∧ ∀ j o', l[j]? = some o' → j ≠ i → o'.dst ≠ some d) ∧ (o.dst = none → (∃ oa d, l[alt i]? = some oa ∧ oa.dst = some d) ∧ ∃ e ∈ o.after, Region.binds .any e = true ∧ e.on = alt i) ∧ ∀ e ∈ o.after, Region.binds .any e = true → e.on < i := by
  have hlt : i < l.length := (List.getElem?_eq_some_iff.1 hi).1
  have h1 := List.all_eq_true.1 h i (List.mem_range.2 hlt)
  simp only [hi, Bool.and_eq_true] at h1
  obtain ⟨h2, h3⟩ := h1
  refine ⟨fun d hd => ?_, fun hd => ?_, fun ed he hb => ?_⟩
  · rw [hd] at h2
    simp only [Bool.and_eq_true, decide_eq_true_eq] at h2
    refine ⟨h2.1, fun j o' hj hne => ?_⟩
    have hjl : j < l.length := (List.getElem?_eq_some_iff.1 hj).1
    have h4 := List.all_eq_true.1 h2.2 j (List.mem_range.2 hjl)
    simp only [hj, Bool.or_eq_true, decide_eq_true_eq] at h4
    rcases h4 with h4 | h4
    · exact absurd h4 hne
    · simpa using h4
  · rw [hd] at h2
    simp only [Bool.and_eq_true, decide_eq_true_eq] at h2
    obtain ⟨h4, h5⟩ := h2
    constructor
    · cases ho : l[alt i]? with
      | none => rw [ho] at h4; cases h4
      | some oa =>
        rw [ho] at h4
        cases hd2 : oa.dst with
        | none => simp [hd2] at h4
        | some d => exact ⟨oa, d, rfl, hd2⟩
    · obtain ⟨e, he, h6⟩ := Array.any_eq_true'.1 h5
      simp only [Bool.and_eq_true, beq_iff_eq] at h6
      exact ⟨e, he, h6.2, h6.1⟩
  · have h4 := (Array.all_eq_true'.1 h3) ed he
    simpa [hb] using h4

structure Midst2 (l : List Oper) (alt : Nat → Nat) (Pr : Nat → World → Value → Prop) (a0 : Act) (w0 : World) (listed : Array Bool) (a : Act) (w : World) : Prop where
  size : a.tmps.size = a0.tmps.size
  defers : a.defers = a0.defers
  below : Below w0.heap.size w0 w
  other : ∀ s, (∀ (j : Nat) o, l[j]? = some o → o.dst ≠ some s) → a.tmps.getD s undef = a0.tmps.getD s undef
  closed : ∀ (j : Nat) o, l[j]? = some o → listed.getD j false = true → ∀ e ∈ o.after, Region.binds .any e = true → listed.getD e.on false = true
  done : ∀ j, j < l.length → listed.getD j false = true → Pr j w (a.tmps.getD (srcOf l alt j) undef)

theorem getD_set_true {listed : Array Bool} {i j : Nat} (h : listed.getD j false = true) : (listed.setIfInBounds i true).getD j false = true := by
  by_cases hij : i = j
  · subst hij
    have hlt : i < listed.size := by
      rcases Nat.lt_or_ge i listed.size with h' | h'
      · exact h'
      · simp [Array.getElem?_eq_none h'] at h
    simp [hlt]
  · rw [getD_set_ne false hij]; exact h

theorem midst2_any {l : List Oper} {alt : Nat → Nat} {Pr : Nat → World → Value → Prop} {a0 : Act} {w0 : World} (hB : slots2B l a0.tmps.size alt = true)
    (hstep : ∀ i o, l[i]? = some o → ∀ a w, a.tmps.size = a0.tmps.size → (∀ s, (∀ (j : Nat) o, l[j]? = some o → o.dst ≠ some s) → a.tmps.getD s undef = a0.tmps.getD s undef) → Below w0.heap.size w0 w →
      (∀ e ∈ o.after, Region.binds .any e = true → Pr e.on w (a.tmps.getD (srcOf l alt e.on) undef)) →
      wpList P l.toArray (Exit.then (fun a' w' => ∃ v, a' = a.put o.dst v ∧ Below w0.heap.size w0 w' ∧ (∀ j u, Pr j w u → Pr j w' u) ∧ Pr i w' (a'.tmps.getD (srcOf l alt i) undef)) (NoPanic Q)) [o] a w)
    (hfin : ∀ a w, a.tmps.size = a0.tmps.size → a.defers = a0.defers → Below w0.heap.size w0 w → (∀ s, (∀ (j : Nat) o, l[j]? = some o → o.dst ≠ some s) → a.tmps.getD s undef = a0.tmps.getD s undef) → (∀ j, j < l.length → Pr j w (a.tmps.getD (srcOf l alt j) undef)) → Q .normal a w) :
    ∀ (f : Nat) (listed : Array Bool) (a : Act) (w : World), listed.size = l.length → listed.toList.count false = f → Midst2 l alt Pr a0 w0 listed a w → wpAny P .any l.toArray Q f listed a w := by
  have hend : ∀ (listed : Array Bool) (a : Act) (w : World), listed.size = l.length → Midst2 l alt Pr a0 w0 listed a w → Region.ready .any l.toArray listed = [] → Q .normal a w := by
    intro listed a w hsz hM hr
    have hall : ∀ n j, j < n → j < l.length → listed.getD j false = true := by
      intro n
      induction n with
      | zero => intro j hj; omega
      | succ n ih =>
        intro j hj hjl
        by_cases hjn : j < n
        · exact ih j hjn hjl
        · obtain rfl : j = n := by omega
          cases hb : listed.getD j false
          · have hun : listed.getD j true = false := getD_in (by omega) hb
            obtain ⟨o, ho⟩ : ∃ o, l[j]? = some o := ⟨l[j], List.getElem?_eq_getElem hjl⟩
            have hmem : j ∈ Region.ready .any l.toArray listed := mem_ready.2 ⟨hun, o, by simpa using ho, fun e he hbd => by
              have := (slots2_at hB ho).2.2 e he hbd
              exact ih e.on this (by omega)⟩
            rw [hr] at hmem; cases hmem
          · rfl
    exact hfin a w hM.size hM.defers hM.below hM.other fun j hj => hM.done j hj (hall (j + 1) j (by omega) hj)
  intro f
  induction f with
  | zero =>
    intro listed a w hsz hc hM
    have hr : Region.ready .any l.toArray listed = [] := by
      rw [List.eq_nil_iff_forall_not_mem]
      intro i hi
      have h1 := count_set (mem_ready.1 hi).1
      omega
    exact ⟨hr, hend listed a w hsz hM hr⟩
  | succ f ih =>
    intro listed a w hsz hc hM
    refine ⟨fun hr => hend listed a w hsz hM hr, fun i hi => ?_⟩
    obtain ⟨hun, o, ho, hdeps⟩ := mem_ready.1 hi
    have ho' : l[i]? = some o := by simpa using ho
    have hil : i < l.length := (List.getElem?_eq_some_iff.1 ho').1
    obtain ⟨hdist, hnone, hbef⟩ := slots2_at hB ho'
    have hun' : listed.getD i false = false := by
      cases hb : listed.getD i false
      · rfl
      · have := getD_both hun; rw [hb] at this; exact this
    have h1 := hstep i o ho' a w hM.size hM.other hM.below fun e he hb => hM.done e.on (by have := hbef e he hb; omega) (hdeps e he hb)
    refine wpOp_noPanic (wpOp_mono (fun a' w' ⟨v, ha, hbw, hkeep, hp⟩ => ?_) (wpOp_of_list ho h1))
    subst ha
    refine ih _ _ _ (by simpa using hsz) (by have := count_set hun; omega) ⟨?_, ?_, hbw, fun s hs => ?_, fun j oj hoj hl e he hbd => ?_, fun j hj hl => ?_⟩
    · cases hd : o.dst <;> simp [Act.put, hM.size]
    · cases hd : o.dst <;> simp [Act.put, hM.defers]
    · cases hd : o.dst with
      | none => exact hM.other s hs
      | some d =>
        rw [put_get (by rw [hM.size]; exact (hdist d hd).1), if_neg (fun e => hs i o ho' (by rw [hd, e]))]
        exact hM.other s hs
    · by_cases hji : j = i
      · subst hji
        obtain rfl : oj = o := Option.some.inj (hoj.symm.trans ho')
        exact getD_set_true (hdeps e he hbd)
      · rw [getD_set_ne false (Ne.symm hji)] at hl
        exact getD_set_true (hM.closed j oj hoj hl e he hbd)
    · by_cases hji : j = i
      · subst hji; exact hp
      · rw [getD_set_ne false (Ne.symm hji)] at hl
        have hold := hM.done j hj hl
        have hne : ∀ d, o.dst = some d → srcOf l alt j ≠ d := by
          intro d hd
          obtain ⟨oj, hoj⟩ : ∃ o, l[j]? = some o := ⟨l[j], List.getElem?_eq_getElem hj⟩
          cases hdj : oj.dst with
          | some dj =>
            have esrc : srcOf l alt j = dj := by unfold srcOf; simp [hoj, hdj]
            rw [esrc]
            intro e
            exact (hdist d hd).2 j oj hoj hji (by rw [hdj]; exact congrArg some e)
          | none =>
            obtain ⟨⟨oa, da, hoa, hda⟩, e, he, hbd, hon⟩ := (slots2_at hB hoj).2.1 hdj
            have hlk := hM.closed j oj hoj hl e he hbd
            rw [hon] at hlk
            have hki : alt j ≠ i := fun e2 => by rw [e2, hun'] at hlk; cases hlk
            have ed : dstOf l (alt j) = da := by unfold dstOf; rw [hoa]; simp [hda]
            have esrc : srcOf l alt j = dstOf l (alt j) := by unfold srcOf; simp [hoj, hdj]
            rw [esrc, ed]
            intro e2
            exact (hdist d hd).2 (alt j) oa hoa hki (by rw [hda, e2])
        have e1 : (a.put o.dst v).tmps.getD (srcOf l alt j) undef = a.tmps.getD (srcOf l alt j) undef := by
          cases hd : o.dst with
          | none => rfl
          | some d => rw [put_get (by rw [hM.size]; exact (hdist d hd).1), if_neg (hne d hd)]
        rw [e1]
        exact hkeep j _ hold

/-- A REGION THAT DRAWS ITS ORDER, BY AN INVARIANT; some of its operations write. -/
theorem region_inv2 {id : Nat} {a0 : Act} {w0 : World} {l : List Oper} (alt : Nat → Nat) (Pr : Nat → World → Value → Prop) (hm : P.follows .mixedOrders = true) (hB : slots2B l a0.tmps.size alt = true)
    (hstep : ∀ i o, l[i]? = some o → ∀ a w, a.tmps.size = a0.tmps.size → (∀ s, (∀ (j : Nat) o, l[j]? = some o → o.dst ≠ some s) → a.tmps.getD s undef = a0.tmps.getD s undef) → Below w0.heap.size w0 w →
      (∀ e ∈ o.after, Region.binds .any e = true → Pr e.on w (a.tmps.getD (srcOf l alt e.on) undef)) →
      wpList P l.toArray (Exit.then (fun a' w' => ∃ v, a' = a.put o.dst v ∧ Below w0.heap.size w0 w' ∧ (∀ j u, Pr j w u → Pr j w' u) ∧ Pr i w' (a'.tmps.getD (srcOf l alt i) undef)) (NoPanic Q)) [o] a w)
    (hfin : ∀ a w, a.tmps.size = a0.tmps.size → a.defers = a0.defers → Below w0.heap.size w0 w → (∀ s, (∀ (j : Nat) o, l[j]? = some o → o.dst ≠ some s) → a.tmps.getD s undef = a0.tmps.getD s undef) → (∀ j, j < l.length → Pr j w (a.tmps.getD (srcOf l alt j) undef)) → Q .normal a w) :
    (Code.region id l.toArray true).wp P Q a0 w0 := by
  refine wp_region_any hm ?_
  have hs : l.toArray.size = l.length := by simp
  refine midst2_any (w0 := w0) hB hstep hfin _ _ _ _ (by simp) ?_ ⟨rfl, rfl, ⟨rfl, rfl, rfl, Nat.le_refl _, fun _ _ => rfl⟩, fun _ _ => rfl, fun j o _ h => ?_, fun j _ h => ?_⟩
  · simp
  · rw [getD_replicate_false] at h; cases h
  · rw [getD_replicate_false] at h; cases h
end

theorem free2_of {l : List Oper} {s : Tmp} (h : (l.all fun o => o.dst != some s) = true) : ∀ (j : Nat) o, l[j]? = some o → o.dst ≠ some s := fun j o hj => by
  have := List.all_eq_true.1 h o (List.mem_of_getElem? hj)
  simpa using this
/-- the end of a step that yields a value into its own slot -/
theorem stepV {l : List Oper} {alt : Nat → Nat} {Pr : Nat → World → Value → Prop} {a0 a : Act} {w0 w w' : World} {o : Oper} {i d : Nat} {v : Value} {Q : Exit → Act → World → Prop} {P : Program} (hmono : ∀ j w w' u, Below w.heap.size w w' → Pr j w u → Pr j w' u) (hbel : Below w0.heap.size w0 w) (hsz : a.tmps.size = a0.tmps.size) (hd : o.dst = some d) (hs : srcOf l alt i = d) (hdn : d < a0.tmps.size) (hB : Below w.heap.size w w') (hp : Pr i w' v) :
    wpList P l.toArray (Exit.then (fun a' w' => ∃ v, a' = a.put o.dst v ∧ Below w0.heap.size w0 w' ∧ (∀ j u, Pr j w u → Pr j w' u) ∧ Pr i w' (a'.tmps.getD (srcOf l alt i) undef)) (NoPanic Q)) [] (a.put o.dst v) w' := by
  refine mixOn ⟨v, rfl, hbel.trans (hB.mono hbel.size), fun j u h => hmono j w w' u hB h, ?_⟩
  rw [hd, put_get (by rw [hsz]; exact hdn), hs, if_pos rfl]
  exact hp

section
variable {P : Program} {ops : Array Oper} {Q : Exit → Act → World → Prop} {rest : List Oper} {o : Oper} {a : Act} {w : World}
theorem kCall2 (f : FuncId) (Ts : Array TypeId) (x y : Operand) (u t : Value) (ho : o.op = .call { callee := .value (.func f), args := #[x, y], argTypes := Ts }) (hg : Region.wanted o (yielded ops a.tmps) = true) (hf : bodied P f = true) (hx : a.eval x = u) (hy : a.eval y = t)
    (hc : Calls P f #[u, t] w fun e w' => ∃ v, e = .returned v ∧ wpList P ops Q rest (a.put o.dst v) w') : wpList P ops Q (o :: rest) a w := by
  refine BigFrame.wpList_want hg fun K hK => ?_
  have hrun : (execOp a.eval o).run P w = .ok (.enter f #[u, t]) w := by
    have hff : a.eval (.func f) = .func (.func f) #[] #[] := rfl
    unfold execOp
    simp only [ho, resolve, List.map_toArray, List.map_cons, List.map_nil, hx, hy, hff, Deferred.ofValue, Sem.run_bind, Sem.run_pure, Result.andThen_ok, invoke]
    simpa using run_callFunc_bodied hf #[u, t] w
  unfold Oper.wp
  rw [hrun, Oper.upon_enter]
  exact hc.mono fun e w' ⟨v, he, h⟩ => by subst he; exact hK _ _ h
theorem kExtract (x : Operand) (i : Nat) (vs : Array Value) (v : Value) (ho : o.op = .extract x i) (hg : Region.wanted o (yielded ops a.tmps) = true) (hx : a.eval x = .tuple vs) (hv : vs[i]? = some v)
    (h : wpList P ops Q rest (a.put o.dst v) w) : wpList P ops Q (o :: rest) a w :=
  kPure _ hg (by unfold execOp; simp [ho, hx, Instr.extract, hv]) h
end
end Go.Proofs.YtajpdmcbdekpbaaDoor
