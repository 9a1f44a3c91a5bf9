/-
  My kit, fifth part: a drawn region by an invariant: each operation's value meets a predicate in the world in which it was yielded, and in every later one, whatever the order.
-/
import Derived.Test.YtajpdmcbdekpbaaDoorKit4
import Derived.Laws.IdiomStrings
namespace Go.Proofs.YtajpdmcbdekpbaaDoor
open Go Go.RowKit

section
variable {P : Program} {Q : Exit → Act → World → Prop}

/-- every operation has a slot of its own, inside the frame; what it waits for comes before it -/
def slotsB (l : List Oper) (n : Nat) : Bool :=
  (List.range l.length).all fun i => match l[i]? with
    | some o => (match o.dst with
        | some d => decide (d < n) && (List.range l.length).all fun j => decide (j = i) || (match l[j]? with | some o' => o'.dst != some d | none => true)
        | none => false) && o.after.all fun e => !Region.binds .any e || decide (e.on < i)
    | none => true
def dstOf (l : List Oper) (j : Nat) : Tmp := match l[j]? with
  | some o => o.dst.getD 0
  | none => 0

theorem slots_at {l : List Oper} {n i : Nat} {o : Oper} (h : slotsB l n = true) (hi : l[i]? = some o) :
    o.dst = some (dstOf l i) ∧ dstOf l i < n ∧ (∀ j o', l[j]? = some o' → j ≠ i → o'.dst ≠ some (dstOf l i)) ∧ ∀ e ∈ o.after, Region.binds .any e = true → e.on < i := by
  have hlt : i < l.length := (List.getElem?_eq_some_iff.1 hi).1
  have h1 := List.all_eq_true.1 h i (List.mem_range.2 hlt)
  simp only [hi, Bool.and_eq_true] at h1
  obtain ⟨h2, h3⟩ := h1
  cases hd : o.dst with
  | none => rw [hd] at h2; cases h2
  | some d =>
    rw [hd] at h2
    simp only [Bool.and_eq_true, decide_eq_true_eq] at h2
    have e : dstOf l i = d := by unfold dstOf; rw [hi]; simp [hd]
    rw [e]
    refine ⟨rfl, h2.1, fun j o' hj hne => ?_, fun ed he hb => ?_⟩
    · have hjl : j < l.length := (List.getElem?_eq_some_iff.1 hj).1
      have h4 := List.all_eq_true.1 h2.2 j (List.mem_range.2 hjl)
      simp only [hj, Bool.or_eq_true, decide_eq_true_eq] at h4
      rcases h4 with h4 | h4
      · exact absurd h4 hne
      · simpa using h4
    · have h4 := (Array.all_eq_true'.1 h3) ed he
      simpa [hb] using h4

structure Midst (l : List Oper) (Pr : Nat → World → Value → Prop) (a0 : Act) (w0 : World) (listed : Array Bool) (a : Act) (w : World) : Prop where
  size : a.tmps.size = a0.tmps.size
  defers : a.defers = a0.defers
  below : Below w0.heap.size w0 w
  other : ∀ s, (∀ j, j < l.length → dstOf l j ≠ s) → a.tmps.getD s undef = a0.tmps.getD s undef
  done : ∀ j, j < l.length → listed.getD j false = true → Pr j w (a.tmps.getD (dstOf l j) undef)

theorem put_get {a : Act} {d s : Tmp} {v : Value} (hd : d < a.tmps.size) : (a.put (some d) v).tmps.getD s undef = if s = d then v else a.tmps.getD s undef := by
  unfold Act.put
  by_cases h : s = d
  · subst h; simp [hd]
  · simp [h, Array.getElem?_setIfInBounds_ne (Ne.symm h)]

theorem count_set {listed : Array Bool} {i : Nat} (h : listed.getD i true = false) : (listed.setIfInBounds i true).toList.count false + 1 = listed.toList.count false := by
  have hlt : i < listed.size := by
    rcases Nat.lt_or_ge i listed.size with h' | h'
    · exact h'
    · simp [Array.getElem?_eq_none h'] at h
  have hv : listed.toList[i]'(by simpa using hlt) = false := by simpa [hlt] using h
  rw [Array.toList_setIfInBounds, List.count_set (by simpa using hlt), hv]
  have : 0 < listed.toList.count false := List.count_pos_iff.2 (by rw [← hv]; exact List.getElem_mem _)
  rw [if_pos (by decide), if_neg (by decide)]
  omega

theorem midst_any {l : List Oper} {Pr : Nat → World → Value → Prop} {a0 : Act} {w0 : World} (hB : slotsB l a0.tmps.size = true) (hmono : ∀ i w w' v, Below w.heap.size w w' → Pr i w v → Pr i w' v)
    (hstep : ∀ i o, l[i]? = some o → ∀ a w, a.tmps.size = a0.tmps.size → (∀ s, (∀ j, j < l.length → dstOf l j ≠ s) → a.tmps.getD s undef = a0.tmps.getD s undef) → Below w0.heap.size w0 w →
      (∀ e ∈ o.after, Region.binds .any e = true → Pr e.on w (a.tmps.getD (dstOf l e.on) undef)) →
      wpList P l.toArray (Exit.then (fun a' w' => ∃ v, a' = a.put o.dst v ∧ Below w.heap.size w w' ∧ Pr i w' v) (NoPanic Q)) [o] a w)
    (hfin : ∀ a w, a.tmps.size = a0.tmps.size → a.defers = a0.defers → Below w0.heap.size w0 w → (∀ s, (∀ j, j < l.length → dstOf l j ≠ s) → a.tmps.getD s undef = a0.tmps.getD s undef) → (∀ j, j < l.length → Pr j w (a.tmps.getD (dstOf l j) undef)) → Q .normal a w) :
    ∀ (f : Nat) (listed : Array Bool) (a : Act) (w : World), listed.size = l.length → listed.toList.count false = f → Midst l Pr a0 w0 listed a w → wpAny P .any l.toArray Q f listed a w := by
  have hend : ∀ (listed : Array Bool) (a : Act) (w : World), listed.size = l.length → Midst l Pr a0 w0 listed a w → Region.ready .any l.toArray listed = [] → Q .normal a w := by
    intro listed a w hsz hM hr
    have hall : ∀ n j, j < n → j < l.length → listed.getD j false = true := by
      intro n
      induction n with
      | zero => intro j hj; omega
      | succ n ih =>
        intro j hj hjl
        by_cases hjn : j < n
        · exact ih j hjn hjl
        · obtain rfl : j = n := by omega
          cases hb : listed.getD j false
          · have hun : listed.getD j true = false := getD_in (by omega) hb
            obtain ⟨o, ho⟩ : ∃ o, l[j]? = some o := ⟨l[j], List.getElem?_eq_getElem hjl⟩
            have hmem : j ∈ Region.ready .any l.toArray listed := mem_ready.2 ⟨hun, o, by simpa using ho, fun e he hbd => by
              have := (slots_at hB ho).2.2.2 e he hbd
              exact ih e.on this (by omega)⟩
            rw [hr] at hmem; cases hmem
          · rfl
    exact hfin a w hM.size hM.defers hM.below hM.other fun j hj => hM.done j hj (hall (j + 1) j (by omega) hj)
  intro f
  induction f with
  | zero =>
    intro listed a w hsz hc hM
    have hr : Region.ready .any l.toArray listed = [] := by
      rw [List.eq_nil_iff_forall_not_mem]
      intro i hi
      have h1 := count_set (mem_ready.1 hi).1
      omega
    exact ⟨hr, hend listed a w hsz hM hr⟩
  | succ f ih =>
    intro listed a w hsz hc hM
    refine ⟨fun hr => hend listed a w hsz hM hr, fun i hi => ?_⟩
    obtain ⟨hun, o, ho, hdeps⟩ := mem_ready.1 hi
    have ho' : l[i]? = some o := by simpa using ho
    have hil : i < l.length := (List.getElem?_eq_some_iff.1 ho').1
    obtain ⟨hd, hdn, hdist, hbef⟩ := slots_at hB ho'
    have h1 := hstep i o ho' a w hM.size hM.other hM.below fun e he hb => hM.done e.on (by have := hbef e he hb; omega) (hdeps e he hb)
    refine wpOp_noPanic (wpOp_mono (fun a' w' ⟨v, ha, hbw, hp⟩ => ?_) (wpOp_of_list ho h1))
    subst ha
    rw [hd]
    have hlt : dstOf l i < a.tmps.size := by rw [hM.size]; exact hdn
    refine ih _ _ _ (by simpa using hsz) (by have := count_set hun; omega) ⟨by simp [Act.put, hM.size], by simp [Act.put, hM.defers], hM.below.trans (hbw.mono hM.below.size), fun s hs => ?_, fun j hj hl => ?_⟩
    · rw [put_get hlt, if_neg (fun e => hs i hil e.symm)]; exact hM.other s hs
    · rw [put_get hlt]
      by_cases hji : j = i
      · subst hji; rw [if_pos rfl]; exact hp
      · have hne : dstOf l j ≠ dstOf l i := fun e => by
          obtain ⟨oj, hoj⟩ : ∃ o, l[j]? = some o := ⟨l[j], List.getElem?_eq_getElem hj⟩
          exact hdist j oj hoj hji (by rw [(slots_at hB hoj).1, e])
        rw [if_neg hne]
        refine hmono _ _ _ _ hbw (hM.done j hj ?_)
        rwa [getD_set_ne false (Ne.symm hji)] at hl

/-- A REGION THAT DRAWS ITS ORDER, BY AN INVARIANT. -/
theorem region_inv {id : Nat} {a0 : Act} {w0 : World} {l : List Oper} (Pr : Nat → World → Value → Prop) (hm : P.follows .mixedOrders = true) (hB : slotsB l a0.tmps.size = true) (hmono : ∀ i w w' v, Below w.heap.size w w' → Pr i w v → Pr i w' v)
    (hstep : ∀ i o, l[i]? = some o → ∀ a w, a.tmps.size = a0.tmps.size → (∀ s, (∀ j, j < l.length → dstOf l j ≠ s) → a.tmps.getD s undef = a0.tmps.getD s undef) → Below w0.heap.size w0 w →
      (∀ e ∈ o.after, Region.binds .any e = true → Pr e.on w (a.tmps.getD (dstOf l e.on) undef)) →
      wpList P l.toArray (Exit.then (fun a' w' => ∃ v, a' = a.put o.dst v ∧ Below w.heap.size w w' ∧ Pr i w' v) (NoPanic Q)) [o] a w)
    (hfin : ∀ a w, a.tmps.size = a0.tmps.size → a.defers = a0.defers → Below w0.heap.size w0 w → (∀ s, (∀ j, j < l.length → dstOf l j ≠ s) → a.tmps.getD s undef = a0.tmps.getD s undef) → (∀ j, j < l.length → Pr j w (a.tmps.getD (dstOf l j) undef)) → Q .normal a w) :
    (Code.region id l.toArray true).wp P Q a0 w0 := by
  refine wp_region_any hm ?_
  have hs : l.toArray.size = l.length := by simp
  refine midst_any (w0 := w0) hB hmono hstep hfin _ _ _ _ (by simp) ?_ ⟨rfl, rfl, ⟨rfl, rfl, rfl, Nat.le_refl _, fun _ _ => rfl⟩, fun _ _ => rfl, fun j _ h => ?_⟩
  · simp
  · rw [getD_replicate_false] at h; cases h
end

def Steps (F : Nat → Oper → Prop) : Nat → List Oper → Prop
  | _, [] => True
  | k, o :: r => F k o ∧ Steps F (k + 1) r
theorem steps_at {F : Nat → Oper → Prop} : ∀ (l : List Oper) (k : Nat), Steps F k l → ∀ i o, l[i]? = some o → F (k + i) o
  | [], _, _, i, o, h => by simp at h
  | x :: r, k, hs, 0, o, h => by simp at h; subst h; exact hs.1
  | x :: r, k, hs, i + 1, o, h => by
    have := steps_at r (k + 1) hs.2 i o (by simpa using h)
    rwa [show k + 1 + i = k + (i + 1) by omega] at this
theorem steps_all {F : Nat → Oper → Prop} {l : List Oper} (h : Steps F 0 l) : ∀ i o, l[i]? = some o → F i o := fun i o hi => by
  have := steps_at l 0 h i o hi
  rwa [Nat.zero_add] at this
theorem free_of {l : List Oper} {s : Tmp} (h : ((List.range l.length).all fun j => decide (dstOf l j ≠ s)) = true) : ∀ j, j < l.length → dstOf l j ≠ s := fun j hj => by
  have := List.all_eq_true.1 h j (List.mem_range.2 hj)
  simpa using this
theorem dep_of {l : List Oper} {o : Oper} {Pr : Nat → World → Value → Prop} {w : World} {a : Act} (h : ∀ e ∈ o.after, Region.binds .any e = true → Pr e.on w (a.tmps.getD (dstOf l e.on) undef)) (k : Nat) (hk : (o.after.any fun e => e.on == k && Region.binds .any e) = true) : Pr k w (a.tmps.getD (dstOf l k) undef) := by
  obtain ⟨e, he, h2⟩ := Array.any_eq_true'.1 hk
  simp only [Bool.and_eq_true, beq_iff_eq] at h2
  obtain ⟨rfl, hb⟩ := h2
  exact h e he hb
theorem wanted_of {l : List Oper} {o : Oper} {a : Act} {g : Nat} {b : Bool} {d : Tmp} (hg : o.guard = some (g, b)) (hd : (l[g]?).bind (·.dst) = some d) (hv : a.tmps.getD d undef = .bool b) : Region.wanted o (yielded l.toArray a.tmps) = true := by
  have h2 : a.tmps[d]? = some (.bool b) := by
    cases hq : a.tmps[d]? with
    | none => rw [Array.getD_eq_getD_getElem?, hq] at hv; cases hv
    | some u => rw [Array.getD_eq_getD_getElem?, hq] at hv; simp at hv; rw [hv]
  unfold Region.wanted
  rw [hg]
  simp [yielded, hd, h2]

section
variable {P : Program} {ops : Array Oper} {Q : Exit → Act → World → Prop} {rest : List Oper} {o : Oper} {a : Act} {w : World}
theorem kPure (v : Value) (hg : Region.wanted o (yielded ops a.tmps) = true) (hv : (execOp a.eval o).run P w = .ok (.value v) w) (h : wpList P ops Q rest (a.put o.dst v) w) : wpList P ops Q (o :: rest) a w := by
  refine BigFrame.wpList_want hg fun K hK => ?_
  unfold Oper.wp
  rw [hv]
  exact hK _ _ h
theorem kMoveV (x : Operand) (v : Value) (ho : o.op = .move x) (hg : Region.wanted o (yielded ops a.tmps) = true) (hx : a.eval x = v) (h : wpList P ops Q rest (a.put o.dst v) w) : wpList P ops Q (o :: rest) a w :=
  kPure v hg (by unfold execOp; simp only [ho, hx, Sem.run_pure]) h
theorem kAssignV (x : Operand) (v : Value) (ho : o.op = .assign x) (hg : Region.wanted o (yielded ops a.tmps) = true) (hx : a.eval x = v) (h : wpList P ops Q rest (a.put o.dst v) w) : wpList P ops Q (o :: rest) a w :=
  kPure v hg (by unfold execOp; simp only [ho, hx, Sem.run_pure]) h
theorem run_eqlBool (T : TypeId) (b c : Bool) (x y : Operand) (ht : P.underlying T = some .bool) : (do eqGuard .eql T x y (.bool b) (.bool c); binOp .eql T (.bool b) (.bool c) : Sem Value).run P w = .ok (.bool (b == c)) w := by
  simp [eqGuard, run_eql_bool w T b c ht]
theorem run_neqBool (T : TypeId) (b c : Bool) (x y : Operand) (ht : P.underlying T = some .bool) : (do eqGuard .neq T x y (.bool b) (.bool c); binOp .neq T (.bool b) (.bool c) : Sem Value).run P w = .ok (.bool (b != c)) w := by
  cases b <;> cases c <;> simp [eqGuard, run_neq_bool w T _ _ ht]
theorem kEqlBool (T T2 : TypeId) (x y : Operand) (b c d : Bool) (ho : o.op = .binOp .eql T x y T2) (hg : Region.wanted o (yielded ops a.tmps) = true) (hx : a.eval x = .bool b) (hy : a.eval y = .bool c) (ht : P.underlying T = some .bool) (hd : (b == c) = d) (h : wpList P ops Q rest (a.put o.dst (.bool d)) w) : wpList P ops Q (o :: rest) a w := by
  subst hd
  refine kPure _ hg ?_ h
  have hr := run_eqlBool (P := P) (w := w) T b c x y ht
  unfold execOp
  simp only [ho, hx, hy]
  rw [Sem.run_bind, hr]; rfl
theorem kNeqBool (T T2 : TypeId) (x y : Operand) (b c d : Bool) (ho : o.op = .binOp .neq T x y T2) (hg : Region.wanted o (yielded ops a.tmps) = true) (hx : a.eval x = .bool b) (hy : a.eval y = .bool c) (ht : P.underlying T = some .bool) (hd : (b != c) = d) (h : wpList P ops Q rest (a.put o.dst (.bool d)) w) : wpList P ops Q (o :: rest) a w := by
  subst hd
  refine kPure _ hg ?_ h
  have hr := run_neqBool (P := P) (w := w) T b c x y ht
  unfold execOp
  simp only [ho, hx, hy]
  rw [Sem.run_bind, hr]; rfl
theorem kSliceToV (T E : TypeId) (x y : Operand) (v : Value) (l : List Value) (k : IntKind) (i : Int) (n : Nat) (ho : o.op = .slice T x none (some y) none) (hg : Region.wanted o (yielded ops a.tmps) = true) (hx : a.eval x = v) (hy : a.eval y = .int k i) (ht : P.underlying T = some (.slice E)) (hsz : (P.info? E).map (·.size) = some 1) (hv : IsVals w v l) (hi : i = (n : Int)) (hn : n ≤ l.length)
    (h : wpList P ops Q rest (a.put o.dst (toV v n)) w) : wpList P ops Q (o :: rest) a w :=
  kPure _ hg (by unfold execOp; simp only [ho, hx, hy, Option.map_some, Option.map_none, Sem.run_bind, run_sliceToV ht hsz hv hi hn, Result.andThen_ok, Sem.run_pure]) h
theorem kSliceFromV (T E : TypeId) (x y : Operand) (v : Value) (l : List Value) (k : IntKind) (i : Int) (n : Nat) (ho : o.op = .slice T x (some y) none none) (hg : Region.wanted o (yielded ops a.tmps) = true) (hx : a.eval x = v) (hy : a.eval y = .int k i) (ht : P.underlying T = some (.slice E)) (hsz : (P.info? E).map (·.size) = some 1) (hv : IsVals w v l) (hi : i = (n : Int)) (hn : n ≤ l.length)
    (h : wpList P ops Q rest (a.put o.dst (fromV v n)) w) : wpList P ops Q (o :: rest) a w :=
  kPure _ hg (by unfold execOp; simp only [ho, hx, hy, Option.map_some, Option.map_none, Sem.run_bind, run_sliceFromV ht hsz hv hi hn, Result.andThen_ok, Sem.run_pure]) h
/-- []byte(text): a new row of these bytes -/
theorem kToBytes (src dst e : TypeId) (x : Operand) (l : List UInt8) (ho : o.op = .convert src dst x) (hg : Region.wanted o (yielded ops a.tmps) = true) (hx : a.eval x = textV l) (hs : P.underlying src = some .string) (hd : P.underlying dst = some (.slice e)) (he : P.underlying e = some (.int .u8))
    (h : ∀ v w1, Below w.heap.size w w1 → IsVals w1 v (l.map VB) → wpList P ops Q rest (a.put o.dst v) w1) : wpList P ops Q (o :: rest) a w := by
  refine BigFrame.wpList_want hg fun K hK => ?_
  unfold Oper.wp execOp
  have hr := run_bytes_of_string (P := P) w src dst e ⟨l.toArray⟩ hs hd he
  have hsz : (⟨l.toArray⟩ : ByteArray).size = l.length := by simp [ByteArray.size]
  rw [hsz] at hr
  have hge := grownCap_ge w l.length 0 e
  simp only [ho, hx, textV, Sem.run_bind, hr, Result.andThen_ok, Sem.run_pure]
  refine hK _ _ (h _ _ ?_ ?_)
  · refine Below.trans (b := w.drew) ⟨rfl, rfl, rfl, Nat.le_refl _, fun _ _ => rfl⟩ ?_
    exact (Below.refl w.drew.heap.size w.drew).alloc (Nat.le_refl _) _
  · refine ⟨some ⟨w.heap.size, 0, none⟩, _, by rw [List.length_map], by rw [List.length_map]; exact hge, (fun h => by cases h), fun j u hu => ⟨_, rfl, ?_⟩⟩
    have hj : j < l.length := by have := (List.getElem?_eq_some_iff.1 hu).1; simpa using this
    rw [add_none, Nat.zero_add]
    have hheap : (w.drew.alloc (.cells (bytesRow ⟨l.toArray⟩ (grownCap w l.length 0 e)) e ((bytesRow ⟨l.toArray⟩ (grownCap w l.length 0 e)).size, (bytesRow ⟨l.toArray⟩ (grownCap w l.length 0 e)).size + 1))).heap[w.heap.size]? = some (.cells (bytesRow ⟨l.toArray⟩ (grownCap w l.length 0 e)) e ((bytesRow ⟨l.toArray⟩ (grownCap w l.length 0 e)).size, (bytesRow ⟨l.toArray⟩ (grownCap w l.length 0 e)).size + 1)) := heap_alloc_new w.drew _
    rw [cell_of_row _ _ _ _ _ _ hheap]
    unfold bytesRow
    rw [Array.getElem?_append_left (by simpa using hj)]
    simp [hj] at hu ⊢
    rw [← hu]; rfl
end
theorem arr_tab (t : Array Value) (n : Nat) (h : t.size = n) : t = tab n fun i => t.getD i undef := by
  apply Array.ext_getElem?
  intro j
  by_cases hj : j < n
  · rw [tab_get _ _ _ hj]; simp [show j < t.size by omega]
  · rw [Array.getElem?_eq_none (by omega), Array.getElem?_eq_none (by rw [tab_size]; omega)]

section
variable {P : Program} {ops : Array Oper} {Q : Exit → Act → World → Prop} {rest : List Oper} {o : Oper} {a : Act} {w : World}
theorem kPick (c x y : Operand) (b : Bool) (v : Value) (ho : o.op = .pick c x y) (hg : Region.wanted o (yielded ops a.tmps) = true) (hc : a.eval c = .bool b) (hv : (if b = true then a.eval x else a.eval y) = v)
    (h : wpList P ops Q rest (a.put o.dst v) w) : wpList P ops Q (o :: rest) a w := by
  subst hv
  refine kPure _ hg ?_ h
  unfold execOp
  simp only [ho, hc, asBool, Sem.run_bind, Sem.run_pure, Result.andThen_ok]
theorem kMin2 (T : TypeId) (x y : Operand) (k k' : IntKind) (b c m : Int) (ho : o.op = .call { callee := .builtin .min, args := #[x, y], argTypes := #[T, T] }) (hg : Region.wanted o (yielded ops a.tmps) = true) (hx : a.eval x = .int k b) (hy : a.eval y = .int k' c) (hm : (if c < b then c else b) = m)
    (h : wpList P ops Q rest (a.put o.dst (.int k m)) w) : wpList P ops Q (o :: rest) a w := by
  subst hm
  exact kPure _ hg (by simp [execOp, ho, resolve, invoke, builtin, hx, hy, run_min_int2]) h
theorem kMax2 (T : TypeId) (x y : Operand) (k k' : IntKind) (b c m : Int) (ho : o.op = .call { callee := .builtin .max, args := #[x, y], argTypes := #[T, T] }) (hg : Region.wanted o (yielded ops a.tmps) = true) (hx : a.eval x = .int k b) (hy : a.eval y = .int k' c) (hm : (if c > b then c else b) = m)
    (h : wpList P ops Q rest (a.put o.dst (.int k m)) w) : wpList P ops Q (o :: rest) a w := by
  subst hm
  exact kPure _ hg (by simp [execOp, ho, resolve, invoke, builtin, hx, hy, run_max_int2]) h
end
end Go.Proofs.YtajpdmcbdekpbaaDoor
