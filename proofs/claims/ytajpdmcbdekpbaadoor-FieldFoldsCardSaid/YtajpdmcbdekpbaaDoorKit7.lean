/-
  My kit, seventh part: a drawn region by an invariant, with a fact on the whole frame beside the predicates (two new variables are apart).
-/
import Derived.Test.YtajpdmcbdekpbaaDoorKit6
namespace Go.Proofs.YtajpdmcbdekpbaaDoor
open Go Go.RowKit

section
variable {P : Program} {Q : Exit → Act → World → Prop}

structure Midst3 (l : List Oper) (alt : Nat → Nat) (Pr : Nat → World → Value → Prop) (X : Act → World → Prop) (a0 : Act) (w0 : World) (listed : Array Bool) (a : Act) (w : World) : Prop where
  size : a.tmps.size = a0.tmps.size
  defers : a.defers = a0.defers
  below : Below w0.heap.size w0 w
  other : ∀ s, (∀ (j : Nat) o, l[j]? = some o → o.dst ≠ some s) → a.tmps.getD s undef = a0.tmps.getD s undef
  closed : ∀ (j : Nat) o, l[j]? = some o → listed.getD j false = true → ∀ e ∈ o.after, Region.binds .any e = true → listed.getD e.on false = true
  extra : X a w
  done : ∀ j, j < l.length → listed.getD j false = true → Pr j w (a.tmps.getD (srcOf l alt j) undef)

theorem midst3_any {l : List Oper} {alt : Nat → Nat} {Pr : Nat → World → Value → Prop} {X : Act → World → Prop} {a0 : Act} {w0 : World} (hB : slots2B l a0.tmps.size alt = true)
    (hstep : ∀ i o, l[i]? = some o → ∀ a w, a.tmps.size = a0.tmps.size → (∀ s, (∀ (j : Nat) o, l[j]? = some o → o.dst ≠ some s) → a.tmps.getD s undef = a0.tmps.getD s undef) → Below w0.heap.size w0 w → X a w →
      (∀ e ∈ o.after, Region.binds .any e = true → Pr e.on w (a.tmps.getD (srcOf l alt e.on) undef)) →
      wpList P l.toArray (Exit.then (fun a' w' => ∃ v, a' = a.put o.dst v ∧ Below w0.heap.size w0 w' ∧ (∀ j, j < l.length → Pr j w (a.tmps.getD (srcOf l alt j) undef) → Pr j w' (a.tmps.getD (srcOf l alt j) undef)) ∧ X a' w' ∧ Pr i w' (a'.tmps.getD (srcOf l alt i) undef)) (NoPanic Q)) [o] a w)
    (hfin : ∀ a w, a.tmps.size = a0.tmps.size → a.defers = a0.defers → Below w0.heap.size w0 w → X a w → (∀ s, (∀ (j : Nat) o, l[j]? = some o → o.dst ≠ some s) → a.tmps.getD s undef = a0.tmps.getD s undef) → (∀ j, j < l.length → Pr j w (a.tmps.getD (srcOf l alt j) undef)) → Q .normal a w) :
    ∀ (f : Nat) (listed : Array Bool) (a : Act) (w : World), listed.size = l.length → listed.toList.count false = f → Midst3 l alt Pr X a0 w0 listed a w → wpAny P .any l.toArray Q f listed a w := by
  have hend : ∀ (listed : Array Bool) (a : Act) (w : World), listed.size = l.length → Midst3 l alt Pr X a0 w0 listed a w → Region.ready .any l.toArray listed = [] → Q .normal a w := by
    intro listed a w hsz hM hr
    have hall : ∀ n j, j < n → j < l.length → listed.getD j false = true := by
      intro n
      induction n with
      | zero => intro j hj; omega
      | succ n ih =>
        intro j hj hjl
        by_cases hjn : j < n
        · exact ih j hjn hjl
        · obtain rfl : j = n := by omega
          cases hb : listed.getD j false
          · have hun : listed.getD j true = false := getD_in (by omega) hb
            obtain ⟨o, ho⟩ : ∃ o, l[j]? = some o := ⟨l[j], List.getElem?_eq_getElem hjl⟩
            have hmem : j ∈ Region.ready .any l.toArray listed := mem_ready.2 ⟨hun, o, by simpa using ho, fun e he hbd => by
              have := (slots2_at hB ho).2.2 e he hbd
              exact ih e.on this (by omega)⟩
            rw [hr] at hmem; cases hmem
          · rfl
    exact hfin a w hM.size hM.defers hM.below hM.extra hM.other fun j hj => hM.done j hj (hall (j + 1) j (by omega) hj)
  intro f
  induction f with
  | zero =>
    intro listed a w hsz hc hM
    have hr : Region.ready .any l.toArray listed = [] := by
      rw [List.eq_nil_iff_forall_not_mem]
      intro i hi
      have h1 := count_set (mem_ready.1 hi).1
      omega
    exact ⟨hr, hend listed a w hsz hM hr⟩
  | succ f ih =>
    intro listed a w hsz hc hM
    refine ⟨fun hr => hend listed a w hsz hM hr, fun i hi => ?_⟩
    obtain ⟨hun, o, ho, hdeps⟩ := mem_ready.1 hi
    have ho' : l[i]? = some o := by simpa using ho
    have hil : i < l.length := (List.getElem?_eq_some_iff.1 ho').1
    obtain ⟨hdist, hnone, hbef⟩ := slots2_at hB ho'
    have hun' : listed.getD i false = false := by
      cases hb : listed.getD i false
      · rfl
      · have := getD_both hun; rw [hb] at this; exact this
    have h1 := hstep i o ho' a w hM.size hM.other hM.below hM.extra fun e he hb => hM.done e.on (by have := hbef e he hb; omega) (hdeps e he hb)
    refine wpOp_noPanic (wpOp_mono (fun a' w' ⟨v, ha, hbw, hkeep, hx, hp⟩ => ?_) (wpOp_of_list ho h1))
    subst ha
    refine ih _ _ _ (by simpa using hsz) (by have := count_set hun; omega) ⟨?_, ?_, hbw, fun s hs => ?_, fun j oj hoj hl e he hbd => ?_, hx, fun j hj hl => ?_⟩
    · cases hd : o.dst <;> simp [Act.put, hM.size]
    · cases hd : o.dst <;> simp [Act.put, hM.defers]
    · cases hd : o.dst with
      | none => exact hM.other s hs
      | some d =>
        rw [put_get (by rw [hM.size]; exact (hdist d hd).1), if_neg (fun e => hs i o ho' (by rw [hd, e]))]
        exact hM.other s hs
    · by_cases hji : j = i
      · subst hji
        obtain rfl : oj = o := Option.some.inj (hoj.symm.trans ho')
        exact getD_set_true (hdeps e he hbd)
      · rw [getD_set_ne false (Ne.symm hji)] at hl
        exact getD_set_true (hM.closed j oj hoj hl e he hbd)
    · by_cases hji : j = i
      · subst hji; exact hp
      · rw [getD_set_ne false (Ne.symm hji)] at hl
        have hold := hM.done j hj hl
        have hne : ∀ d, o.dst = some d → srcOf l alt j ≠ d := by
          intro d hd
          obtain ⟨oj, hoj⟩ : ∃ o, l[j]? = some o := ⟨l[j], List.getElem?_eq_getElem hj⟩
          cases hdj : oj.dst with
          | some dj =>
            have esrc : srcOf l alt j = dj := by unfold srcOf; simp [hoj, hdj]
            rw [esrc]
            intro e
            exact (hdist d hd).2 j oj hoj hji (by rw [hdj]; exact congrArg some e)
          | none =>
            obtain ⟨⟨oa, da, hoa, hda⟩, e, he, hbd, hon⟩ := (slots2_at hB hoj).2.1 hdj
            have hlk := hM.closed j oj hoj hl e he hbd
            rw [hon] at hlk
            have hki : alt j ≠ i := fun e2 => by rw [e2, hun'] at hlk; cases hlk
            have ed : dstOf l (alt j) = da := by unfold dstOf; rw [hoa]; simp [hda]
            have esrc : srcOf l alt j = dstOf l (alt j) := by unfold srcOf; simp [hoj, hdj]
            rw [esrc, ed]
            intro e2
            exact (hdist d hd).2 (alt j) oa hoa hki (by rw [hda, e2])
        have e1 : (a.put o.dst v).tmps.getD (srcOf l alt j) undef = a.tmps.getD (srcOf l alt j) undef := by
          cases hd : o.dst with
          | none => rfl
          | some d => rw [put_get (by rw [hM.size]; exact (hdist d hd).1), if_neg (hne d hd)]
        rw [e1]
        exact hkeep j hj hold

/-- A REGION THAT DRAWS ITS ORDER, BY AN INVARIANT; some of its operations write. -/
theorem region_inv3 {id : Nat} {a0 : Act} {w0 : World} {l : List Oper} (alt : Nat → Nat) (Pr : Nat → World → Value → Prop) (X : Act → World → Prop) (hx0 : ∀ w, Below w0.heap.size w0 w → X a0 w) (hm : P.follows .mixedOrders = true) (hB : slots2B l a0.tmps.size alt = true)
    (hstep : ∀ i o, l[i]? = some o → ∀ a w, a.tmps.size = a0.tmps.size → (∀ s, (∀ (j : Nat) o, l[j]? = some o → o.dst ≠ some s) → a.tmps.getD s undef = a0.tmps.getD s undef) → Below w0.heap.size w0 w → X a w →
      (∀ e ∈ o.after, Region.binds .any e = true → Pr e.on w (a.tmps.getD (srcOf l alt e.on) undef)) →
      wpList P l.toArray (Exit.then (fun a' w' => ∃ v, a' = a.put o.dst v ∧ Below w0.heap.size w0 w' ∧ (∀ j, j < l.length → Pr j w (a.tmps.getD (srcOf l alt j) undef) → Pr j w' (a.tmps.getD (srcOf l alt j) undef)) ∧ X a' w' ∧ Pr i w' (a'.tmps.getD (srcOf l alt i) undef)) (NoPanic Q)) [o] a w)
    (hfin : ∀ a w, a.tmps.size = a0.tmps.size → a.defers = a0.defers → Below w0.heap.size w0 w → X a w → (∀ s, (∀ (j : Nat) o, l[j]? = some o → o.dst ≠ some s) → a.tmps.getD s undef = a0.tmps.getD s undef) → (∀ j, j < l.length → Pr j w (a.tmps.getD (srcOf l alt j) undef)) → Q .normal a w) :
    (Code.region id l.toArray true).wp P Q a0 w0 := by
  refine wp_region_any hm ?_
  have hs : l.toArray.size = l.length := by simp
  refine midst3_any (w0 := w0) hB hstep hfin _ _ _ _ (by simp) ?_ ⟨rfl, rfl, ⟨rfl, rfl, rfl, Nat.le_refl _, fun _ _ => rfl⟩, fun _ _ => rfl, fun j o _ h => ?_, hx0 _ ⟨rfl, rfl, rfl, Nat.le_refl _, fun _ _ => rfl⟩, fun j _ h => ?_⟩
  · simp
  · rw [getD_replicate_false] at h; cases h
  · rw [getD_replicate_false] at h; cases h
end


/-- two slots point to blocks that are there, and to two -/
def Apart2 (s t : Tmp) (a : Act) (w : World) : Prop :=
  (∀ g, a.tmps.getD s undef = .pointer (some ⟨g, 0, none⟩) → g < w.heap.size) ∧ (∀ g, a.tmps.getD t undef = .pointer (some ⟨g, 0, none⟩) → g < w.heap.size) ∧ ∀ g, a.tmps.getD s undef = .pointer (some ⟨g, 0, none⟩) → a.tmps.getD t undef = .pointer (some ⟨g, 0, none⟩) → False
theorem apart2_start {s t : Tmp} {a : Act} {w : World} (hs : a.tmps.getD s undef = undef) (ht : a.tmps.getD t undef = undef) : Apart2 s t a w :=
  ⟨fun g h => (by rw [hs] at h; cases h), fun g h => (by rw [ht] at h; cases h), fun g h => (by rw [hs] at h; cases h)⟩
theorem Apart2.step {s t : Tmp} {a a' : Act} {w w' : World} (h : Apart2 s t a w) (hs : a'.tmps.getD s undef = a.tmps.getD s undef) (ht : a'.tmps.getD t undef = a.tmps.getD t undef) (hz : w.heap.size ≤ w'.heap.size) : Apart2 s t a' w' := by
  obtain ⟨h1, h2, h3⟩ := h
  refine ⟨fun g hg => ?_, fun g hg => ?_, fun g hg hg2 => ?_⟩
  · rw [hs] at hg; exact Nat.lt_of_lt_of_le (h1 g hg) hz
  · rw [ht] at hg; exact Nat.lt_of_lt_of_le (h2 g hg) hz
  · rw [hs] at hg; rw [ht] at hg2; exact h3 g hg hg2
theorem Apart2.newL {s t : Tmp} {a a' : Act} {w w' : World} (h : Apart2 s t a w) (hs : a'.tmps.getD s undef = .pointer (some ⟨w.heap.size, 0, none⟩)) (ht : a'.tmps.getD t undef = a.tmps.getD t undef) (hz : w.heap.size < w'.heap.size) : Apart2 s t a' w' := by
  obtain ⟨h1, h2, h3⟩ := h
  refine ⟨fun g hg => ?_, fun g hg => ?_, fun g hg hg2 => ?_⟩
  · rw [hs] at hg; simp at hg; omega
  · rw [ht] at hg; exact Nat.lt_trans (h2 g hg) hz
  · rw [hs] at hg; rw [ht] at hg2; cases hg; exact Nat.lt_irrefl _ (h2 _ hg2)
theorem Apart2.newR {s t : Tmp} {a a' : Act} {w w' : World} (h : Apart2 s t a w) (hs : a'.tmps.getD s undef = a.tmps.getD s undef) (ht : a'.tmps.getD t undef = .pointer (some ⟨w.heap.size, 0, none⟩)) (hz : w.heap.size < w'.heap.size) : Apart2 s t a' w' := by
  obtain ⟨h1, h2, h3⟩ := h
  refine ⟨fun g hg => ?_, fun g hg => ?_, fun g hg hg2 => ?_⟩
  · rw [hs] at hg; exact Nat.lt_trans (h1 g hg) hz
  · rw [ht] at hg; simp at hg; omega
  · rw [hs] at hg; rw [ht] at hg2; cases hg2; exact Nat.lt_irrefl _ (h1 _ hg)
/-- the end of a step that yields a value into its own slot, which is none of the two -/
theorem stepX {l : List Oper} {alt : Nat → Nat} {Pr : Nat → World → Value → Prop} {s t : Tmp} {a0 a : Act} {w0 w w' : World} {o : Oper} {i d : Nat} {v : Value} {Q : Exit → Act → World → Prop} {P : Program} (hmono : ∀ j w w' u, Below w.heap.size w w' → Pr j w u → Pr j w' u) (hbel : Below w0.heap.size w0 w) (hX : Apart2 s t a w) (hsz : a.tmps.size = a0.tmps.size) (hd : o.dst = some d) (hs : srcOf l alt i = d) (hdn : d < a0.tmps.size) (hds : s ≠ d) (hdt : t ≠ d) (hB : Below w.heap.size w w') (hp : Pr i w' v) :
    wpList P l.toArray (Exit.then (fun a' w' => ∃ v, a' = a.put o.dst v ∧ Below w0.heap.size w0 w' ∧ (∀ j, j < l.length → Pr j w (a.tmps.getD (srcOf l alt j) undef) → Pr j w' (a.tmps.getD (srcOf l alt j) undef)) ∧ Apart2 s t a' w' ∧ Pr i w' (a'.tmps.getD (srcOf l alt i) undef)) (NoPanic Q)) [] (a.put o.dst v) w' := by
  refine mixOn ⟨v, rfl, hbel.trans (hB.mono hbel.size), fun j _ h => hmono j w w' _ hB h, hX.step ?_ ?_ hB.size, ?_⟩
  · rw [hd, put_get (by rw [hsz]; exact hdn), if_neg hds]
  · rw [hd, put_get (by rw [hsz]; exact hdn), if_neg hdt]
  · rw [hd, put_get (by rw [hsz]; exact hdn), hs, if_pos rfl]; exact hp
end Go.Proofs.YtajpdmcbdekpbaaDoor
