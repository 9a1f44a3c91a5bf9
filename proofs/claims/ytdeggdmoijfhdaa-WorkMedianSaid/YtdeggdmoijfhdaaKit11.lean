/-
  My kit, eleventh part: a drawn region whose last operations (stores to old variables among them) wait for all others: the head by a list of what its operations yield, the others in their order.
-/
import Derived.Test.YtdeggdmoijfhdaaKitAll
namespace Go.Proofs.Ytdeggdmoijfhdaa
open Go Go.RowKit

/-- operation i waits for operation j -/
def depB (l : List Oper) (i j : Nat) : Bool := match l[i]? with
  | some o => o.after.any fun e => e.on == j && Region.binds .any e
  | none => false
/-- what comes behind the first n operations waits for all of them, and comes in one order -/
def tailB (l : List Oper) (n : Nat) : Bool :=
  decide (n ≤ l.length) && ((List.range l.length).all fun i => decide (i < n) || (List.range n).all fun j => depB l i j || (List.range n).any fun k => decide (j < k) && depB l k j) &&
  Region.seqB .any l.toArray (l.length - n) n (List.replicate n true ++ List.replicate (l.length - n) false).toArray
/-- every operation of the head has a slot of its own, inside the frame; what it waits for comes before it -/
def slotsTB (h : List Oper) (n : Nat) : Bool :=
  (List.range h.length).all fun i => match h[i]? with
    | some o => (match o.dst with
        | some d => decide (d < n) && (List.range h.length).all fun j => decide (j = i) || (match h[j]? with | some o' => o'.dst != some d | none => true)
        | none => false) && o.after.all fun e => !Region.binds .any e || decide (e.on < i)
    | none => true
theorem slotsT_at {h : List Oper} {n i : Nat} {o : Oper} (hB : slotsTB h n = true) (hi : h[i]? = some o) :
    (∃ d, o.dst = some d ∧ d < n ∧ ∀ j o', h[j]? = some o' → j ≠ i → o'.dst ≠ some d) ∧ ∀ e ∈ o.after, Region.binds .any e = true → e.on < i := by
  have hlt : i < h.length := (List.getElem?_eq_some_iff.1 hi).1
  have h1 := List.all_eq_true.1 hB i (List.mem_range.2 hlt)
  simp only [hi, Bool.and_eq_true] at h1
  obtain ⟨h2, h3⟩ := h1
  refine ⟨?_, fun ed he hb => ?_⟩
  · cases hd : o.dst with
    | none => rw [hd] at h2; cases h2
    | some d =>
      rw [hd] at h2
      simp only [Bool.and_eq_true, decide_eq_true_eq] at h2
      refine ⟨d, rfl, h2.1, fun j o' hj hne => ?_⟩
      have hjl : j < h.length := (List.getElem?_eq_some_iff.1 hj).1
      have h4 := List.all_eq_true.1 h2.2 j (List.mem_range.2 hjl)
      simp only [hj, Bool.or_eq_true, decide_eq_true_eq] at h4
      rcases h4 with h4 | h4
      · exact absurd h4 hne
      · simpa using h4
  · have h4 := (Array.all_eq_true'.1 h3) ed he
    simpa [hb] using h4
theorem dstOf_at {h : List Oper} {i : Nat} {o : Oper} {d : Tmp} (hi : h[i]? = some o) (hd : o.dst = some d) : dstOf h i = d := by unfold dstOf; simp [hi, hd]

section
variable {P : Program} {Q : Exit → Act → World → Prop}
structure MidT (l h : List Oper) (n : Nat) (A : List Tmp) (ss : List Spec) (a0 : Act) (w0 : World) (listed : Array Bool) (a : Act) (w : World) : Prop where
  size : a.tmps.size = a0.tmps.size
  defers : a.defers = a0.defers
  below : Below w0.heap.size w0 w
  other : ∀ s, (∀ (j : Nat) o, h[j]? = some o → o.dst ≠ some s) → a.tmps.getD s undef = a0.tmps.getD s undef
  closed : ∀ (j : Nat) o, h[j]? = some o → listed.getD j false = true → ∀ e ∈ o.after, Region.binds .any e = true → listed.getD e.on false = true
  tail : ∀ j, n ≤ j → listed.getD j false = false
  extra : ApartAll A a w
  done : ∀ j, j < n → listed.getD j false = true → specAt ss j w (a.tmps.getD (dstOf h j) undef)
/-- what a step must show -/
def SymStepT (P : Program) (Q : Exit → Act → World → Prop) (ops : Array Oper) (A : List Tmp) (h : List Oper) (ss : List Spec) (a0 : Act) (w0 : World) (i : Nat) (o : Oper) : Prop :=
  ∀ a w, a.tmps.size = a0.tmps.size → (∀ s, (∀ (j : Nat) o, h[j]? = some o → o.dst ≠ some s) → a.tmps.getD s undef = a0.tmps.getD s undef) → Below w0.heap.size w0 w → ApartAll A a w →
      (∀ e ∈ o.after, Region.binds .any e = true → specAt ss e.on w (a.tmps.getD (dstOf h e.on) undef)) →
      wpList P ops (Exit.then (fun a' w' => ∃ v, a' = a.put o.dst v ∧ Below w.heap.size w w' ∧ ApartAll A a' w' ∧ specAt ss i w' v) (NoPanic Q)) [o] a w
theorem midT_any {l h : List Oper} {n : Nat} {A : List Tmp} {ss : List Spec} {a0 : Act} {w0 : World} (hh : l.take n = h) (hB : slotsTB h a0.tmps.size = true) (hT : tailB l n = true)
    (hstep : ∀ i o, h[i]? = some o → SymStepT P Q l.toArray A h ss a0 w0 i o)
    (hfin : ∀ a w, a.tmps.size = a0.tmps.size → a.defers = a0.defers → Below w0.heap.size w0 w → ApartAll A a w → (∀ s, (∀ (j : Nat) o, h[j]? = some o → o.dst ≠ some s) → a.tmps.getD s undef = a0.tmps.getD s undef) → (∀ j, j < n → specAt ss j w (a.tmps.getD (dstOf h j) undef)) → wpList P l.toArray Q (l.drop n) a w) :
    ∀ (f : Nat) (listed : Array Bool) (a : Act) (w : World), listed.size = l.length → listed.toList.count false = f → MidT l h n A ss a0 w0 listed a w → wpAny P .any l.toArray Q f listed a w := by
  simp only [tailB, Bool.and_eq_true, decide_eq_true_eq] at hT
  obtain ⟨⟨hn, hsink⟩, hseq⟩ := hT
  have hhl : h.length = n := by rw [← hh]; simp; omega
  have hget : ∀ j, j < n → h[j]? = l[j]? := fun j hj => by rw [← hh]; simp [hj]
  have hnone : ∀ (listed : Array Bool) (a : Act) (w : World), listed.size = l.length → MidT l h n A ss a0 w0 listed a w → Region.ready .any l.toArray listed = [] → ∀ j, j < n → listed.getD j false = true := by
    intro listed a w hsz hM hr
    have hall : ∀ t j, j < t → j < n → listed.getD j false = true := by
      intro t
      induction t with
      | zero => intro j hj; omega
      | succ t ih =>
        intro j hj hjl
        by_cases hjn : j < t
        · exact ih j hjn hjl
        · obtain rfl : j = t := by omega
          cases hb : listed.getD j false
          · have hun : listed.getD j true = false := getD_in (by omega) hb
            obtain ⟨o, ho⟩ : ∃ o, h[j]? = some o := ⟨h[j], List.getElem?_eq_getElem (by omega)⟩
            have hmem : j ∈ Region.ready .any l.toArray listed := mem_ready.2 ⟨hun, o, by rw [← ho, hget j hjl]; simp, fun e he hbd => by
              have := (slotsT_at hB ho).2 e he hbd
              exact ih e.on this (by omega)⟩
            rw [hr] at hmem; cases hmem
          · rfl
    exact fun j hj => hall (j + 1) j (by omega) hj
  intro f
  induction f with
  | zero =>
    intro listed a w hsz hc hM
    have hr : Region.ready .any l.toArray listed = [] := by
      rw [List.eq_nil_iff_forall_not_mem]
      intro i hi
      have h1 := count_set (mem_ready.1 hi).1
      omega
    have hall := hnone listed a w hsz hM hr
    have hnl : n = l.length := by
      rcases Nat.lt_or_ge n l.length with h1 | h1
      · have h2 := hM.tail n (Nat.le_refl _)
        have h3 := count_set (getD_in (by omega) h2)
        omega
      · omega
    refine ⟨hr, ?_⟩
    have := hfin a w hM.size hM.defers hM.below hM.extra hM.other fun j hj => hM.done j hj (hall j hj)
    rw [hnl, List.drop_length] at this
    exact this
  | succ f ih =>
    intro listed a w hsz hc hM
    by_cases hall : ∀ j, j < n → listed.getD j false = true
    · have eT : listed = (List.replicate n true ++ List.replicate (l.length - n) false).toArray := by
        apply Array.ext
        · simp; omega
        · intro i h1 h2
          have e1 : listed.getD i false = listed[i] := by simp [h1]
          rw [← e1]
          by_cases hi : i < n
          · rw [hall i hi]; simp [hi]
          · rw [hM.tail i (by omega)]; simp [List.getElem_append, hi]
      have hf : f + 1 = l.length - n := by
        rw [← hc, eT]; simp [List.count_append, List.count_replicate]
      have := wpAny_of_seq (md := .any) (Q' := Q) (l.drop n) n listed a w (fun j => by simp [List.getElem?_drop]) (by rw [List.length_drop, eT]; exact hseq) (hfin a w hM.size hM.defers hM.below hM.extra hM.other fun j hj => hM.done j hj (hall j hj))
      rw [List.length_drop, ← hf] at this
      exact this
    · refine ⟨fun hr => absurd (hnone listed a w hsz hM hr) hall, fun i hi => ?_⟩
      obtain ⟨hun, o, ho, hdeps⟩ := mem_ready.1 hi
      have ho1 : l[i]? = some o := by simpa using ho
      have hin : i < n := by
        rcases Nat.lt_or_ge i n with h1 | h1
        · exact h1
        · exfalso
          apply hall
          have hil : i < l.length := (List.getElem?_eq_some_iff.1 ho1).1
          have h2 := List.all_eq_true.1 hsink i (List.mem_range.2 hil)
          simp only [Bool.or_eq_true, decide_eq_true_eq] at h2
          rcases h2 with h2 | h2
          · omega
          have key : ∀ t j, n ≤ j + t → j < n → listed.getD j false = true := by
            intro t
            induction t with
            | zero => intro j h3 h4; omega
            | succ t iht =>
              intro j h3 h4
              have h5 := List.all_eq_true.1 h2 j (List.mem_range.2 h4)
              simp only [Bool.or_eq_true] at h5
              rcases h5 with h5 | h5
              · unfold depB at h5
                rw [ho1] at h5
                obtain ⟨e, he, h6⟩ := Array.any_eq_true'.1 h5
                simp only [Bool.and_eq_true, beq_iff_eq] at h6
                rw [← h6.1]; exact hdeps e he h6.2
              · obtain ⟨k, hk, h6⟩ := List.any_eq_true.1 h5
                simp only [Bool.and_eq_true, decide_eq_true_eq] at h6
                have hkn : k < n := List.mem_range.1 hk
                have hkl := iht k (by omega) hkn
                have h7 := h6.2
                unfold depB at h7
                cases hq : l[k]? with
                | none => rw [hq] at h7; cases h7
                | some ok =>
                  rw [hq] at h7
                  obtain ⟨e, he, h8⟩ := Array.any_eq_true'.1 h7
                  simp only [Bool.and_eq_true, beq_iff_eq] at h8
                  rw [← h8.1]
                  exact hM.closed k ok (by rw [hget k hkn]; exact hq) hkl e he h8.2
          exact fun j hj => key n j (by omega) hj
      have ho' : h[i]? = some o := by rw [hget i hin]; exact ho1
      obtain ⟨⟨d, hd, hdn, hdist⟩, hbef⟩ := slotsT_at hB ho'
      have hun' : listed.getD i false = false := by
        cases hb : listed.getD i false
        · rfl
        · have := getD_both hun; rw [hb] at this; exact this
      have h1 := hstep i o ho' a w hM.size hM.other hM.below hM.extra fun e he hb => hM.done e.on (by have := hbef e he hb; omega) (hdeps e he hb)
      refine wpOp_noPanic (wpOp_mono (fun a' w' ⟨v, ha, hbw, hx, hp⟩ => ?_) (wpOp_of_list ho h1))
      subst ha
      rw [hd] at hx ⊢
      refine ih _ _ _ (by simpa using hsz) (by have := count_set hun; omega) ⟨?_, ?_, hM.below.trans (hbw.mono hM.below.size), fun s hs => ?_, fun j oj hoj hl e he hbd => ?_, fun j hj => ?_, hx, fun j hj hl => ?_⟩
      · simp [Act.put, hM.size]
      · simp [Act.put, hM.defers]
      · rw [put_get (by rw [hM.size]; exact hdn), if_neg (fun e => hs i o ho' (by rw [hd, e]))]
        exact hM.other s hs
      · by_cases hji : j = i
        · subst hji
          obtain rfl : oj = o := Option.some.inj (hoj.symm.trans ho')
          exact getD_set_true (hdeps e he hbd)
        · rw [getD_set_ne false (Ne.symm hji)] at hl
          exact getD_set_true (hM.closed j oj hoj hl e he hbd)
      · rw [getD_set_ne false (by omega)]; exact hM.tail j hj
      · rw [put_get (by rw [hM.size]; exact hdn)]
        by_cases hji : j = i
        · subst hji
          rw [dstOf_at ho' hd, if_pos rfl]; exact hp
        · rw [getD_set_ne false (Ne.symm hji)] at hl
          obtain ⟨oj, hoj⟩ : ∃ o, h[j]? = some o := ⟨h[j], List.getElem?_eq_getElem (by omega)⟩
          obtain ⟨⟨dj, hdj, _, _⟩, _⟩ := slotsT_at hB hoj
          rw [dstOf_at hoj hdj, if_neg (fun e => hdist j oj hoj hji (by rw [hdj, e]))]
          have := hM.done j hj hl
          rw [dstOf_at hoj hdj] at this
          exact specAt_mono j w w' _ hbw this

/-- A DRAWN REGION WITH A TAIL -/
theorem region_symT {id : Nat} {a0 : Act} {w0 : World} {l : List Oper} (n : Nat) (h : List Oper) (is : List Nat) (A : List Tmp) (ss : List Spec) (hh : l.take n = h) (hm : P.follows .mixedOrders = true) (hAI : (is.all fun i => ((h[i]?).bind (·.dst)).isSome && A.contains (dstOf h i)) = true) (hB : slotsTB h a0.tmps.size = true) (hT : tailB l n = true) (hl : ss.length = n) (hA : ∀ s ∈ A, a0.tmps.getD s undef = undef)
    (hstep : ∀ i o, h[i]? = some o → SymStepT P Q l.toArray A h ss a0 w0 i o)
    (hfin : ∀ w, Below w0.heap.size w0 w → AllV w ss (fun vs => ApartV is vs → wpList P l.toArray Q (l.drop n) (putAll a0 h vs) w)) :
    (Code.region id l.toArray true).wp P Q a0 w0 := by
  refine wp_region_any hm ?_
  have hnl : n ≤ l.length := by simp only [tailB, Bool.and_eq_true, decide_eq_true_eq] at hT; exact hT.1.1
  have hhl : h.length = n := by rw [← hh]; simp; omega
  refine midT_any (w0 := w0) (a0 := a0) hh hB hT hstep ?_ _ _ _ _ (by simp) ?_ ⟨rfl, rfl, ⟨rfl, rfl, rfl, Nat.le_refl _, fun _ _ => rfl⟩, fun _ _ => rfl, fun j o _ h => ?_, fun j _ => ?_, apartAll_start hA, fun j _ h => ?_⟩
  · intro a w hsz hdf hbel hX hoth hall
    have hf := hfin w hbel
    obtain ⟨vs, hvs⟩ : ∃ vs : List Value, vs = (List.range h.length).map fun j => a.tmps.getD (dstOf h j) undef := ⟨_, rfl⟩
    have hvl : vs.length = h.length := by rw [hvs]; simp
    have hva : ∀ j, j < h.length → vs.getD j undef = a.tmps.getD (dstOf h j) undef := fun j hj => by
      rw [hvs]; simp [List.getD_eq_getElem?_getD, hj]
    have key := allV_at ss _ vs (by rw [hvl, hl, hhl]) (fun j hj => by
      rw [hva j (by omega)]
      exact hall j (by omega)) hf
    have ea : a = putAll a0 h vs := by
      have hs2 := putAll_size h vs a0
      have hd2 := putAll_defers h vs a0
      clear hX key hf hall
      obtain ⟨tm, df⟩ := a
      generalize hpa : putAll a0 h vs = pa at *
      obtain ⟨tm2, df2⟩ := pa
      have e1 : tm = tm2 := by
        have hn : tm.size = a0.tmps.size := hsz
        have hn2 : tm2.size = a0.tmps.size := hs2
        apply Array.ext (by omega)
        intro s h1 h2
        have hg : tm.getD s undef = tm2.getD s undef := by
          by_cases hin : ∃ (j : Nat) (o : Oper), h[j]? = some o ∧ o.dst = some s
          · obtain ⟨j, o, ho, hd⟩ := hin
            have hjl : j < h.length := (List.getElem?_eq_some_iff.1 ho).1
            obtain ⟨⟨d, hd', _, hdist⟩, _⟩ := slotsT_at hB ho
            obtain rfl : d = s := Option.some.inj (hd'.symm.trans hd)
            have h3 := putAll_in h vs a0 j o (Nat.lt_of_lt_of_eq h1 hn) hvl.symm ho hd hdist
            rw [hpa] at h3
            rw [show tm2.getD d undef = vs.getD j undef from h3, hva j hjl, dstOf_at ho hd]
          · have hno : ∀ (j : Nat) o, h[j]? = some o → o.dst ≠ some s := fun j o hj hd => hin ⟨j, o, hj, hd⟩
            have h3 := putAll_out h vs a0 hno
            rw [hpa] at h3
            exact (hoth s hno).trans h3.symm
        simpa [h1, h2] using hg
      have e2 : df = df2 := hdf.trans hd2.symm
      rw [e1, e2]
    have hV : ApartV is vs := fun i hi j hj hne g e1 e2 => by
      have hq : ∀ i ∈ is, ∃ o d, h[i]? = some o ∧ o.dst = some d ∧ d ∈ A ∧ i < h.length := fun i hi => by
        have h1 := List.all_eq_true.1 hAI i hi
        simp only [Bool.and_eq_true] at h1
        cases ho : h[i]? with
        | none => rw [ho] at h1; simp at h1
        | some o =>
          cases hd : o.dst with
          | none => rw [ho] at h1; simp [hd] at h1
          | some d =>
            have h2 := h1.2
            rw [dstOf_at ho hd] at h2
            exact ⟨o, d, rfl, hd, by simpa using h2, (List.getElem?_eq_some_iff.1 ho).1⟩
      obtain ⟨oi, di, h1, h2, h3, h4⟩ := hq i hi
      obtain ⟨oj, dj, k1, k2, k3, k4⟩ := hq j hj
      rw [hva i h4, dstOf_at h1 h2] at e1
      rw [hva j k4, dstOf_at k1 k2] at e2
      obtain ⟨⟨d, hd', _, hdist⟩, _⟩ := slotsT_at hB h1
      obtain rfl : d = di := Option.some.inj (hd'.symm.trans h2)
      have hdd : d ≠ dj := fun e => hdist j oj k1 (Ne.symm hne) (by rw [k2, e])
      exact hX.2 d h3 dj k3 hdd g e1 e2
    rw [ea]; exact key hV
  · simp
  · rw [getD_replicate_false] at h; cases h
  · rw [getD_replicate_false]
  · rw [getD_replicate_false] at h; cases h

/-- the end of a step that yields a value, none of the new variables -/
theorem symVT {ops : Array Oper} {A : List Tmp} {ss : List Spec} {a0 a : Act} {w w' : World} {o : Oper} {i d : Nat} {v : Value} (hX : ApartAll A a w) (hsz : a.tmps.size = a0.tmps.size) (hd : o.dst = some d) (hdn : d < a0.tmps.size) (hnA : A.contains d = false) (hB : Below w.heap.size w w') (hp : specAt ss i w' v) :
    wpList P ops (Exit.then (fun a' w' => ∃ v, a' = a.put o.dst v ∧ Below w.heap.size w w' ∧ ApartAll A a' w' ∧ specAt ss i w' v) (NoPanic Q)) [] (a.put o.dst v) w' := by
  refine mixOn ⟨v, rfl, hB, hX.step (fun t ht => ?_) hB.size, hp⟩
  rw [hd, put_get (by rw [hsz]; exact hdn), if_neg]
  intro e; subst e
  have : A.contains t = true := by simpa using ht
  rw [hnA] at this; cases this
/-- the end of a step that makes a new variable -/
theorem symAT {ops : Array Oper} {A : List Tmp} {ss : List Spec} {a0 a : Act} {w w' : World} {o : Oper} {i d : Nat} (hX : ApartAll A a w) (hsz : a.tmps.size = a0.tmps.size) (hd : o.dst = some d) (hdn : d < a0.tmps.size) (hz : w.heap.size < w'.heap.size) (hB : Below w.heap.size w w') (hp : specAt ss i w' (.pointer (some ⟨w.heap.size, 0, none⟩))) :
    wpList P ops (Exit.then (fun a' w' => ∃ v, a' = a.put o.dst v ∧ Below w.heap.size w w' ∧ ApartAll A a' w' ∧ specAt ss i w' v) (NoPanic Q)) [] (a.put o.dst (.pointer (some ⟨w.heap.size, 0, none⟩))) w' := by
  refine mixOn ⟨_, rfl, hB, ?_, hp⟩
  rw [hd]; exact hX.new (by rw [hsz]; exact hdn) hz
end
end Go.Proofs.Ytdeggdmoijfhdaa
