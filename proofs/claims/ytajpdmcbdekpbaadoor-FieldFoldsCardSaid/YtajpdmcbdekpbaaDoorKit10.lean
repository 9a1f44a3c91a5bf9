/-
  My kit, tenth part: a statement's own variables of whatever type as one fact; a drawn region with several new variables.
-/
import Derived.Test.YtajpdmcbdekpbaaDoorKit9
import Derived.Test.YtajpdmcbdekpbaaDoorKitGen
namespace Go.Proofs.YtajpdmcbdekpbaaDoor
open Go Go.RowKit

/-- the blocks hold these rows; what was there before is as it was -/
structure Mm (w0 w : World) (l : List (Nat × TypeId × Array Value)) : Prop where
  rows : ∀ (i g : Nat) (T : TypeId) (cs : Array Value), l[i]? = some (g, T, cs) → Row w g T cs
  apart : l.Pairwise (fun a b => a.1 ≠ b.1)
  ge : ∀ (i g : Nat) (T : TypeId) (cs : Array Value), l[i]? = some (g, T, cs) → w0.heap.size ≤ g
  below : Below w0.heap.size w0 w
theorem mm_nil (w : World) : Mm w w [] := ⟨fun i g T cs h => by simp at h, List.Pairwise.nil, fun i g T cs h => by simp at h, Below.refl _ _⟩
theorem Mm.get {w0 w : World} {l : List (Nat × TypeId × Array Value)} (h : Mm w0 w l) (i : Nat) {g : Nat} {T : TypeId} {cs : Array Value} (hi : l[i]? = some (g, T, cs)) : Row w g T cs := h.rows i g T cs hi
theorem Mm.on {w0 w w' : World} {l : List (Nat × TypeId × Array Value)} (h : Mm w0 w l) (hb : Below w.heap.size w w') : Mm w0 w' l :=
  ⟨fun i g T cs hi => (h.rows i g T cs hi).below hb (h.rows i g T cs hi).lt, h.apart, h.ge, h.below.trans (hb.mono h.below.size)⟩
theorem Mm.size {w0 w : World} {l : List (Nat × TypeId × Array Value)} (h : Mm w0 w l) : w0.heap.size ≤ w.heap.size := h.below.size
theorem Mm.cons {w0 w : World} {l : List (Nat × TypeId × Array Value)} {g : Nat} {T : TypeId} {cs : Array Value} (h : Mm w0 w l) (hr : Row w g T cs) (hge : w0.heap.size ≤ g) (hne : ∀ p ∈ l, g ≠ p.1) : Mm w0 w ((g, T, cs) :: l) := by
  refine ⟨fun i k U ds hi => ?_, List.Pairwise.cons hne h.apart, fun i k U ds hi => ?_, h.below⟩
  · cases i with
    | zero => simp at hi; obtain ⟨rfl, rfl, rfl⟩ := hi; exact hr
    | succ i => exact h.rows i k U ds (by simpa using hi)
  · cases i with
    | zero => simp at hi; obtain ⟨rfl, rfl, rfl⟩ := hi; exact hge
    | succ i => exact h.ge i k U ds (by simpa using hi)
theorem Mm.lt {w0 w : World} {l : List (Nat × TypeId × Array Value)} (h : Mm w0 w l) {p : Nat × TypeId × Array Value} (hp : p ∈ l) : p.1 < w.heap.size := by
  obtain ⟨i, hi⟩ := List.getElem?_of_mem hp
  exact (h.rows i p.1 p.2.1 p.2.2 hi).lt
/-- a new block, whatever its number above the old ones -/
theorem Mm.add {w0 w w' : World} {l : List (Nat × TypeId × Array Value)} {g : Nat} {T : TypeId} {cs : Array Value} (h : Mm w0 w l) (hb : Below w.heap.size w w') (hg : w.heap.size ≤ g) (hr : Row w' g T cs) : Mm w0 w' ((g, T, cs) :: l) :=
  (h.on hb).cons hr (Nat.le_trans h.size hg) fun p hp => by have := h.lt hp; omega
theorem Mm.new {w0 w w' : World} {l : List (Nat × TypeId × Array Value)} {T : TypeId} {cs : Array Value} (h : Mm w0 w l) (hr : Row w' w.heap.size T cs) (hb : Below w.heap.size w w') : Mm w0 w' ((w.heap.size, T, cs) :: l) := h.add hb (Nat.le_refl _) hr
theorem Mm.drop {w0 w : World} {l : List (Nat × TypeId × Array Value)} {p : Nat × TypeId × Array Value} (h : Mm w0 w (p :: l)) : Mm w0 w l :=
  ⟨fun i g T cs hi => h.rows (i + 1) g T cs (by simpa using hi), (List.pairwise_cons.1 h.apart).2, fun i g T cs hi => h.ge (i + 1) g T cs (by simpa using hi), h.below⟩
theorem apart_set {l : List (Nat × TypeId × Array Value)} (h : l.Pairwise (fun a b => a.1 ≠ b.1)) (i : Nat) {g : Nat} {T : TypeId} {cs ds : Array Value} (hi : l[i]? = some (g, T, cs)) : (l.set i (g, T, ds)).Pairwise (fun a b => a.1 ≠ b.1) := by
  rw [List.pairwise_iff_getElem] at h ⊢
  intro p q hp hq hpq
  have e : ∀ (k : Nat) (hk : k < (l.set i (g, T, ds)).length), ((l.set i (g, T, ds))[k]).1 = (l[k]'(by simpa using hk)).1 := fun k hk => by
    rw [List.getElem_set]
    split
    · rename_i h'; subst h'
      have hil : i < l.length := (List.getElem?_eq_some_iff.1 hi).1
      rw [List.getElem?_eq_getElem hil] at hi
      have := Option.some.inj hi
      rw [this]
    · rfl
  rw [e p hp, e q hq]
  exact h p q (by simpa using hp) (by simpa using hq) hpq
theorem Mm.putAt {w0 w w' : World} {l : List (Nat × TypeId × Array Value)} {g : Nat} {T : TypeId} {cs ds : Array Value} (h : Mm w0 w l) (i : Nat) (hi : l[i]? = some (g, T, cs)) (hw : Wrote g w w') (hr : Row w' g T ds) : Mm w0 w' (l.set i (g, T, ds)) := by
  have hil : i < l.length := (List.getElem?_eq_some_iff.1 hi).1
  refine ⟨fun j k U es hj => ?_, apart_set h.apart i hi, fun j k U es hj => ?_, h.below.trans (hw.below (h.ge i g T cs hi))⟩
  · by_cases e : i = j
    · subst e
      rw [List.getElem?_set_self hil] at hj
      simp at hj; obtain ⟨rfl, rfl, rfl⟩ := hj; exact hr
    · rw [List.getElem?_set_ne e] at hj
      refine hw.row (h.rows j k U es hj) ?_
      have hd := List.pairwise_iff_getElem.1 h.apart
      obtain ⟨_, e1⟩ := List.getElem?_eq_some_iff.1 hi
      obtain ⟨hjl, e2⟩ := List.getElem?_eq_some_iff.1 hj
      rcases Nat.lt_or_gt_of_ne e with h' | h'
      · have := hd i j hil hjl h'; rw [e1, e2] at this; exact Ne.symm this
      · have := hd j i hjl hil h'; rw [e1, e2] at this; exact this
  · by_cases e : i = j
    · subst e
      rw [List.getElem?_set_self hil] at hj
      simp at hj; obtain ⟨rfl, rfl, rfl⟩ := hj; exact h.ge i g T cs hi
    · rw [List.getElem?_set_ne e] at hj; exact h.ge j k U es hj

section
variable {P : Program} {ops : Array Oper} {Q : Exit → Act → World → Prop} {rest : List Oper} {o : Oper} {a : Act} {w0 w : World} {l : List (Nat × TypeId × Array Value)}
/-- steps over Mm -/
theorem mmBox (hM : Mm w0 w l) (T : TypeId) (x : Operand) (cs : Array Value) (ho : o.op = .box T x) (hg : Region.wanted o (yielded ops a.tmps) = true) (hx : a.eval x = .agg cs)
    (h : ∀ w1, Mm w0 w1 ((w.heap.size, T, cs) :: l) → wpList P ops Q rest (a.put o.dst (.pointer (some ⟨w.heap.size, 0, none⟩))) w1) : wpList P ops Q (o :: rest) a w :=
  kBoxL _ x _ ho hg hx fun w1 hr _ hb => h w1 (hM.new hr hb)
theorem mmAlloc (hM : Mm w0 w l) (T : TypeId) (Z : Array Value) (ho : o.op = .alloc T) (hg : Region.wanted o (yielded ops a.tmps) = true) (hz : ((P.info? T).bind (·.zero)).map Value.cells = some Z)
    (h : ∀ w1, Mm w0 w1 ((w.heap.size, T, Z) :: l) → wpList P ops Q rest (a.put o.dst (.pointer (some ⟨w.heap.size, 0, none⟩))) w1) : wpList P ops Q (o :: rest) a w :=
  kAllocL _ _ ho hg hz fun w1 hr _ hb => h w1 (hM.new hr hb)
theorem mmLoad (hM : Mm w0 w l) (i : Nat) (x : Operand) (T U : TypeId) (g : Nat) (cs : Array Value) (d : TypeDesc) (hi : l[i]? = some (g, U, cs)) (ho : o.op = .load T x) (hg : Region.wanted o (yielded ops a.tmps) = true) (hx : a.eval x = .pointer (some ⟨g, 0, none⟩)) (hu : P.underlying T = some d) (hd : aggDesc d = true) (hs : (P.info? T).map (·.size) = some cs.size)
    (h : wpList P ops Q rest (a.put o.dst (.agg cs)) w) : wpList P ops Q (o :: rest) a w :=
  kLoadRow _ _ x g _ _ ho hg hx (hM.get i hi) hu hd hs h
theorem mmStoreAt (hM : Mm w0 w l) (i : Nat) (T U : TypeId) (g : Nat) (x y : Operand) (cs ds : Array Value) (hi : l[i]? = some (g, U, cs)) (ho : o.op = .store T x y) (hg : Region.wanted o (yielded ops a.tmps) = true) (hx : a.eval x = .pointer (some ⟨g, 0, none⟩)) (hy : a.eval y = .agg ds) (hs : (P.info? T).map (·.size) = some ds.size) (hn : ds.size = cs.size) (h1 : ∀ v ∈ ds, v.oneCell' = true)
    (h : ∀ w1, Mm w0 w1 (l.set i (g, U, ds)) → wpList P ops Q rest (a.put o.dst undef) w1) : wpList P ops Q (o :: rest) a w :=
  kStoreRow _ _ x y g _ _ ho hg hx hy (hM.get i hi) hs hn h1 fun w1 hr hw => h w1 (hM.putAt i hi hw hr)
end

/-! ### several new variables -/
/-- the slots point to blocks that are there, each to another one -/
def ApartAll (A : List Tmp) (a : Act) (w : World) : Prop :=
  (∀ s ∈ A, ∀ g, a.tmps.getD s undef = .pointer (some ⟨g, 0, none⟩) → g < w.heap.size) ∧ ∀ s ∈ A, ∀ t ∈ A, s ≠ t → ∀ g, a.tmps.getD s undef = .pointer (some ⟨g, 0, none⟩) → a.tmps.getD t undef = .pointer (some ⟨g, 0, none⟩) → False
theorem apartAll_start {A : List Tmp} {a : Act} {w : World} (h : ∀ s ∈ A, a.tmps.getD s undef = undef) : ApartAll A a w :=
  ⟨fun s hs g e => (by rw [h s hs] at e; cases e), fun s hs _ _ _ g e => (by rw [h s hs] at e; cases e)⟩
theorem ApartAll.step {A : List Tmp} {a a' : Act} {w w' : World} (h : ApartAll A a w) (he : ∀ s ∈ A, a'.tmps.getD s undef = a.tmps.getD s undef) (hz : w.heap.size ≤ w'.heap.size) : ApartAll A a' w' := by
  refine ⟨fun s hs g e => ?_, fun s hs t ht hne g e1 e2 => ?_⟩
  · rw [he s hs] at e; exact Nat.lt_of_lt_of_le (h.1 s hs g e) hz
  · rw [he s hs] at e1; rw [he t ht] at e2; exact h.2 s hs t ht hne g e1 e2
theorem ApartAll.new {A : List Tmp} {a : Act} {w w' : World} {d : Tmp} (h : ApartAll A a w) (hd : d < a.tmps.size) (hz : w.heap.size < w'.heap.size) : ApartAll A (a.put (some d) (.pointer (some ⟨w.heap.size, 0, none⟩))) w' := by
  refine ⟨fun s hs g e => ?_, fun s hs t ht hne g e1 e2 => ?_⟩
  · rw [put_get hd] at e
    split at e
    · injection e with e; injection e with e; injection e with e; omega
    · exact Nat.lt_trans (h.1 s hs g e) hz
  · rw [put_get hd] at e1 e2
    split at e1 <;> split at e2
    · rename_i h1 h2; exact hne (h1.trans h2.symm)
    · injection e1 with e1; injection e1 with e1; injection e1 with e1
      have := h.1 t ht g e2; omega
    · injection e2 with e2; injection e2 with e2; injection e2 with e2
      have := h.1 s hs g e1; omega
    · exact h.2 s hs t ht hne g e1 e2

section
variable {P : Program} {Q : Exit → Act → World → Prop}
def SymStepN (P : Program) (Q : Exit → Act → World → Prop) (A : List Tmp) (l : List Oper) (alt : Nat → Nat) (ss : List Spec) (a0 : Act) (w0 : World) (i : Nat) (o : Oper) : Prop :=
  ∀ a w, a.tmps.size = a0.tmps.size → (∀ s, (∀ (j : Nat) o, l[j]? = some o → o.dst ≠ some s) → a.tmps.getD s undef = a0.tmps.getD s undef) → Below w0.heap.size w0 w → ApartAll A a w →
      (∀ e ∈ o.after, Region.binds .any e = true → specAt ss e.on w (a.tmps.getD (srcOf l alt e.on) undef)) →
      wpList P l.toArray (Exit.then (fun a' w' => ∃ v, a' = a.put o.dst v ∧ Below w0.heap.size w0 w' ∧ (∀ j, j < l.length → specAt ss j w (a.tmps.getD (srcOf l alt j) undef) → specAt ss j w' (a.tmps.getD (srcOf l alt j) undef)) ∧ ApartAll A a' w' ∧ specAt ss i w' (a'.tmps.getD (srcOf l alt i) undef)) (NoPanic Q)) [o] a w

/-- new variables are apart, by the list of the values -/
def ApartV (is : List Nat) (vs : List Value) : Prop := ∀ i ∈ is, ∀ j ∈ is, i ≠ j → ∀ g, vs.getD i undef = .pointer (some ⟨g, 0, none⟩) → vs.getD j undef = .pointer (some ⟨g, 0, none⟩) → False
theorem region_symN {id : Nat} {a0 : Act} {w0 : World} {l : List Oper} (is : List Nat) (A : List Tmp) (hAI : (is.all fun i => ((l[i]?).bind (·.dst)).isSome && A.contains (dstOf l i)) = true) (alt : Nat → Nat) (ss fs : List Spec) (hm : P.follows .mixedOrders = true) (hB : slots2B l a0.tmps.size alt = true) (hl : ss.length = l.length) (hfs : finList l alt ss = fs) (hA : ∀ s ∈ A, a0.tmps.getD s undef = undef)
    (hstep : ∀ i o, l[i]? = some o → SymStepN P Q A l alt ss a0 w0 i o)
    (hfin : ∀ w, Below w0.heap.size w0 w → AllV w fs (fun vs => ApartV is vs → Q .normal (putAll a0 l vs) w)) :
    (Code.region id l.toArray true).wp P Q a0 w0 := by
  refine region_inv3 alt (specAt ss) (ApartAll A) (fun w _ => apartAll_start hA) hm hB hstep ?_
  intro a w hsz hdf hbel hX hoth hall
  have hf := hfin w hbel
  obtain ⟨vs, hvs⟩ : ∃ vs : List Value, vs = (List.range l.length).map fun j => match (l[j]?).bind (·.dst) with | some d => a.tmps.getD d undef | none => undef := ⟨_, rfl⟩
  have hvl : vs.length = l.length := by rw [hvs]; simp
  have hva : ∀ j, j < l.length → vs.getD j undef = match (l[j]?).bind (·.dst) with | some d => a.tmps.getD d undef | none => undef := fun j hj => by
    rw [hvs]; simp [List.getD_eq_getElem?_getD, hj]
  have key := allV_at fs _ vs (by rw [← hfs, hvl]; simp [finList]) (fun j hj => by
    rw [← hfs] at hj ⊢
    have hjl : j < l.length := by simpa [finList] using hj
    have e1 : (finList l alt ss)[j]? = some (finAt l alt ss j) := by simp [finList, hjl]
    unfold specAt
    rw [e1]
    show (finAt l alt ss j).at w (vs.getD j undef)
    rw [hva j hjl]
    obtain ⟨o, ho⟩ : ∃ o, l[j]? = some o := ⟨l[j], List.getElem?_eq_getElem hjl⟩
    have hss : ∀ i, i < l.length → ss[i]? = some (ss.getD i (.val undef)) := fun i hi => by
      rw [List.getD_eq_getElem?_getD, List.getElem?_eq_getElem (by omega)]; simp
    unfold finAt
    cases hd : o.dst with
    | none => simp [ho, hd, Spec.at]
    | some d =>
      have ho2 : (l[j]?).bind (·.dst) = some d := by rw [ho]; simp [hd]
      rw [ho2]
      show Spec.at (match (List.range l.length).find? (fun i => alt i == j && ((l[i]?).bind (·.dst)).isNone) with | some i => ss.getD i (.val undef) | none => ss.getD j (.val undef)) w (a.tmps.getD d undef)
      cases hq : (List.range l.length).find? (fun i => alt i == j && ((l[i]?).bind (·.dst)).isNone) with
      | none =>
        have h1 := hall j hjl
        unfold specAt at h1
        rw [hss j hjl] at h1
        have es : srcOf l alt j = d := by unfold srcOf; simp [ho, hd]
        rw [es] at h1
        exact h1
      | some i =>
        have h2 := List.find?_some hq
        have hil : i < l.length := by simpa using List.mem_of_find?_eq_some hq
        simp only [Bool.and_eq_true, beq_iff_eq] at h2
        obtain ⟨h3, h4⟩ := h2
        obtain ⟨oi, hoi⟩ : ∃ o, l[i]? = some o := ⟨l[i], List.getElem?_eq_getElem hil⟩
        rw [hoi] at h4
        have h5 : oi.dst = none := by simpa using h4
        have h1 := hall i hil
        unfold specAt at h1
        rw [hss i hil] at h1
        have es : srcOf l alt i = d := by unfold srcOf; simp [hoi, h5, h3, dstOf, ho, hd]
        rw [es] at h1
        exact h1) hf
  have ea : a = putAll a0 l vs := by
    have hs2 := putAll_size l vs a0
    have hd2 := putAll_defers l vs a0
    clear hX key hf hall
    obtain ⟨tm, df⟩ := a
    generalize hpa : putAll a0 l vs = pa at *
    obtain ⟨tm2, df2⟩ := pa
    have e1 : tm = tm2 := by
      have hn : tm.size = a0.tmps.size := hsz
      have hn2 : tm2.size = a0.tmps.size := hs2
      apply Array.ext (by omega)
      intro s h1 h2
      have hg : tm.getD s undef = tm2.getD s undef := by
        by_cases hin : ∃ (j : Nat) (o : Oper), l[j]? = some o ∧ o.dst = some s
        · obtain ⟨j, o, ho, hd⟩ := hin
          have hjl : j < l.length := (List.getElem?_eq_some_iff.1 ho).1
          have h3 := putAll_in l vs a0 j o (Nat.lt_of_lt_of_eq h1 hn) hvl.symm ho hd ((slots2_at hB ho).1 s hd).2
          rw [hpa] at h3
          rw [show tm2.getD s undef = vs.getD j undef from h3, hva j hjl, ho]
          simp [hd]
        · have hno : ∀ (j : Nat) o, l[j]? = some o → o.dst ≠ some s := fun j o hj hd => hin ⟨j, o, hj, hd⟩
          have h3 := putAll_out l vs a0 hno
          rw [hpa] at h3
          exact (hoth s hno).trans h3.symm
      simpa [h1, h2] using hg
    have e2 : df = df2 := hdf.trans hd2.symm
    rw [e1, e2]
  have hV : ApartV is vs := fun i hi j hj hne g e1 e2 => by
    have hq : ∀ i ∈ is, ∃ o d, l[i]? = some o ∧ o.dst = some d ∧ d ∈ A ∧ i < l.length := fun i hi => by
      have h1 := List.all_eq_true.1 hAI i hi
      simp only [Bool.and_eq_true] at h1
      cases ho : l[i]? with
      | none => rw [ho] at h1; simp at h1
      | some o =>
        cases hd : o.dst with
        | none => rw [ho] at h1; simp [hd] at h1
        | some d =>
          have h2 := h1.2
          have e : dstOf l i = d := by unfold dstOf; simp [ho, hd]
          rw [e] at h2
          exact ⟨o, d, rfl, hd, by simpa using h2, (List.getElem?_eq_some_iff.1 ho).1⟩
    obtain ⟨oi, di, h1, h2, h3, h4⟩ := hq i hi
    obtain ⟨oj, dj, k1, k2, k3, k4⟩ := hq j hj
    rw [hva i h4, h1] at e1
    rw [hva j k4, k1] at e2
    simp only [Option.bind_some, h2] at e1
    simp only [Option.bind_some, k2] at e2
    have hdd : di ≠ dj := fun e => ((slots2_at hB h1).1 di h2).2 j oj k1 (Ne.symm hne) (by rw [k2, e])
    exact hX.2 di h3 dj k3 hdd g e1 e2
  rw [ea]; exact key hV

/-- the end of a step that yields a value, none of the new variables -/
theorem symVN {A : List Tmp} {l : List Oper} {alt : Nat → Nat} {ss : List Spec} {a0 a : Act} {w0 w w' : World} {o : Oper} {i d : Nat} {v : Value} (hbel : Below w0.heap.size w0 w) (hX : ApartAll A a w) (hsz : a.tmps.size = a0.tmps.size) (hd : o.dst = some d) (hs : srcOf l alt i = d) (hdn : d < a0.tmps.size) (hnA : A.contains d = false) (hB : Below w.heap.size w w') (hp : specAt ss i w' v) :
    wpList P l.toArray (Exit.then (fun a' w' => ∃ v, a' = a.put o.dst v ∧ Below w0.heap.size w0 w' ∧ (∀ j, j < l.length → specAt ss j w (a.tmps.getD (srcOf l alt j) undef) → specAt ss j w' (a.tmps.getD (srcOf l alt j) undef)) ∧ ApartAll A a' w' ∧ specAt ss i w' (a'.tmps.getD (srcOf l alt i) undef)) (NoPanic Q)) [] (a.put o.dst v) w' := by
  refine mixOn ⟨v, rfl, hbel.trans (hB.mono hbel.size), fun j _ h => specAt_mono j w w' _ hB h, hX.step (fun t ht => ?_) hB.size, ?_⟩
  · rw [hd, put_get (by rw [hsz]; exact hdn), if_neg]
    intro e; subst e
    have : A.contains t = true := by simpa using ht
    rw [hnA] at this; cases this
  · rw [hd, put_get (by rw [hsz]; exact hdn), hs, if_pos rfl]; exact hp
/-- the end of a step that makes a new variable -/
theorem symAN {A : List Tmp} {l : List Oper} {alt : Nat → Nat} {ss : List Spec} {a0 a : Act} {w0 w w' : World} {o : Oper} {i d : Nat} (hbel : Below w0.heap.size w0 w) (hX : ApartAll A a w) (hsz : a.tmps.size = a0.tmps.size) (hd : o.dst = some d) (hs : srcOf l alt i = d) (hdn : d < a0.tmps.size) (hz : w.heap.size < w'.heap.size) (hB : Below w.heap.size w w') (hp : specAt ss i w' (.pointer (some ⟨w.heap.size, 0, none⟩))) :
    wpList P l.toArray (Exit.then (fun a' w' => ∃ v, a' = a.put o.dst v ∧ Below w0.heap.size w0 w' ∧ (∀ j, j < l.length → specAt ss j w (a.tmps.getD (srcOf l alt j) undef) → specAt ss j w' (a.tmps.getD (srcOf l alt j) undef)) ∧ ApartAll A a' w' ∧ specAt ss i w' (a'.tmps.getD (srcOf l alt i) undef)) (NoPanic Q)) [] (a.put o.dst (.pointer (some ⟨w.heap.size, 0, none⟩))) w' := by
  refine mixOn ⟨_, rfl, hbel.trans (hB.mono hbel.size), fun j _ h => specAt_mono j w w' _ hB h, ?_, ?_⟩
  · rw [hd]; exact hX.new (by rw [hsz]; exact hdn) hz
  · rw [hd, put_get (by rw [hsz]; exact hdn), hs, if_pos rfl]; exact hp
/-- what is spoken of: of the variable of the slot s only that it has n cells; all other new variables have slots of the list -/
def OnlyAt (A : List Tmp) (l : List Oper) (alt : Nat → Nat) (i : Nat) (s : Tmp) (n : Nat) : Nat → List Spec → Prop
  | _, [] => True
  | k, .val _ :: ss => OnlyAt A l alt i s n (k + 1) ss
  | k, .fresh _ _ n' :: ss => (A.contains (srcOf l alt k) = true ∧ (srcOf l alt k = s → n' = n)) ∧ OnlyAt A l alt i s n (k + 1) ss
  | k, .hold _ _ _ :: ss => (k = i ∨ (A.contains (srcOf l alt k) = true ∧ srcOf l alt k ≠ s)) ∧ OnlyAt A l alt i s n (k + 1) ss
  | _, .prop _ _ :: _ => False
theorem onlyAt_wrote {A : List Tmp} {l : List Oper} {alt : Nat → Nat} {i : Nat} {s : Tmp} {T : TypeId} {cs : Array Value} {g : Nat} {a : Act} {w w' : World} (hX : ApartAll A a w) (hsA : A.contains s = true) (hs : a.tmps.getD s undef = .pointer (some ⟨g, 0, none⟩)) (hw : Wrote g w w') (hr : Row w' g T cs) (hTT : ∀ T' cs', Row w g T' cs' → T' = T) :
    ∀ (ss : List Spec) (k : Nat), OnlyAt A l alt i s cs.size k ss → ∀ j, k + j ≠ i → specAt ss j w (a.tmps.getD (srcOf l alt (k + j)) undef) → specAt ss j w' (a.tmps.getD (srcOf l alt (k + j)) undef) := by
  intro ss
  induction ss with
  | nil => intro k _ j _ _; simp [specAt]
  | cons sp ss ih =>
    intro k ho j hji h
    cases j with
    | succ j =>
      have ho' : OnlyAt A l alt i s cs.size (k + 1) ss := by cases sp with
        | val _ => exact ho
        | fresh _ _ _ => exact ho.2
        | hold _ _ _ => exact ho.2
        | prop _ _ => exact ho.elim
      have := ih (k + 1) ho' j (by omega) (by rw [show k + 1 + j = k + (j + 1) by omega]; exact h)
      rw [show k + 1 + j = k + (j + 1) by omega] at this; exact this
    | zero =>
      show sp.at w' _
      have h : sp.at w _ := h
      rw [Nat.add_zero] at *
      cases sp with
      | val u => exact h
      | fresh B T' n =>
        obtain ⟨⟨e1, e2⟩, _⟩ := ho
        obtain ⟨g', cs', h1, h2, h3, h4⟩ := h
        by_cases e : srcOf l alt k = s
        · rw [e, hs] at h1
          injection h1 with h1; injection h1 with h1; injection h1 with h1
          subst h1
          have := hTT _ _ h4
          subst this
          refine ⟨g, cs, by rw [e]; exact hs, h2, (e2 e).symm, hr⟩
        · have hne : g' ≠ g := fun e3 => hX.2 _ (by simpa using e1) s (by simpa using hsA) e g (by rw [h1, e3]) hs
          exact ⟨g', cs', h1, h2, h3, hw.row h4 hne⟩
      | hold B T' cs' =>
        obtain ⟨e1, _⟩ := ho
        obtain ⟨g', h1, h2, h4⟩ := h
        rcases e1 with e1 | ⟨e1, e2⟩
        · exact absurd e1 hji
        · have hne : g' ≠ g := fun e3 => hX.2 _ (by simpa using e1) s (by simpa using hsA) e2 g (by rw [h1, e3]) hs
          exact ⟨g', h1, h2, hw.row h4 hne⟩
      | prop p m => exact ho.elim
/-- the end of a step that writes a new variable -/
theorem symWN {A : List Tmp} {l : List Oper} {alt : Nat → Nat} {ss : List Spec} {a a' : Act} {w0 w w' : World} {o : Oper} {i g : Nat} {s : Tmp} {T : TypeId} {cs old : Array Value} {v : Value} (hbel : Below w0.heap.size w0 w) (hX : ApartAll A a w) (ha : a' = a.put o.dst v) (hd : o.dst = none) (hsA : A.contains s = true) (hs : a.tmps.getD s undef = .pointer (some ⟨g, 0, none⟩)) (hold : Row w g T old) (hW : Wrote g w w') (hg : w0.heap.size ≤ g) (hr : Row w' g T cs) (ho : OnlyAt A l alt i s cs.size 0 ss) (hp : specAt ss i w' (a.tmps.getD (srcOf l alt i) undef)) :
    wpList P l.toArray (Exit.then (fun a' w' => ∃ v, a' = a.put o.dst v ∧ Below w0.heap.size w0 w' ∧ (∀ j, j < l.length → specAt ss j w (a.tmps.getD (srcOf l alt j) undef) → specAt ss j w' (a.tmps.getD (srcOf l alt j) undef)) ∧ ApartAll A a' w' ∧ specAt ss i w' (a'.tmps.getD (srcOf l alt i) undef)) (NoPanic Q)) [] a' w' := by
  have e : a' = a := by rw [ha, hd]; rfl
  refine mixOn ⟨v, ha, hbel.trans (hW.below hg), fun j _ h => ?_, ?_, by rw [e]; exact hp⟩
  · by_cases hji : j = i
    · subst hji; exact hp
    · have := onlyAt_wrote (i := i) hX hsA hs hW hr (fun T' cs' h' => by unfold Row at h' hold; rw [hold] at h'; injection h' with h'; injection h' with h1 h2 h3; exact h2.symm) ss 0 ho j (by omega) (by rw [Nat.zero_add]; exact h)
      rw [Nat.zero_add] at this; exact this
  · rw [e]; exact hX.step (fun _ _ => rfl) (Nat.le_of_eq hW.size.symm)
end
end Go.Proofs.YtajpdmcbdekpbaaDoor
