/-
  My kit, third part: a region that draws its order, in which what writes or makes memory comes in one forced order, and all else yields the same value in every world that keeps a condition S.
-/
import Derived.Test.YtajpdmcbdekpbaaDoorKit2
import Derived.OrdersHeld
import Derived.Deep.RegionHeld3
namespace Go.Proofs.YtajpdmcbdekpbaaDoor
open Go Go.RowKit

section
variable {P : Program} {ops : Array Oper} {md : Region.Mode} {S : World → Prop} {Q : Exit → Act → World → Prop}

def headMix (P : Program) (md : Region.Mode) (ops : Array Oper) (Q : Exit → Act → World → Prop) (S : World → Prop) (n : Nat) (L : Array Bool → Act → World → Prop) : Nat → Array Bool → Act → World → Prop
  | 0, listed, a, w => L listed a w
  | f + 1, listed, a, w => Region.ready md ops listed ≠ [] ∧ ∀ i ∈ Region.ready md ops listed, i < n ∧ wpOp P ops Q i (fun a' w' => S w' ∧ headMix P md ops Q S n L f (listed.setIfInBounds i true) a' w') a w

theorem wpOp_noPanic {i : Nat} {K : Act → World → Prop} {a : Act} {w : World} (h : wpOp P ops (NoPanic Q) i K a w) : wpOp P ops Q i K a w := by
  unfold wpOp at *
  split
  · rename_i hn; simpa [hn] using h
  · rename_i o ho
    simp only [ho] at h
    split
    · rename_i hw
      rw [if_pos hw] at h
      rcases h with h | ⟨h1, h2⟩
      · refine .inl ?_
        unfold Oper.wp at *
        generalize (execOp a.eval o).run P w = r at *
        cases r with
        | ok nx w' =>
          cases nx <;> first | exact h | (exact Calls.mono h fun e w'' he => by cases e <;> first | exact he | exact (he : False).elim)
        | halt x w' => cases x <;> first | exact h | exact (h : False).elim
      · exact .inr ⟨h1, h2⟩
    · rename_i hw; rw [if_neg hw] at h; exact h
theorem any_of_headMix {n g : Nat} {L : Array Bool → Act → World → Prop} (hL : ∀ listed a w, L listed a w → wpAny P md ops Q g listed a w) :
    ∀ (f : Nat) (listed : Array Bool) (a : Act) (w : World), headMix P md ops (NoPanic Q) S n L f listed a w → wpAny P md ops Q (f + g) listed a w
  | 0, listed, a, w, h => by rw [Nat.zero_add]; exact hL _ _ _ h
  | f + 1, listed, a, w, h => by
    rw [show f + 1 + g = (f + g) + 1 by omega]
    exact ⟨fun h0 => absurd h0 h.1, fun i hi => wpOp_noPanic (wpOp_mono (fun a' w' h' => any_of_headMix hL f _ a' w' h'.2) (h.2 i hi).2)⟩

theorem headMix_take {n i : Nat} {oi : Oper} {v : Value} {L : Array Bool → Act → World → Prop} (hi : ops[i]? = some oi) (hsel : ∀ (j : Nat) (o : Oper) cs b, ops[j]? = some o → o.op ≠ .select cs b)
    (hQ : ∀ c a w, Q (.panic c) (a.put oi.dst v) w → Q (.panic c) a w)
    (hs : Region.sinkB md ops n = true) (hc : Region.chainB md ops n = true) (hn : n < ops.size) (hin : i < n)
    (hdone : ∀ listed a w, L listed a w → ∀ j ∈ Region.ready md ops listed, n ≤ j) (f : Nat) :
    ∀ (listed : Array Bool) (a : Act) (w : World), HeadInv md ops n listed →
      (∀ j oj, ops[j]? = some oj → j ≠ i → listed.getD j true = false → (∀ e ∈ oj.after, Region.binds md e = true → e.on ≠ i) → oi.apart ops oj = true) →
      i ∈ Region.ready md ops listed → YieldsIf P ops S oi v a → S w →
      headMix P md ops Q S n L f (listed.setIfInBounds i true) (a.put oi.dst v) w → headMix P md ops Q S n L (f + 1) listed a w := by
  induction f with
  | zero =>
    intro listed a w inv _ hr hy hS H
    have early : ∀ j ∈ Region.ready md ops listed, j < n := fun j hj => by
      rcases Nat.lt_or_ge j n with h | h
      · exact h
      · exact absurd hj (tail_waits hs hc hn inv _ i rfl hin (mem_ready.1 hr).1 j h)
    refine ⟨fun h => (by rw [h] at hr; cases hr), fun j hj => ⟨early j hj, ?_⟩⟩
    by_cases hji : j = i
    · subst hji; exact hy.wpOp hi hS ⟨hS, H⟩
    · have h1 := hdone _ _ _ H j (ready_mono hj hji)
      have h2 := early j hj
      omega
  | succ f ih =>
    intro listed a w inv hfree hr hy hS H
    have hun := (mem_ready.1 hr).1
    have early : ∀ j ∈ Region.ready md ops listed, j < n := fun j hj => by
      rcases Nat.lt_or_ge j n with h | h
      · exact h
      · exact absurd hj (tail_waits hs hc hn inv _ i rfl hin hun j h)
    refine ⟨fun h => (by rw [h] at hr; cases hr), fun j hj => ⟨early j hj, ?_⟩⟩
    by_cases hji : j = i
    · subst hji; exact hy.wpOp hi hS ⟨hS, H⟩
    · obtain ⟨hjun, oj, hoj, hall⟩ := mem_ready.1 hj
      have hnot : ∀ e ∈ oj.after, Region.binds md e = true → e.on ≠ i := fun e he hb heq => by
        have h1 := hall e he hb
        rw [heq, getD_both hun] at h1
        cases h1
      have h2 := wpOp_putIf hoj (hfree j oj hoj hji hjun hnot) (fun cs b => hsel i oi cs b hi) (fun cs b => hsel j oj cs b hoj) hQ hy (H.2 j (ready_mono hj hji)).2
      refine wpOp_mono (fun a' w' h3 => ⟨h3.2.1, ih (listed.setIfInBounds j true) a' w' (inv.set hj (early j hj)) (fun k ok hk hki hu hno => ?_) (ready_mono hr (Ne.symm hji)) h3.1 h3.2.1 ?_⟩) h2
      · refine hfree k ok hk hki ?_ hno
        by_cases hjk : j = k
        · subst hjk; exact hjun
        · rw [getD_set_ne true hjk] at hu; exact hu
      · rw [Array.setIfInBounds_comm _ _ hji]; exact h3.2.2

/-- The plan: of each operation of the head whether it is taken first (true), or is the only one that may come up (false). -/
def mixHead (md : Region.Mode) (ops : Array Oper) (g : Nat) : List Bool → Nat → Array Bool → Bool
  | [], k, listed => Region.seqB md ops g k listed
  | true :: bs, k, listed => (Region.ready md ops listed).contains k && Region.free md ops listed k && mixHead md ops g bs (k + 1) (listed.setIfInBounds k true)
  | false :: bs, k, listed => decide (Region.ready md ops listed = [k]) && mixHead md ops g bs (k + 1) (listed.setIfInBounds k true)
def mixB (md : Region.Mode) (ops : Array Oper) (bs : List Bool) : Bool :=
  Region.noSelect ops && decide (bs.length < ops.size) && Region.sinkB md ops bs.length && Region.chainB md ops bs.length && mixHead md ops (ops.size - bs.length) bs 0 (Array.replicate ops.size false)

def wpMix (P : Program) (ops : Array Oper) (Q : Exit → Act → World → Prop) (S : World → Prop) (L : Act → World → Prop) : List Bool → List Oper → Act → World → Prop
  | true :: bs, o :: rest, a, w => S w ∧ ∃ v, YieldsIf P ops S o v a ∧ wpMix P ops Q S L bs rest (a.put o.dst v) w
  | false :: bs, o :: rest, a, w => wpList P ops (Exit.then (fun a' w' => S w' ∧ wpMix P ops Q S L bs rest a' w') (NoPanic Q)) [o] a w
  | _, _, a, w => L a w

theorem wpOp_of_list {i : Nat} {o : Oper} {K : Act → World → Prop} {a : Act} {w : World} (hi : ops[i]? = some o) (h : wpList P ops (Exit.then K (NoPanic Q)) [o] a w) : wpOp P ops (NoPanic Q) i K a w := by
  unfold wpOp
  simp only [hi]
  unfold wpList at h
  split
  · rename_i hw
    rw [if_pos hw] at h
    rcases h with h | ⟨h1, h2⟩
    · refine .inl ?_
      unfold Oper.wp at *
      generalize (execOp a.eval o).run P w = r at *
      cases r with
      | ok nx w' =>
        cases nx <;> first | exact h | (exact Calls.mono h fun e w'' he => by cases e <;> exact he)
      | halt x w' => cases x <;> exact h
    · exact .inr ⟨h1, h2⟩
  · rename_i hw
    rw [if_neg hw] at h
    exact h

theorem headMix_of_wpMix {n g : Nat} {Lq : Act → World → Prop} (hsel : Region.noSelect ops = true) (hs : Region.sinkB md ops n = true) (hc : Region.chainB md ops n = true) (hn : n < ops.size) :
    ∀ (bs : List Bool) (l : List Oper) (k : Nat) (listed : Array Bool) (a : Act) (w : World), l.length = bs.length → (∀ j, j < l.length → l[j]? = ops[k + j]?) → k + l.length = n → HeadInv md ops n listed →
    mixHead md ops g bs k listed = true → wpMix P ops Q S Lq bs l a w →
    headMix P md ops (NoPanic Q) S n (fun listed' a' w' => Region.seqB md ops g n listed' = true ∧ Lq a' w') l.length listed a w
  | [], [], k, listed, a, w, _, _, hk, _, hB, h => by
    obtain rfl : k = n := by simpa using hk
    exact ⟨by simpa [mixHead] using hB, h⟩
  | [], _ :: _, _, _, _, _, hl, _, _, _, _, _ => by simp at hl
  | _ :: _, [], _, _, _, _, hl, _, _, _, _, _ => by simp at hl
  | true :: bs, o :: l, k, listed, a, w, hll, hl, hk, inv, hB, h => by
    have h0 : ops[k]? = some o := by simpa using (hl 0 (by simp)).symm
    simp only [mixHead, Bool.and_eq_true] at hB
    obtain ⟨⟨hr, hf⟩, hB'⟩ := hB
    have hkn : k < n := by simp only [List.length_cons] at hk; omega
    have hr' : k ∈ Region.ready md ops listed := by simpa using hr
    obtain ⟨hS, v, hy, hK⟩ := h
    exact headMix_take h0 (Region.noSelect_spec hsel) (fun _ _ _ hx => hx) hs hc hn hkn (fun _ _ _ hL => seqB_ready hL.1) l.length listed a w inv (Region.free_spec h0 hf) hr' hy hS
      (headMix_of_wpMix hsel hs hc hn bs l (k + 1) _ _ _ (by simpa using hll) (fun j hj => by have := hl (j + 1) (by simp; omega); simpa [Nat.add_assoc, Nat.add_comm 1 j] using this) (by simp only [List.length_cons] at hk; omega) (inv.set hr' hkn) hB' hK)
  | false :: bs, o :: l, k, listed, a, w, hll, hl, hk, inv, hB, h => by
    have h0 : ops[k]? = some o := by simpa using (hl 0 (by simp)).symm
    simp only [mixHead, Bool.and_eq_true, decide_eq_true_eq] at hB
    obtain ⟨hr, hB'⟩ := hB
    have hkn : k < n := by simp only [List.length_cons] at hk; omega
    have hr' : k ∈ Region.ready md ops listed := by rw [hr]; simp
    refine ⟨by rw [hr]; simp, fun i hi => ?_⟩
    rw [hr] at hi
    obtain rfl : i = k := by simpa using hi
    refine ⟨hkn, wpOp_mono (fun a' w' h' => ⟨h'.1, ?_⟩) (wpOp_of_list h0 h)⟩
    exact headMix_of_wpMix hsel hs hc hn bs l (i + 1) _ _ _ (by simpa using hll) (fun j hj => by have := hl (j + 1) (by simp; omega); simpa [Nat.add_assoc, Nat.add_comm 1 j] using this) (by simp only [List.length_cons] at hk; omega) (inv.set hr' hkn) hB' h'.2

/-- A REGION THAT DRAWS ITS ORDER, by a plan of its head; the others follow in one forced order. -/
theorem region_mix {id : Nat} {a : Act} {w : World} {l : List Oper} (bs : List Bool) (S : World → Prop) (hm : P.follows .mixedOrders = true) (hB : mixB .any l.toArray bs = true)
    (h : wpMix P l.toArray Q S (fun a' w' => wpList P l.toArray Q (l.drop bs.length) a' w') bs (l.take bs.length) a { w with drawn := w.drawn + 1 }) : (Code.region id l.toArray true).wp P Q a w := by
  simp only [mixB, Bool.and_eq_true, decide_eq_true_eq] at hB
  obtain ⟨⟨⟨⟨hsel, hn⟩, hs⟩, hc⟩, hlex⟩ := hB
  have hn' : bs.length < l.length := by simpa using hn
  have htl : (l.take bs.length).length = bs.length := by simp; omega
  have hdl : (l.drop bs.length).length = l.toArray.size - bs.length := by simp
  have inv0 : HeadInv .any l.toArray bs.length (Array.replicate l.toArray.size false) :=
    ⟨by simp, fun j oj _ hl => (by rw [getD_replicate_false] at hl; cases hl), fun t _ ht => getD_in (by simpa using ht) (getD_replicate_false _ _)⟩
  have H := headMix_of_wpMix (md := .any) (g := l.toArray.size - bs.length) hsel hs hc hn bs (l.take bs.length) 0 _ a _ htl (fun j hj => by
    have hj' : j < bs.length := by rw [htl] at hj; exact hj
    simp [hj']) (by simpa using htl) inv0 hlex h
  refine wp_region_any hm ?_
  have := any_of_headMix (g := l.toArray.size - bs.length) (fun listed a' w' hL => by
    have := wpAny_of_seq (md := .any) (Q' := Q) (l.drop bs.length) bs.length listed a' w' (fun j => by simp [List.getElem?_drop]) (by rw [hdl]; exact hL.1) hL.2
    rwa [hdl] at this) _ _ _ _ H
  rw [htl, show bs.length + (l.toArray.size - bs.length) = l.toArray.size by omega] at this
  exact this

/-- .. the world behind the draw a variable -/
theorem region_mix' {id : Nat} {a : Act} {w : World} {l : List Oper} (bs : List Bool) (S : World → Prop) (hm : P.follows .mixedOrders = true) (hB : mixB .any l.toArray bs = true)
    (h : ∀ w1, Below w.heap.size w w1 → w1.heap.size = w.heap.size → wpMix P l.toArray Q S (fun a' w' => wpList P l.toArray Q (l.drop bs.length) a' w') bs (l.take bs.length) a w1) : (Code.region id l.toArray true).wp P Q a w :=
  region_mix bs S hm hB (h _ ⟨rfl, rfl, rfl, Nat.le_refl _, fun _ _ => rfl⟩ rfl)

/-- an operation of the plan that yields its value in every world that keeps S -/
theorem mixQuiet {L : Act → World → Prop} {bs : List Bool} {o : Oper} {rest : List Oper} {a : Act} {w : World} (v : Value) (hS : S w) (hg : Region.wanted o (yielded ops a.tmps) = true) (hv : ∀ w, S w → (execOp a.eval o).run P w = .ok (.value v) w)
    (h : wpMix P ops Q S L bs rest (a.put o.dst v) w) : wpMix P ops Q S L (true :: bs) (o :: rest) a w :=
  ⟨hS, v, .inl ⟨hg, hv⟩, h⟩
/-- an operation that comes up alone -/
theorem mixLoud {L : Act → World → Prop} {bs : List Bool} {o : Oper} {rest : List Oper} {a : Act} {w : World}
    (h : wpList P ops (Exit.then (fun a' w' => S w' ∧ wpMix P ops Q S L bs rest a' w') (NoPanic Q)) [o] a w) : wpMix P ops Q S L (false :: bs) (o :: rest) a w := h
theorem mixEnd {l2 : List Oper} {a : Act} {w : World} (h : wpList P ops Q l2 a w) : wpMix P ops Q S (fun a' w' => wpList P ops Q l2 a' w') [] [] a w := h
theorem mixOn {K : Act → World → Prop} {a : Act} {w : World} (h : K a w) : wpList P ops (Exit.then K (NoPanic Q)) [] a w := h
end

end Go.Proofs.YtajpdmcbdekpbaaDoor
