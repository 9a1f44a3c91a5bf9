/-
  A region that draws its order, by a plan of all of it but the last operation, which waits for all others and need keep nothing.
-/
import Derived.Test.YtdeggdmoijfhdaaKitAll
import Derived.Test.YtdeggdmoijfhdaaKit11
namespace Go.Proofs.Ytdeggdmoijfhdaa
open Go Go.RowKit

section
variable {P : Program} {ops : Array Oper} {md : Region.Mode} {Q : Exit → Act → World → Prop}
theorem headMixE_take {i k : Nat} {oi : Oper} {v : Value} {L : Array Bool → Act → World → Prop} (hi : ops[i]? = some oi) (hsel : ∀ (j : Nat) (o : Oper) cs b, ops[j]? = some o → o.op ≠ .select cs b)
    (hQ : ∀ c a w, Q (.panic c) (a.put oi.dst v) w → Q (.panic c) a w) (hk : ∀ listed, k ∈ Region.ready md ops listed → ∀ j, j ≠ k → j < ops.size → listed.getD j true = true) (hik : i ≠ k)
    (hdone : ∀ listed a w, L listed a w → ∀ j ∈ Region.ready md ops listed, j = k) (f : Nat) :
    ∀ (S : World → Prop) (listed : Array Bool) (a : Act) (w : World),
      (∀ j oj, ops[j]? = some oj → j ≠ i → listed.getD j true = false → (∀ e ∈ oj.after, Region.binds md e = true → e.on ≠ i) → oi.apart ops oj = true) →
      i ∈ Region.ready md ops listed → YieldsIf P ops S oi v a → S w →
      headMixD P md ops Q L f S (listed.setIfInBounds i true) (a.put oi.dst v) w → headMixD P md ops Q L (f + 1) S listed a w := by
  have hil : i < ops.size := (Array.getElem?_eq_some_iff.1 hi).1
  induction f with
  | zero =>
    intro S listed a w _ hr hy hS H
    refine ⟨fun h => (by rw [h] at hr; cases hr), fun j hj => ?_⟩
    by_cases hji : j = i
    · subst hji; exact hy.wpOp hi hS ⟨S, fun _ h => h, hS, H⟩
    · have h2 := hdone _ _ _ H j (ready_mono hj hji)
      subst h2
      have h3 := hk listed hj i hik hil
      have h4 := (mem_ready.1 hr).1
      rw [h3] at h4; cases h4
  | succ f ih =>
    intro S listed a w hfree hr hy hS H
    have hun := (mem_ready.1 hr).1
    refine ⟨fun h => (by rw [h] at hr; cases hr), fun j hj => ?_⟩
    by_cases hji : j = i
    · subst hji; exact hy.wpOp hi hS ⟨S, fun _ h => h, hS, H⟩
    · obtain ⟨hjun, oj, hoj, hall⟩ := mem_ready.1 hj
      have hnot : ∀ e ∈ oj.after, Region.binds md e = true → e.on ≠ i := fun e he hb heq => by
        have h1 := hall e he hb
        rw [heq, getD_both hun] at h1
        cases h1
      have h2 := wpOp_putIf hoj (hfree j oj hoj hji hjun hnot) (fun cs b => hsel i oi cs b hi) (fun cs b => hsel j oj cs b hoj) hQ hy (H.2 j (ready_mono hj hji))
      refine wpOp_mono (fun a' w' h3 => ?_) h2
      obtain ⟨hya, S', hle, hS', H'⟩ := h3
      refine ⟨S', hle, hS', ih S' (listed.setIfInBounds j true) a' w' (fun k ok hk hki hu hno => ?_) (ready_mono hr (Ne.symm hji)) (yLess hle hya) hS' ?_⟩
      · refine hfree k ok hk hki ?_ hno
        by_cases hjk : j = k
        · subst hjk; exact hjun
        · rw [getD_set_ne true hjk] at hu; exact hu
      · rw [Array.setIfInBounds_comm _ _ hji]; exact H'
def mixLastP (md : Region.Mode) (ops : Array Oper) (k : Nat) : List (Nat × Bool) → Array Bool → Bool
  | [], listed => decide (Region.ready md ops listed = [k]) && decide (Region.ready md ops (listed.setIfInBounds k true) = [])
  | (i, true) :: bs, listed => decide (i < ops.size) && decide (i ≠ k) && (Region.ready md ops listed).contains i && Region.free md ops listed i && mixLastP md ops k bs (listed.setIfInBounds i true)
  | (i, false) :: bs, listed => decide (i < ops.size) && decide (Region.ready md ops listed = [i]) && mixLastP md ops k bs (listed.setIfInBounds i true)
theorem headMixE_of {k : Nat} {Lq : Act → World → Prop} (hsel : Region.noSelect ops = true) (hk : ∀ listed, k ∈ Region.ready md ops listed → ∀ j, j ≠ k → j < ops.size → listed.getD j true = true) :
    ∀ (plan : List (Nat × Bool)) (l : List Oper) (S : World → Prop) (listed : Array Bool) (a : Act) (w : World), plan.map (fun p => ops[p.1]?) = l.map some →
    mixLastP md ops k plan listed = true → wpMixD P ops Q Lq (plan.map (·.2)) l S a w →
    headMixD P md ops (NoPanic Q) (fun listed' a' w' => (Region.ready md ops listed' = [k] ∧ Region.ready md ops (listed'.setIfInBounds k true) = []) ∧ Lq a' w') plan.length S listed a w
  | [], [], _, listed, a, w, _, hB, h => by
    simp only [mixLastP, Bool.and_eq_true, decide_eq_true_eq] at hB
    exact ⟨hB, h⟩
  | [], _ :: _, _, _, _, _, hl, _, _ => by simp at hl
  | _ :: _, [], _, _, _, _, hl, _, _ => by simp at hl
  | (i, true) :: bs, o :: l, S, listed, a, w, hl, hB, h => by
    simp only [List.map_cons, List.cons.injEq] at hl
    obtain ⟨h0, hl'⟩ := hl
    simp only [mixLastP, Bool.and_eq_true, decide_eq_true_eq] at hB
    obtain ⟨⟨⟨⟨hkn, hne⟩, hr⟩, hf⟩, hB'⟩ := hB
    have hr' : i ∈ Region.ready md ops listed := by simpa using hr
    obtain ⟨hS, v, hy, hK⟩ := h
    exact headMixE_take h0 (Region.noSelect_spec hsel) (fun _ _ _ hx => hx) hk hne (fun _ _ _ hL j hj => by rw [hL.1.1] at hj; simpa using hj) bs.length S listed a w (Region.free_spec h0 hf) hr' hy hS
      (headMixE_of hsel hk bs l S _ _ _ hl' hB' hK)
  | (i, false) :: bs, o :: l, S, listed, a, w, hl, hB, h => by
    simp only [List.map_cons, List.cons.injEq] at hl
    obtain ⟨h0, hl'⟩ := hl
    simp only [mixLastP, Bool.and_eq_true, decide_eq_true_eq] at hB
    obtain ⟨⟨hkn, hr⟩, hB'⟩ := hB
    refine ⟨by rw [hr]; simp, fun j hj => ?_⟩
    rw [hr] at hj
    obtain rfl : j = i := by simpa using hj
    exact wpOp_mono (fun a' w' ⟨S', hle, hS', h'⟩ => ⟨S', hle, hS', headMixE_of hsel hk bs l S' _ _ _ hl' hB' h'⟩) (wpOp_of_list h0 h)
/-- operation k waits for all others -/
def waitsB (l : List Oper) (k : Nat) : Bool := (List.range l.length).all fun j => decide (j = k) || depB l k j
theorem region_mixE {id : Nat} {a : Act} {w : World} {l : List Oper} (plan : List (Nat × Bool)) (k : Nat) (o : Oper) (S : World → Prop) (hm : P.follows .mixedOrders = true) (hB : (Region.noSelect l.toArray && decide (plan.length + 1 = l.length) && mixLastP .any l.toArray k plan (Array.replicate l.length false) && waitsB l k) = true) (ho : l[k]? = some o) (hlp : plan.map (fun p => l.toArray[p.1]?) = (plan.filterMap fun p => l[p.1]?).map some)
    (h : ∀ w1, Below w.heap.size w w1 → w1.heap.size = w.heap.size → wpMixD P l.toArray Q (fun a' w' => wpList P l.toArray (Exit.then (fun a' w' => Q .normal a' w') (NoPanic Q)) [o] a' w') (plan.map (·.2)) (plan.filterMap fun p => l[p.1]?) S a w1) : (Code.region id l.toArray true).wp P Q a w := by
  have h := h { w with drawn := w.drawn + 1 } ⟨rfl, rfl, rfl, Nat.le_refl _, fun _ _ => rfl⟩ rfl
  simp only [Bool.and_eq_true, decide_eq_true_eq] at hB
  obtain ⟨⟨⟨hsel, hlen⟩, hlex⟩, hwait⟩ := hB
  have hsz : l.toArray.size = l.length := by simp
  rw [← hsz] at hlex
  have hk : ∀ listed, k ∈ Region.ready .any l.toArray listed → ∀ j, j ≠ k → j < l.toArray.size → listed.getD j true = true := by
    intro listed hr j hjk hjl
    obtain ⟨hun, ok, hok, hall⟩ := mem_ready.1 hr
    have h1 := List.all_eq_true.1 hwait j (List.mem_range.2 (by simpa using hjl))
    simp only [Bool.or_eq_true, decide_eq_true_eq] at h1
    rcases h1 with h1 | h1
    · exact absurd h1 hjk
    · unfold depB at h1
      have hok' : l[k]? = some ok := by simpa using hok
      rw [hok'] at h1
      obtain ⟨e, he, h6⟩ := Array.any_eq_true'.1 h1
      simp only [Bool.and_eq_true, beq_iff_eq] at h6
      have h7 := hall e he h6.2
      rw [h6.1] at h7
      cases hb : listed.getD j true
      · rw [getD_both hb] at h7; cases h7
      · rfl
  have H := headMixE_of (md := .any) hsel hk plan _ S _ a _ hlp hlex h
  refine wp_region_any hm ?_
  have ho' : l.toArray[k]? = some o := by simpa using ho
  have hl1 : ∀ listed a' w', ((Region.ready .any l.toArray listed = [k] ∧ Region.ready .any l.toArray (listed.setIfInBounds k true) = []) ∧ wpList P l.toArray (Exit.then (fun a' w' => Q .normal a' w') (NoPanic Q)) [o] a' w') → wpAny P .any l.toArray Q 1 listed a' w' := by
    intro listed a' w' hL
    refine ⟨fun h0 => (by rw [hL.1.1] at h0; cases h0), fun i hi => ?_⟩
    rw [hL.1.1] at hi
    obtain rfl : i = k := by simpa using hi
    exact wpOp_noPanic (wpOp_mono (fun a'' w'' hq => ⟨hL.1.2, hq⟩) (wpOp_of_list ho' hL.2))
  have := any_of_headMixD (g := 1) (Q := Q) hl1 _ _ _ _ _ H
  rw [show l.toArray.size = plan.length + 1 by rw [hsz, ← hlen]] at this ⊢
  exact this
end
end Go.Proofs.Ytdeggdmoijfhdaa
