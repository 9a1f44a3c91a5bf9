/-
  My kit, ninth part: the plan of a drawn region in an order of one's own that holds all of its operations: what yields the same value in whatever world may float past the last write too.
-/
import Derived.Test.YtajpdmcbdekpbaaDoorKit8
namespace Go.Proofs.YtajpdmcbdekpbaaDoor
open Go Go.RowKit

section
variable {P : Program} {ops : Array Oper} {md : Region.Mode} {S : World → Prop} {Q : Exit → Act → World → Prop}

theorem headMix_takeA {i : Nat} {oi : Oper} {v : Value} {L : Array Bool → Act → World → Prop} (hi : ops[i]? = some oi) (hsel : ∀ (j : Nat) (o : Oper) cs b, ops[j]? = some o → o.op ≠ .select cs b)
    (hQ : ∀ c a w, Q (.panic c) (a.put oi.dst v) w → Q (.panic c) a w)
    (hdone : ∀ listed a w, L listed a w → Region.ready md ops listed = []) (f : Nat) :
    ∀ (listed : Array Bool) (a : Act) (w : World), HeadInv md ops ops.size listed →
      (∀ j oj, ops[j]? = some oj → j ≠ i → listed.getD j true = false → (∀ e ∈ oj.after, Region.binds md e = true → e.on ≠ i) → oi.apart ops oj = true) →
      i ∈ Region.ready md ops listed → YieldsIf P ops S oi v a → S w →
      headMix P md ops Q S ops.size L f (listed.setIfInBounds i true) (a.put oi.dst v) w → headMix P md ops Q S ops.size L (f + 1) listed a w := by
  have early : ∀ (listed : Array Bool), ∀ j ∈ Region.ready md ops listed, j < ops.size := fun listed j hj => by
    obtain ⟨_, oj, hoj, _⟩ := mem_ready.1 hj
    exact (Array.getElem?_eq_some_iff.1 hoj).1
  induction f with
  | zero =>
    intro listed a w inv _ hr hy hS H
    refine ⟨fun h => (by rw [h] at hr; cases hr), fun j hj => ⟨early _ j hj, ?_⟩⟩
    by_cases hji : j = i
    · subst hji; exact hy.wpOp hi hS ⟨hS, H⟩
    · have h1 := hdone _ _ _ H
      have h2 := ready_mono hj hji
      rw [h1] at h2; cases h2
  | succ f ih =>
    intro listed a w inv hfree hr hy hS H
    have hun := (mem_ready.1 hr).1
    refine ⟨fun h => (by rw [h] at hr; cases hr), fun j hj => ⟨early _ j hj, ?_⟩⟩
    by_cases hji : j = i
    · subst hji; exact hy.wpOp hi hS ⟨hS, H⟩
    · obtain ⟨hjun, oj, hoj, hall⟩ := mem_ready.1 hj
      have hnot : ∀ e ∈ oj.after, Region.binds md e = true → e.on ≠ i := fun e he hb heq => by
        have h1 := hall e he hb
        rw [heq, getD_both hun] at h1
        cases h1
      have h2 := wpOp_putIf hoj (hfree j oj hoj hji hjun hnot) (fun cs b => hsel i oi cs b hi) (fun cs b => hsel j oj cs b hoj) hQ hy (H.2 j (ready_mono hj hji)).2
      refine wpOp_mono (fun a' w' h3 => ⟨h3.2.1, ih (listed.setIfInBounds j true) a' w' (inv.set hj (early _ j hj)) (fun k ok hk hki hu hno => ?_) (ready_mono hr (Ne.symm hji)) h3.1 h3.2.1 ?_⟩) h2
      · refine hfree k ok hk hki ?_ hno
        by_cases hjk : j = k
        · subst hjk; exact hjun
        · rw [getD_set_ne true hjk] at hu; exact hu
      · rw [Array.setIfInBounds_comm _ _ hji]; exact h3.2.2

def mixAllP (md : Region.Mode) (ops : Array Oper) : List (Nat × Bool) → Array Bool → Bool
  | [], listed => decide (Region.ready md ops listed = [])
  | (k, true) :: bs, listed => decide (k < ops.size) && (Region.ready md ops listed).contains k && Region.free md ops listed k && mixAllP md ops bs (listed.setIfInBounds k true)
  | (k, false) :: bs, listed => decide (k < ops.size) && decide (Region.ready md ops listed = [k]) && mixAllP md ops bs (listed.setIfInBounds k true)

theorem headMix_of_wpMixA {Lq : Act → World → Prop} (hsel : Region.noSelect ops = true) :
    ∀ (plan : List (Nat × Bool)) (l : List Oper) (listed : Array Bool) (a : Act) (w : World), plan.map (fun p => ops[p.1]?) = l.map some → HeadInv md ops ops.size listed →
    mixAllP md ops plan listed = true → wpMix P ops Q S Lq (plan.map (·.2)) l a w →
    headMix P md ops (NoPanic Q) S ops.size (fun listed' a' w' => Region.ready md ops listed' = [] ∧ Lq a' w') plan.length listed a w
  | [], [], listed, a, w, _, _, hB, h => ⟨by simpa [mixAllP] using hB, h⟩
  | [], _ :: _, _, _, _, hl, _, _, _ => by simp at hl
  | _ :: _, [], _, _, _, hl, _, _, _ => by simp at hl
  | (k, true) :: bs, o :: l, listed, a, w, hl, inv, hB, h => by
    simp only [List.map_cons, List.cons.injEq] at hl
    obtain ⟨h0, hl'⟩ := hl
    simp only [mixAllP, Bool.and_eq_true, decide_eq_true_eq] at hB
    obtain ⟨⟨⟨hkn, hr⟩, hf⟩, hB'⟩ := hB
    have hr' : k ∈ Region.ready md ops listed := by simpa using hr
    obtain ⟨hS, v, hy, hK⟩ := h
    exact headMix_takeA h0 (Region.noSelect_spec hsel) (fun _ _ _ hx => hx) (fun _ _ _ hL => hL.1) bs.length listed a w inv (Region.free_spec h0 hf) hr' hy hS
      (headMix_of_wpMixA hsel bs l _ _ _ hl' (inv.set hr' hkn) hB' hK)
  | (k, false) :: bs, o :: l, listed, a, w, hl, inv, hB, h => by
    simp only [List.map_cons, List.cons.injEq] at hl
    obtain ⟨h0, hl'⟩ := hl
    simp only [mixAllP, Bool.and_eq_true, decide_eq_true_eq] at hB
    obtain ⟨⟨hkn, hr⟩, hB'⟩ := hB
    have hr' : k ∈ Region.ready md ops listed := by rw [hr]; simp
    refine ⟨by rw [hr]; simp, fun i hi => ?_⟩
    rw [hr] at hi
    obtain rfl : i = k := by simpa using hi
    refine ⟨hkn, wpOp_mono (fun a' w' h' => ⟨h'.1, ?_⟩) (wpOp_of_list h0 h)⟩
    exact headMix_of_wpMixA hsel bs l _ _ _ hl' (inv.set hr' hkn) hB' h'.2

/-- A REGION THAT DRAWS ITS ORDER, by a plan of all of it. -/
theorem region_mixA {id : Nat} {a : Act} {w : World} {l : List Oper} (plan : List (Nat × Bool)) (S : World → Prop) (hm : P.follows .mixedOrders = true) (hB : (Region.noSelect l.toArray && decide (plan.length = l.length) && mixAllP .any l.toArray plan (Array.replicate l.length false)) = true) (hlp : plan.map (fun p => l.toArray[p.1]?) = (plan.filterMap fun p => l[p.1]?).map some)
    (h : ∀ w1, Below w.heap.size w w1 → w1.heap.size = w.heap.size → wpMix P l.toArray Q S (fun a' w' => Q .normal a' w') (plan.map (·.2)) (plan.filterMap fun p => l[p.1]?) a w1) : (Code.region id l.toArray true).wp P Q a w := by
  have h := h { w with drawn := w.drawn + 1 } ⟨rfl, rfl, rfl, Nat.le_refl _, fun _ _ => rfl⟩ rfl
  simp only [Bool.and_eq_true, decide_eq_true_eq] at hB
  obtain ⟨⟨hsel, hlen⟩, hlex⟩ := hB
  have hsz : l.toArray.size = l.length := by simp
  have inv0 : HeadInv .any l.toArray l.toArray.size (Array.replicate l.toArray.size false) :=
    ⟨by simp, fun j oj _ hl => (by rw [getD_replicate_false] at hl; cases hl), fun t h1 h2 => absurd h2 (by omega)⟩
  rw [← hsz] at hlex
  have H := headMix_of_wpMixA (md := .any) hsel plan _ _ a _ hlp inv0 hlex h
  refine wp_region_any hm ?_
  have := any_of_headMix (g := 0) (fun listed a' w' hL => (⟨hL.1, hL.2⟩ : wpAny P .any l.toArray Q 0 listed a' w')) _ _ _ _ H
  rw [Nat.add_zero, hlen, ← hsz] at this
  exact this
theorem mixDone {a : Act} {w : World} (h : Q .normal a w) : wpMix P ops Q S (fun a' w' => Q .normal a' w') [] [] a w := h
end
end Go.Proofs.YtajpdmcbdekpbaaDoor
