/-
  Layer 12, plain: the one in the middle, by counting and by order.
-/
import Derived.Test.YtdeggdmoijfhdaaWAll
namespace Go.Proofs.Ytdeggdmoijfhdaa
open Go

/-- it is in the middle: at most half are below it, more than half are not above it -/
def midB (l : List Nat) (x : Nat) : Bool := decide (l.countP (fun y => decide (y < x)) ≤ l.length / 2) && decide (l.length / 2 < l.countP (fun y => decide (y < x)) + l.countP (fun y => decide (y = x)))
def medianN (l : List Nat) : Nat := (l.find? (midB l)).getD 0
theorem count_le (l : List Nat) (x : Nat) : l.countP (fun y => decide (y < x)) + l.countP (fun y => decide (y = x)) = l.countP (fun y => decide (y ≤ x)) := by
  induction l with
  | nil => rfl
  | cons a l ih =>
    simp only [List.countP_cons]
    by_cases h1 : a < x
    · have h2 : ¬ a = x := by omega
      have h3 : a ≤ x := by omega
      simp only [h1, h2, h3, decide_true, decide_false, if_true]
      simp
      omega
    · by_cases h2 : a = x
      · simp only [h2, decide_true, if_true]
        simp
        omega
      · have h3 : ¬ a ≤ x := by omega
        simp only [h1, h2, h3, decide_false]
        simp
        omega
theorem countP_mono' {p q : Nat → Bool} : ∀ (l : List Nat), (∀ y, p y = true → q y = true) → l.countP p ≤ l.countP q
  | [], _ => Nat.le_refl _
  | a :: l, h => by
    have ih := countP_mono' l h
    simp only [List.countP_cons]
    by_cases hp : p a = true
    · simp [hp, h a hp]; exact ih
    · simp only [hp]
      by_cases hq : q a = true
      · simp [hq]; omega
      · simp [hq]; exact ih
/-- in order: fewer than k+1 are below the one at k, and all up to k are not above it -/
theorem sorted_below {s : List Nat} (hs : s.Pairwise (· ≤ ·)) {k x : Nat} (hk : s[k]? = some x) : s.countP (fun y => decide (y < x)) ≤ k := by
  have e : s = s.take k ++ s.drop k := (List.take_append_drop k s).symm
  rw [e, List.countP_append]
  have h1 : (s.drop k).countP (fun y => decide (y < x)) = 0 := by
    rw [List.countP_eq_zero]
    intro y hy
    obtain ⟨j, hj⟩ := List.mem_iff_getElem?.1 hy
    rw [List.getElem?_drop] at hj
    obtain ⟨h1, e1⟩ := List.getElem?_eq_some_iff.1 hk
    obtain ⟨h2, e2⟩ := List.getElem?_eq_some_iff.1 hj
    have : x ≤ y := by
      by_cases hj0 : j = 0
      · subst hj0; rw [← e1, ← e2]; exact Nat.le_refl _
      · rw [← e1, ← e2]; exact List.pairwise_iff_getElem.1 hs k (k + j) h1 h2 (by omega)
    simp; omega
  have h2 : (s.take k).countP (fun y => decide (y < x)) ≤ (s.take k).length := List.countP_le_length
  have h3 : (s.take k).length ≤ k := by rw [List.length_take]; exact Nat.min_le_left _ _
  omega
theorem sorted_upto {s : List Nat} (hs : s.Pairwise (· ≤ ·)) {k x : Nat} (hk : s[k]? = some x) : k < s.countP (fun y => decide (y ≤ x)) := by
  obtain ⟨h1, e1⟩ := List.getElem?_eq_some_iff.1 hk
  have e : s = s.take (k + 1) ++ s.drop (k + 1) := (List.take_append_drop (k + 1) s).symm
  have h2 : (s.take (k + 1)).countP (fun y => decide (y ≤ x)) = (s.take (k + 1)).length := by
    rw [List.countP_eq_length]
    intro y hy
    obtain ⟨j, hj⟩ := List.mem_iff_getElem?.1 hy
    have hjk : j < k + 1 := by
      have := (List.getElem?_eq_some_iff.1 hj).1
      rw [List.length_take] at this
      omega
    rw [List.getElem?_take_of_lt hjk] at hj
    obtain ⟨h3, e3⟩ := List.getElem?_eq_some_iff.1 hj
    have : y ≤ x := by
      by_cases hjk2 : j = k
      · subst hjk2; rw [← e1, ← e3]; exact Nat.le_refl _
      · rw [← e1, ← e3]; exact List.pairwise_iff_getElem.1 hs j k h3 h1 (by omega)
    simpa using this
  have h3 : (s.take (k + 1)).length = k + 1 := by rw [List.length_take]; omega
  rw [e, List.countP_append]
  omega
theorem midB_iff (l : List Nat) (x : Nat) : midB l x = true ↔ l.countP (fun y => decide (y < x)) ≤ l.length / 2 ∧ l.length / 2 < l.countP (fun y => decide (y ≤ x)) := by
  unfold midB
  rw [count_le]
  simp
/-- the one in the middle of an order of them -/
theorem median_sorted {l s : List Nat} (hp : s.Perm l) (hs : s.Pairwise (· ≤ ·)) {x : Nat} (hx : s[l.length / 2]? = some x) : medianN l = x := by
  have hc : ∀ p : Nat → Bool, s.countP p = l.countP p := fun p => hp.countP_eq p
  have h1 := sorted_below hs hx
  have h2 := sorted_upto hs hx
  rw [hc] at h1 h2
  have hm : midB l x = true := (midB_iff l x).2 ⟨h1, h2⟩
  have hmem : x ∈ l := hp.mem_iff.1 (List.mem_of_getElem? hx)
  have huniq : ∀ y, midB l y = true → y = x := by
    intro y hy
    obtain ⟨h3, h4⟩ := (midB_iff l y).1 hy
    rcases Nat.lt_trichotomy y x with h | h | h
    · have := countP_mono' (p := fun z => decide (z ≤ y)) (q := fun z => decide (z < x)) l (fun z hz => by simp at hz ⊢; omega)
      omega
    · exact h
    · have := countP_mono' (p := fun z => decide (z ≤ x)) (q := fun z => decide (z < y)) l (fun z hz => by simp at hz ⊢; omega)
      omega
  unfold medianN
  cases hf : l.find? (midB l) with
  | none => exact absurd hm (by simpa using List.find?_eq_none.1 hf x hmem)
  | some y => exact huniq y (List.find?_some hf)
theorem median_nil : medianN [] = 0 := rfl
end Go.Proofs.Ytdeggdmoijfhdaa
