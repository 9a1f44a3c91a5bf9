/-
  Layer 12, plain: the sort at numbers of 32 bits: places, what was exchanged, what lies where, and how the rounds go together.
-/
import Derived.Sort.LotA
import Derived.Sort.LotB
import Derived.Test.YtdeggdmoijfhdaaWkMed
namespace Go.Proofs.Ytdeggdmoijfhdaa
open Go

/-- less, of numbers -/
def ltN (x y : Nat) : Bool := decide (x < y)
theorem swoN : Sort.SWO ltN := ⟨fun x => by simp [ltN], fun x y z h k => by simp [ltN] at *; omega, fun x y z h k => by simp [ltN] at *; omega⟩
/-- what lies at a place -/
def dv (d : Array Nat) (i : Nat) : Nat := d[i]!
theorem dv_set (d : Array Nat) (i k x : Nat) (hi : i < d.size) : dv (d.setIfInBounds i x) k = if k = i then x else dv d k := by
  unfold dv
  by_cases hk : k < d.size
  · rw [getElem!_pos _ k (by simpa using hk), Array.getElem_setIfInBounds]
    by_cases e : k = i
    · subst e; rw [if_pos rfl, if_pos rfl]
    · rw [if_neg (Ne.symm e), if_neg e, getElem!_pos d k hk]
  · rw [getElem!_neg _ k (by simpa using hk), getElem!_neg d k hk, if_neg (by omega)]
theorem swp_def (d : Array Nat) (i j : Nat) : Sort.swp d i j = (d.setIfInBounds i (dv d j)).setIfInBounds j (dv d i) := rfl
theorem dv_swp (d : Array Nat) {i j : Nat} (k : Nat) (hi : i < d.size) (hj : j < d.size) : dv (Sort.swp d i j) k = if k = j then dv d i else if k = i then dv d j else dv d k := by
  rw [swp_def, dv_set _ _ _ _ (by simpa using hj)]
  split
  · rfl
  · rw [dv_set _ _ _ _ hi]
theorem swp_size (d : Array Nat) (i j : Nat) : (Sort.swp d i j).size = d.size := Sort.size_swp d i j
abbrev PermI (a b : Nat) (d d' : Array Nat) : Prop := Sort.PermIn a b d d'
theorem PermI.size {a b : Nat} {d d' : Array Nat} (h : PermI a b d d') : d'.size = d.size := h.1
theorem PermI.out {a b : Nat} {d d' : Array Nat} (h : PermI a b d d') {i : Nat} (hi : i < a ∨ b ≤ i) : dv d' i = dv d i := h.2.1 i hi
theorem PermI.refl (a b : Nat) (d : Array Nat) : PermI a b d d := Sort.permIn_refl _ _ _
theorem PermI.trans {a b : Nat} {d d' d2 : Array Nat} (h : PermI a b d d') (k : PermI a b d' d2) : PermI a b d d2 := Sort.permIn_trans _ _ _ _ _ h k
theorem PermI.mono {a b a' b' : Nat} {d d' : Array Nat} (h : PermI a b d d') (ha : a' ≤ a) (hb : b ≤ b') (hs : b' ≤ d.size) : PermI a' b' d d' := Sort.permIn_mono _ _ _ _ _ _ ha hb hs h
theorem PermI.swp {a b i j : Nat} (d : Array Nat) (hi : a ≤ i ∧ i < b) (hj : a ≤ j ∧ j < b) (hs : b ≤ d.size) : PermI a b d (Sort.swp d i j) := Sort.swp_permIn _ _ _ _ _ hi.1 hi.2 hj.1 hj.2 hs
/-- at each place from lo to hi -/
def Each (p : Nat → Prop) (d : Array Nat) (lo hi : Nat) : Prop := ∀ k, lo ≤ k → k < hi → p (dv d k)
theorem Each.nil {p : Nat → Prop} {d : Array Nat} {lo hi : Nat} (h : hi ≤ lo) : Each p d lo hi := fun k h1 h2 => by omega
theorem Each.snoc {p : Nat → Prop} {d : Array Nat} {lo hi : Nat} (h : Each p d lo hi) (hp : p (dv d hi)) : Each p d lo (hi + 1) := fun k h1 h2 => by
  by_cases e : k = hi
  · subst e; exact hp
  · exact h k h1 (by omega)
theorem Each.cons {p : Nat → Prop} {d : Array Nat} {lo hi : Nat} (h : Each p d (lo + 1) hi) (hp : p (dv d lo)) : Each p d lo hi := fun k h1 h2 => by
  by_cases e : k = lo
  · subst e; exact hp
  · exact h k (by omega) h2
theorem Each.less {p : Nat → Prop} {d : Array Nat} {lo hi lo' hi' : Nat} (h : Each p d lo hi) (h1 : lo ≤ lo') (h2 : hi' ≤ hi) : Each p d lo' hi' := fun k k1 k2 => h k (by omega) (by omega)
theorem Each.imp {p q : Nat → Prop} {d : Array Nat} {lo hi : Nat} (h : Each p d lo hi) (hq : ∀ x, p x → q x) : Each q d lo hi := fun k k1 k2 => hq _ (h k k1 k2)
theorem Each.swp {p : Nat → Prop} {d : Array Nat} {lo hi i j : Nat} (h : Each p d lo hi) (hi' : i < d.size) (hj' : j < d.size) (h1 : i < lo ∨ hi ≤ i) (h2 : j < lo ∨ hi ≤ j) : Each p (Sort.swp d i j) lo hi := fun k k1 k2 => by
  rw [dv_swp d k hi' hj', if_neg (by omega), if_neg (by omega)]; exact h k k1 k2
theorem Each.perm {p : Nat → Prop} {d d' : Array Nat} {a b : Nat} (h : Each p d a b) (hp : PermI a b d d') (hs : b ≤ d.size) : Each p d' a b := fun k k1 k2 => Sort.permIn_all d d' a b p hs hp (fun i h1 h2 => h i h1 h2) k k1 k2
theorem Each.other {p : Nat → Prop} {d d' : Array Nat} {a b lo hi : Nat} (h : Each p d lo hi) (hp : PermI a b d d') (ho : hi ≤ a ∨ b ≤ lo) : Each p d' lo hi := fun k k1 k2 => by rw [hp.out (by omega)]; exact h k k1 k2
/-- sorted from a to b -/
def Srt (a b : Nat) (d : Array Nat) : Prop := ∀ i j, a ≤ i → i < j → j < b → dv d i ≤ dv d j
theorem srt_of {a b : Nat} {d : Array Nat} (h : Sort.SortedIn ltN a b d) : Srt a b d := fun i j h1 h2 h3 => by
  have := h i j h1 h2 h3
  simp [ltN] at this
  exact this
/-- nothing in it is less than what lies ahead of it -/
def Low (a b : Nat) (d : Array Nat) : Prop := a = 0 ∨ Each (fun x => dv d (a - 1) ≤ x) d a b
/-- whatever is not from a' to b' is where it belongs -/
def Out (a b a' b' : Nat) (d : Array Nat) : Prop := ∀ i j, a ≤ i → i < j → j < b → (i < a' ∨ b' ≤ j) → dv d i ≤ dv d j
theorem Out.start (a b : Nat) (d : Array Nat) : Out a b a b d := fun i j h1 h2 h3 h4 => by omega
theorem Out.perm {a b a' b' : Nat} {d d' : Array Nat} (h : Out a b a' b' d) (ha : a ≤ a') (hb : b' ≤ b) (hp : PermI a' b' d d') (hs : b' ≤ d.size) : Out a b a' b' d' := fun i j h1 h2 h3 h4 => by
  by_cases hi : i < a'
  · rw [hp.out (.inl hi)]
    by_cases hj : a' ≤ j ∧ j < b'
    · exact Each.perm (p := fun x => dv d i ≤ x) (fun k k1 k2 => h i k h1 (by omega) (by omega) (.inl hi)) hp hs j hj.1 hj.2
    · rw [hp.out (by omega)]; exact h i j h1 h2 h3 h4
  · have hj : b' ≤ j := by omega
    rw [hp.out (.inr hj)]
    by_cases hi2 : i < b'
    · exact Each.perm (p := fun x => x ≤ dv d j) (fun k k1 k2 => h k j (by omega) (by omega) h3 (.inr hj)) hp hs i (by omega) hi2
    · rw [hp.out (.inr (by omega))]; exact h i j h1 h2 h3 h4
theorem Out.done {a b a' b' : Nat} {d : Array Nat} (h : Out a b a' b' d) (hs : Srt a' b' d) : Srt a b d := fun i j h1 h2 h3 => by
  by_cases hc : i < a' ∨ b' ≤ j
  · exact h i j h1 h2 h3 hc
  · exact hs i j (by omega) h2 (by omega)
theorem Low.perm {a b : Nat} {d d' : Array Nat} (h : Low a b d) (hp : PermI a b d d') (hs : b ≤ d.size) : Low a b d' := by
  rcases h with h | h
  · exact .inl h
  · by_cases h0 : a = 0
    · exact .inl h0
    · right; rw [hp.out (.inl (by omega))]; exact h.perm hp hs
theorem Low.less {a b b' : Nat} {d : Array Nat} (h : Low a b d) (hb : b' ≤ b) : Low a b' d := by
  rcases h with h | h
  · exact .inl h
  · exact .inr (h.less (Nat.le_refl _) hb)
/-- parted at mid, around p -/
structure Parted (a b mid p : Nat) (d d' : Array Nat) : Prop where
  h1 : a ≤ mid
  h2 : mid < b
  perm : PermI a b d d'
  at' : dv d' mid = p
  left : Each (· < p) d' a mid
  right : Each (p ≤ ·) d' (mid + 1) b
theorem Parted.lowR {a b mid p : Nat} {d d' : Array Nat} (h : Parted a b mid p d d') : Low (mid + 1) b d' := by
  right; rw [Nat.add_sub_cancel, h.at']; exact h.right
/-- the left part is sorted -/
theorem Out.left {a b a' b' mid p : Nat} {d d1 d2 : Array Nat} (h : Out a b a' b' d) (ha : a ≤ a') (hb : b' ≤ b) (hs : b' ≤ d.size) (P : Parted a' b' mid p d d1) (hp : PermI a' mid d1 d2) (hS : Srt a' mid d2) : Out a b (mid + 1) b' d2 := by
  have hq : PermI a' b' d d2 := P.perm.trans (hp.mono (Nat.le_refl _) (Nat.le_of_lt P.h2) (by rw [P.perm.size]; exact hs))
  have ho := h.perm ha hb hq hs
  have hm := P.h2
  have hl := P.left.perm hp (by rw [P.perm.size]; omega)
  have hr := P.right.other hp (.inr (by omega))
  have hat : dv d2 mid = p := by rw [hp.out (.inr (Nat.le_refl _))]; exact P.at'
  intro i j h1 h2 h3 h4
  by_cases hc : i < a' ∨ b' ≤ j
  · exact ho i j h1 h2 h3 hc
  · by_cases hi : i < mid
    · by_cases hj : j < mid
      · exact hS i j (by omega) h2 hj
      · have q1 := hl i (by omega) hi
        by_cases e : j = mid
        · subst e; rw [hat]; exact Nat.le_of_lt q1
        · have q2 := hr j (by omega) (by omega)
          simp only at q1 q2; omega
    · obtain rfl : i = mid := by omega
      rw [hat]; exact hr j (by omega) (by omega)
/-- the right part is sorted -/
theorem Out.right {a b a' b' mid p : Nat} {d d1 d2 : Array Nat} (h : Out a b a' b' d) (ha : a ≤ a') (hb : b' ≤ b) (hs : b' ≤ d.size) (P : Parted a' b' mid p d d1) (hp : PermI (mid + 1) b' d1 d2) (hS : Srt (mid + 1) b' d2) : Out a b a' mid d2 := by
  have hm1 := P.h1
  have hm2 := P.h2
  have hs1 : b' ≤ d1.size := by rw [P.perm.size]; exact hs
  have hq : PermI a' b' d d2 := P.perm.trans (hp.mono (by omega) (Nat.le_refl _) hs1)
  have ho := h.perm ha hb hq hs
  have hl := P.left.other hp (.inl (by omega))
  have hr := P.right.perm hp hs1
  have hat : dv d2 mid = p := by rw [hp.out (.inl (by omega))]; exact P.at'
  intro i j h1 h2 h3 h4
  by_cases hc : i < a' ∨ b' ≤ j
  · exact ho i j h1 h2 h3 hc
  · by_cases hi : i < mid
    · have q1 := hl i (by omega) hi
      by_cases e : j = mid
      · subst e; rw [hat]; exact Nat.le_of_lt q1
      · have q2 := hr j (by omega) (by omega)
        simp only at q1 q2; omega
    · by_cases e : i = mid
      · subst e; rw [hat]; exact hr j (by omega) (by omega)
      · exact hS i j (by omega) h2 (by omega)
/-- equal ones first: they are at their places -/
theorem Out.equal {a b a' b' mid p : Nat} {d d1 : Array Nat} (h : Out a b a' b' d) (ha : a ≤ a') (hb : b' ≤ b) (hs : b' ≤ d.size) (hm : a' ≤ mid ∧ mid ≤ b') (hp : PermI a' b' d d1) (hge : Each (p ≤ ·) d a' b') (hl : Each (· ≤ p) d1 a' mid) (hr : Each (p < ·) d1 mid b') : Out a b mid b' d1 := by
  have ho := h.perm ha hb hp hs
  have hg := hge.perm hp hs
  intro i j h1 h2 h3 h4
  by_cases hc : i < a' ∨ b' ≤ j
  · exact ho i j h1 h2 h3 hc
  · have q1 := hl i (by omega) (by omega)
    have q2 := hg j (by omega) (by omega)
    simp only at q1 q2; omega
theorem Out.low {a b a' b' : Nat} {d : Array Nat} (h : Out a b a' b' d) (ha : a < a') (hb : b' ≤ b) : Low a' b' d := .inr fun k k1 k2 => h (a' - 1) k (by omega) (by omega) (by omega) (.inl (by omega))
/-- what is sorted of a permutation of a list: its middle one -/
theorem median_of {d d' : Array Nat} (hp : PermI 0 d.size d d') (hs : Srt 0 d.size d') {x : Nat} (h0 : 0 < d.size) (hx : dv d' (d.size / 2) = x) : medianN d.toList = x := by
  have hsz := hp.size
  have hq : d'.toList.Perm d.toList := by
    have := hp.2.2
    simp [← hsz] at this
    rwa [List.take_of_length_le (by simp [hsz])] at this
  have hpw : d'.toList.Pairwise (· ≤ ·) := by
    rw [List.pairwise_iff_getElem]
    intro i j hi hj hij
    have := hs i j (Nat.zero_le _) hij (by simpa [hsz] using hj)
    unfold dv at this
    simp at hi hj
    rwa [getElem!_pos d' i hi, getElem!_pos d' j hj] at this
  refine median_sorted hq hpw ?_
  have hm : d.size / 2 < d'.size := by rw [hsz]; omega
  unfold dv at hx
  rw [getElem!_pos d' _ hm] at hx
  rw [Array.length_toList, Array.getElem?_toList, Array.getElem?_eq_getElem hm, hx]
end Go.Proofs.Ytdeggdmoijfhdaa
