/-
  Plain facts on a hasher's cells and on what bytes that come piece by piece do to the state.
-/
import Derived.Test.YtnaclalbeocpkaaDoorKitAll
namespace Go.Proofs.YtnaclalbeocpkaaDoor
open Go Go.RowKit

theorem tab_splice {n : Nat} {f g : Nat → Value} {off : Nat} {l : List Value} (hl : off + l.length ≤ n)
    (h : ∀ j, j < n → some (g j) = if j < off then some (f j) else if j < off + l.length then l[j - off]? else some (f j)) : splice (tab n f) off l = tab n g := by
  apply Array.ext_getElem?
  intro j
  have e1 : (splice (tab n f) off l)[j]? = (List.take off (tab n f).toList ++ l ++ List.drop (off + l.length) (tab n f).toList)[j]? := by simp [splice]
  have hs : (tab n f).toList.length = n := by simp [tab]
  have hf : ∀ k, k < n → (tab n f).toList[k]? = some (f k) := fun k hk => by simp [tab, hk]
  rw [e1, List.append_assoc, List.getElem?_append]
  have ht : (List.take off (tab n f).toList).length = off := by rw [List.length_take, hs]; omega
  rw [ht]
  by_cases hj : j < n
  · rw [tab_get n g j hj, h j hj]
    by_cases h1 : j < off
    · rw [if_pos h1, if_pos h1, List.getElem?_take, if_pos h1, hf j hj]
    · rw [if_neg h1, if_neg h1, List.getElem?_append]
      by_cases h2 : j < off + l.length
      · rw [if_pos h2, if_pos (by omega)]
      · rw [if_neg h2, if_neg (by omega), List.getElem?_drop, show off + l.length + (j - off - l.length) = j by omega, hf j hj]
  · rw [show (tab n g)[j]? = none from Array.getElem?_eq_none (by rw [tab_size]; omega), if_neg (by omega), List.getElem?_append, if_neg (by omega), List.getElem?_drop]
    exact List.getElem?_eq_none (by rw [hs]; omega)

theorem tab_extract {n : Nat} {f : Nat → Value} {off k : Nat} (h : off + k ≤ n) : (tab n f).extract off (off + k) = tab k (fun j => f (off + j)) := by
  apply Array.ext_getElem?
  intro j
  rw [Array.getElem?_extract, tab_size]
  by_cases hj : j < k
  · rw [if_pos (by omega), tab_get n f _ (by omega), tab_get k _ j hj]
  · rw [if_neg (by omega)]
    exact (Array.getElem?_eq_none (by rw [tab_size]; omega)).symm

/-- a hasher's cells: the state, the block that isn't whole, how many bytes came -/
def hCell (s : St) (bg : List UInt8) (m : Nat) (j : Nat) : Value :=
  if j < 8 then V32 (at32 s.list j) else if j < 72 then VB (at8 bg (j - 8)) else .int .u64 (m : Int)
def hCells (s : St) (bg : List UInt8) (m : Nat) : Array Value := tab 73 (hCell s bg m)
theorem hCell_one (s : St) (bg : List UInt8) (m j : Nat) : (hCell s bg m j).oneCell' = true := by
  unfold hCell; split
  · rfl
  · split <;> rfl
theorem hCells_len (s : St) (bg : List UInt8) (m : Nat) : (hCells s bg m)[72]? = some (.int .u64 (m : Int)) := by
  unfold hCells; rw [tab_get _ _ _ (by decide)]; rfl
theorem hCells_setLen (s : St) (bg : List UInt8) (m m' : Nat) : (hCells s bg m).setIfInBounds 72 (.int .u64 (m' : Int)) = hCells s bg m' := by
  refine tab_set fun j hj => ?_
  by_cases h : j = 72
  · subst h; rfl
  · rw [if_neg h]; unfold hCell
    split
    · rfl
    · rw [if_pos (by omega), if_pos (by omega)]
theorem hCells_state (s : St) (bg : List UInt8) (m : Nat) : (hCells s bg m).extract 0 8 = tab 8 (fun j => V32 (at32 s.list j)) := by
  have := tab_extract (n := 73) (f := hCell s bg m) (off := 0) (k := 8) (by decide)
  rw [show (0 + 8 : Nat) = 8 from rfl] at this
  unfold hCells
  rw [this]
  exact tab_congr fun j hj => by unfold hCell; rw [if_pos (by omega), Nat.zero_add]
theorem hCells_begun (s : St) (bg : List UInt8) (m : Nat) : (hCells s bg m).extract 8 72 = tab 64 (fun j => VB (at8 bg j)) := by
  have := tab_extract (n := 73) (f := hCell s bg m) (off := 8) (k := 64) (by decide)
  rw [show (8 + 64 : Nat) = 72 from rfl] at this
  unfold hCells
  rw [this]
  exact tab_congr fun j hj => by unfold hCell; rw [if_neg (by omega), if_pos (by omega), show 8 + j - 8 = j by omega]
theorem hCells_setState (s s' : St) (bg : List UInt8) (m : Nat) : splice (hCells s bg m) 0 (tab 8 (fun j => V32 (at32 s'.list j))).toList = hCells s' bg m := by
  have hl : (tab 8 (fun j => V32 (at32 s'.list j))).toList.length = 8 := by simp [tab]
  refine tab_splice (by rw [hl]; decide) fun j hj => ?_
  rw [hl, if_neg (by omega)]
  by_cases h : j < 8
  · rw [if_pos (by omega), Nat.sub_zero, Array.getElem?_toList, tab_get _ _ _ h]
    unfold hCell; rw [if_pos h]
  · rw [if_neg (by omega)]; unfold hCell; rw [if_neg h, if_neg h]

/-- bytes written over a block at a place -/
def putAt (bg : List UInt8) (at_ : Nat) (r : List UInt8) : List UInt8 := bg.take at_ ++ r ++ bg.drop (at_ + r.length)
theorem putAt_length (bg : List UInt8) (p : Nat) (r : List UInt8) (h : p + r.length ≤ bg.length) : (putAt bg p r).length = bg.length := by
  simp [putAt]; omega
theorem at8_putAt (bg : List UInt8) (p : Nat) (r : List UInt8) (h : p + r.length ≤ bg.length) (j : Nat) :
    at8 (putAt bg p r) j = if j < p then at8 bg j else if j < p + r.length then at8 r (j - p) else at8 bg j := by
  unfold at8 putAt
  rw [List.getD_eq_getElem?_getD, List.getD_eq_getElem?_getD, List.getD_eq_getElem?_getD, List.append_assoc, List.getElem?_append]
  have ht : (List.take p bg).length = p := by simp; omega
  rw [ht]
  by_cases h1 : j < p
  · rw [if_pos h1, if_pos h1, List.getElem?_take, if_pos h1]
  · rw [if_neg h1, if_neg h1, List.getElem?_append]
    by_cases h2 : j < p + r.length
    · rw [if_pos h2, if_pos (by omega)]
    · rw [if_neg h2, if_neg (by omega), List.getElem?_drop, show p + r.length + (j - p - r.length) = j by omega]
theorem hCells_put (s : St) (bg : List UInt8) (m p : Nat) (r : List UInt8) (hb : bg.length = 64) (h : p + r.length ≤ 64) : splice (hCells s bg m) (8 + p) (r.map VB) = hCells s (putAt bg p r) m := by
  refine tab_splice (by simp; omega) fun j hj => ?_
  rw [List.length_map]
  by_cases h8 : j < 8
  · rw [if_pos (by omega)]; unfold hCell; rw [if_pos h8, if_pos h8]
  · by_cases h72 : j < 72
    · have e := at8_putAt bg p r (by omega) (j - 8)
      by_cases h1 : j < 8 + p
      · rw [if_pos h1]; unfold hCell; rw [if_neg h8, if_neg h8, if_pos h72, if_pos h72, e, if_pos (by omega)]
      · rw [if_neg h1]
        by_cases h2 : j < 8 + p + r.length
        · rw [if_pos h2, List.getElem?_map]; unfold hCell; rw [if_neg h8, if_pos h72, e, if_neg (by omega), if_pos (by omega), show j - 8 - p = j - (8 + p) by omega]
          simp [at8, show j - (8 + p) < r.length by omega]
        · rw [if_neg h2]; unfold hCell; rw [if_neg h8, if_neg h8, if_pos h72, if_pos h72, e, if_neg (by omega), if_neg (by omega)]
    · rw [if_neg (by omega), if_neg (by omega)]; unfold hCell; rw [if_neg h8, if_neg h8, if_neg h72, if_neg h72]

/-- the block that isn't whole begins with what came behind the last whole one -/
structure HInv (M bg : List UInt8) : Prop where
  len : bg.length = 64
  eq : bg.take (M.length % 64) = M.drop (64 * (M.length / 64))
def stOf (M : List UInt8) : St := absorb M (M.length / 64)

theorem hinv_less (M bg R : List UInt8) (h : HInv M bg) (hR : M.length % 64 + R.length < 64) : HInv (M ++ R) (putAt bg (M.length % 64) R) ∧ stOf (M ++ R) = stOf M := by
  have hd : (M ++ R).length / 64 = M.length / 64 := by simp; omega
  have hm : (M ++ R).length % 64 = M.length % 64 + R.length := by simp; omega
  have hle : 64 * (M.length / 64) ≤ M.length := by omega
  refine ⟨⟨by rw [putAt_length _ _ _ (by rw [h.len]; omega), h.len], ?_⟩, ?_⟩
  · rw [hm, hd, List.drop_append_of_le_length hle, ← h.eq]
    unfold putAt
    rw [List.take_append_of_le_length (by simp [h.len]; omega), List.take_of_length_le (by simp; omega)]
  · unfold stOf; rw [hd]; exact absorb_append M R _ hle
theorem hinv_full (M bg R : List UInt8) (h : HInv M bg) (hR : M.length % 64 + R.length = 64) : HInv (M ++ R) (putAt bg (M.length % 64) R) ∧ stOf (M ++ R) = comp (stOf M) (putAt bg (M.length % 64) R) := by
  have hd : (M ++ R).length / 64 = M.length / 64 + 1 := by simp; omega
  have hm : (M ++ R).length % 64 = 0 := by simp; omega
  have hle : 64 * (M.length / 64) ≤ M.length := by omega
  refine ⟨⟨by rw [putAt_length _ _ _ (by rw [h.len]; omega), h.len], ?_⟩, ?_⟩
  · rw [hm, hd, List.take_zero, List.drop_eq_nil_of_le (by simp; omega)]
  · unfold stOf; rw [hd]
    show comp (absorb (M ++ R) (M.length / 64)) (((M ++ R).drop (64 * (M.length / 64))).take 64) = _
    rw [absorb_append M R _ hle, List.drop_append_of_le_length hle, ← h.eq]
    unfold putAt
    rw [List.drop_eq_nil_of_le (by rw [h.len]; omega), List.append_nil, List.take_of_length_le (by simp [h.len]; omega)]

end Go.Proofs.YtnaclalbeocpkaaDoor
