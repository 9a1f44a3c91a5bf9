/-
  Layer 8, plain: the document's way to split a lock answers the same.
-/
import Derived.Test.YtnaclalbeocpkaaDoorLbParse
namespace Go.Proofs.YtnaclalbeocpkaaDoor
open Go Go.RowKit

theorem some_len : ∀ (n : Nat) (b : List UInt8), ∀ L ∈ someS n b, L.length ≤ b.length
  | 0, b, L, h => by simp [someS] at h
  | n + 1, b, L, h => by
    simp only [someS] at h
    cases hn : nextS b with
    | none => rw [hn] at h; cases h
    | some p =>
      obtain ⟨c, d, u⟩ := p
      rw [hn] at h
      rcases List.mem_cons.1 h with rfl | h
      · exact next_len8 hn
      · have := some_len n _ L h; simp at this; omega
def pad3 (L : List (List UInt8)) : List (List UInt8) := L ++ List.replicate (3 - L.length) []
def finS (l : List UInt8) (d : Deed) : Option (Deed × List UInt8) := if rightB d = true ∧ hasP l (wordsL d) = true then some (d, l.drop (wordsL d).length) else none
def nsS (l : List UInt8) : Option (Deed × List UInt8) :=
  if kindL l = 0 then some (noDeed, l)
  else if kindL l = 1 ∧ ((pad3 (someS 3 (l.drop 1)))[0]?.getD []).length ≠ 20 then none
  else finS l (deedOfL (kindL l) (pad3 (someS 3 (l.drop 1))))
theorem deedOfL_kind {K : Nat} (h0 : K ≠ 0) (h4 : K < 4) (Ls : List (List UInt8)) : (deedOfL K Ls).kind = (K : Int) := by
  unfold deedOfL
  split
  · subst_vars; rfl
  · split
    · subst_vars; rfl
    · split
      · subst_vars; rfl
      · omega
theorem deedOfL_more {K : Nat} {Ls : List (List UInt8)} (hl : Ls.length = cntN K) (t : List (List UInt8)) : deedOfL K (Ls ++ t) = deedOfL K Ls := by
  have hg : ∀ i, i < Ls.length → (Ls ++ t)[i]?.getD [] = Ls[i]?.getD [] := fun i hi => by rw [List.getElem?_append_left hi]
  unfold deedOfL
  split
  · rename_i h; subst h; rw [hg 0 (by rw [hl]; decide)]
  · split
    · rename_i h; subst h; rw [hg 0 (by rw [hl]; decide), hg 1 (by rw [hl]; decide), hg 2 (by rw [hl]; decide)]
    · split
      · rename_i h; subst h; rw [hg 0 (by rw [hl]; decide), hg 1 (by rw [hl]; decide)]
      · rfl
theorem fin_pieces {l : List UInt8} {D : Deed} (hd : D.Is) (hr : rightB D = true) (hk : D.kind = (kindL l : Int)) (h0 : kindL l ≠ 0) (hp : hasP l (wordsL D) = true) : piecesS (cntN (kindL l)) (l.drop 1) = some (piecesOf D) := by
  obtain ⟨t, ht⟩ := hasP_iff.1 hp
  obtain ⟨K, e1, -, -, e2, e3, -⟩ := parse_words hd hr (by omega) t
  rw [← ht] at e2 e3
  rw [e2]
  exact e3
theorem cntN_le3 (k : Nat) : cntN k ≤ 3 := cntN_le k
theorem nsS_eq (l : List UInt8) : nsS l = splitS8 l := by
  unfold nsS
  by_cases h0 : kindL l = 0
  · rw [if_pos h0]
    have e : readS l = (noDeed, true) := by unfold readS; rw [if_pos h0]
    have hw : wordsL noDeed = [] := rfl
    have hr : rightB noDeed = true := by simp [rightB, noDeed]
    unfold splitS8
    rw [e]
    dsimp only
    rw [hw, hr, if_pos ⟨rfl, rfl, by simp [hasP]⟩]
    simp
  rw [if_neg h0]
  have hK4 := kindL_lt l
  have key := fun (Ls : List (List UInt8)) (hr : rightB (deedOfL (kindL l) Ls) = true) (hp : hasP l (wordsL (deedOfL (kindL l) Ls)) = true) => fin_pieces (deedOfL_is _ Ls) hr (deedOfL_kind h0 hK4 Ls) h0 hp
  cases hp : piecesS (cntN (kindL l)) (l.drop 1) with
  | none =>
    have e : readS l = (noDeed, false) := by unfold readS; rw [if_neg h0, hp]
    have e2 : splitS8 l = none := by unfold splitS8; rw [e]; simp
    rw [e2]
    split
    · rfl
    · unfold finS
      rw [if_neg]
      rintro ⟨h1, h2⟩
      have := key _ h1 h2
      rw [hp] at this
      cases this
  | some Ls =>
    have e : readS l = (deedOfL (kindL l) Ls, true) := by unfold readS; rw [if_neg h0, hp]
    have e2 : splitS8 l = finS l (deedOfL (kindL l) Ls) := by unfold splitS8 finS; rw [e]; simp
    obtain ⟨t, ht⟩ := some_pieces _ 3 _ Ls (cntN_le _) hp
    have hl := (pieces_len _ _ _ hp).1
    have e3 : deedOfL (kindL l) (pad3 (someS 3 (l.drop 1))) = deedOfL (kindL l) Ls := by
      unfold pad3
      rw [ht, List.append_assoc]
      exact deedOfL_more hl _
    rw [e2, e3]
    by_cases hc : kindL l = 1 ∧ ((pad3 (someS 3 (l.drop 1)))[0]?.getD []).length ≠ 20
    · rw [if_pos hc]
      unfold finS
      rw [if_neg]
      rintro ⟨h1, h2⟩
      have hpp := key _ h1 h2
      rw [hp] at hpp
      apply hc.2
      have e4 : (pad3 (someS 3 (l.drop 1)))[0]?.getD [] = Ls[0]?.getD [] := by
        unfold pad3
        rw [ht, List.append_assoc, List.getElem?_append_left (by rw [hl, hc.1]; decide)]
      rw [e4, Option.some.inj hpp, hc.1]
      have : piecesOf (deedOfL 1 Ls) = [(deedOfL 1 Ls).commit] := by simp [piecesOf, deedOfL]
      rw [this]
      exact deedOfL_is 1 Ls
    · rw [if_neg hc]
end Go.Proofs.YtnaclalbeocpkaaDoor
