/-
  Layer 8, plain: what a deed's words push, read again; a lock is split into what it was made of.
-/
import Derived.Test.YtnaclalbeocpkaaDoorLbAll
namespace Go.Proofs.YtnaclalbeocpkaaDoor
open Go Go.RowKit

/-- up to n pieces, as far as there are words -/
def someS : Nat → List UInt8 → List (List UInt8)
  | 0, _ => []
  | n + 1, b => match nextS b with
    | none => []
    | some (_, d, u) => d :: someS n (b.drop u)
theorem pieces_push {x : List UInt8} (hx : x.length ≤ 65535) (n : Nat) (r : List UInt8) : piecesS (n + 1) (pushL x ++ r) = (piecesS n r).map (x :: ·) := by
  obtain ⟨c, hc, -⟩ := next_push hx r
  simp only [piecesS, hc, List.drop_left]
theorem some_push {x : List UInt8} (hx : x.length ≤ 65535) (n : Nat) (r : List UInt8) : someS (n + 1) (pushL x ++ r) = x :: someS n r := by
  obtain ⟨c, hc, -⟩ := next_push hx r
  simp only [someS, hc, List.drop_left]
theorem some_pieces : ∀ (n m : Nat) (b : List UInt8) (Ls : List (List UInt8)), n ≤ m → piecesS n b = some Ls → ∃ t, someS m b = Ls ++ t
  | 0, m, b, Ls, _, h => by simp [piecesS] at h; subst h; exact ⟨_, rfl⟩
  | n + 1, m, b, Ls, hm, h => by
    obtain ⟨k, rfl⟩ : ∃ k, m = k + 1 := ⟨m - 1, by omega⟩
    simp only [piecesS] at h
    cases hn : nextS b with
    | none => rw [hn] at h; cases h
    | some p =>
      obtain ⟨c, d, u⟩ := p
      rw [hn] at h
      cases hp : piecesS n (b.drop u) with
      | none => simp [hp] at h
      | some Ms =>
        simp [hp] at h
        subst h
        obtain ⟨t, ht⟩ := some_pieces n k _ Ms (by omega) hp
        exact ⟨t, by simp [someS, hn, ht]⟩
theorem some_le : ∀ (n : Nat) (b : List UInt8), (someS n b).length ≤ n
  | 0, b => by simp [someS]
  | n + 1, b => by
    simp only [someS]
    cases nextS b with
    | none => simp
    | some p => have := some_le n (b.drop p.2.2); simp; omega
def piecesOf (d : Deed) : List (List UInt8) := if d.kind = 1 then [d.commit] else if d.kind = 2 then [d.name, d.rand, d.value] else if d.kind = 3 then [d.name, d.value] else []
theorem deed_0 {d : Deed} (h : rightB d = true) (hk : d.kind = 0) : d = noDeed := by
  obtain ⟨k, n, v, r, c⟩ := d
  simp only at hk
  subst hk
  simp [rightB] at h
  obtain ⟨rfl, rfl, rfl, rfl⟩ := h
  rfl
/-- a right deed that says something: read again -/
theorem parse_words {d : Deed} (hd : d.Is) (h : rightB d = true) (h0 : d.kind ≠ 0) (r : List UInt8) :
    ∃ K : Nat, d.kind = (K : Int) ∧ K ≠ 0 ∧ K < 4 ∧ kindL (wordsL d ++ r) = K ∧ piecesS (cntN K) ((wordsL d ++ r).drop 1) = some (piecesOf d) ∧ deedOfL K (piecesOf d) = d := by
  obtain ⟨hf1, hf2, hf3⟩ := right_fits h
  obtain ⟨k, n, v, r', c⟩ := d
  have hc : c.length = 20 := hd
  dsimp only at hf1 hf2 hf3 h0
  by_cases k1 : k = 1
  · subst k1
    simp [rightB] at h
    obtain ⟨rfl, rfl, rfl⟩ := h
    refine ⟨1, rfl, by decide, by decide, rfl, ?_, ?_⟩
    · have e : (wordsL ⟨1, [], [], [], c⟩ ++ r).drop 1 = pushL c ++ ([109] ++ r) := by simp [wordsL]
      rw [e, show cntN 1 = 0 + 1 from rfl, pieces_push (by omega)]
      simp [piecesS, piecesOf]
    · simp [deedOfL, piecesOf, put20_id hc]
  by_cases k2 : k = 2
  · subst k2
    simp [rightB] at h
    obtain ⟨rfl, -⟩ := h
    refine ⟨2, rfl, by decide, by decide, rfl, ?_, ?_⟩
    · have e : (wordsL ⟨2, n, v, r', z20⟩ ++ r).drop 1 = pushL n ++ (pushL r' ++ (pushL v ++ ([109, 109] ++ r))) := by simp [wordsL]
      rw [e, show cntN 2 = 0 + 1 + 1 + 1 from rfl, pieces_push (by omega), pieces_push (by omega), pieces_push (by omega)]
      simp [piecesS, piecesOf]
    · simp [deedOfL, piecesOf]
  by_cases k3 : k = 3
  · subst k3
    simp [rightB] at h
    obtain ⟨rfl, rfl, -⟩ := h
    refine ⟨3, rfl, by decide, by decide, rfl, ?_, ?_⟩
    · have e : (wordsL ⟨3, n, v, [], z20⟩ ++ r).drop 1 = pushL n ++ (pushL v ++ ([109, 117] ++ r)) := by simp [wordsL]
      rw [e, show cntN 3 = 0 + 1 + 1 from rfl, pieces_push (by omega), pieces_push (by omega)]
      simp [piecesS, piecesOf]
    · simp [deedOfL, piecesOf]
  · rw [right_x (d := ⟨k, n, v, r', c⟩) h0 k1 k2 k3] at h; cases h
theorem read_words {d : Deed} (hd : d.Is) (h : rightB d = true) (h0 : d.kind ≠ 0) (r : List UInt8) : readS (wordsL d ++ r) = (d, true) := by
  obtain ⟨K, hk, hK0, -, h1, h2, h3⟩ := parse_words hd h h0 r
  unfold readS
  rw [h1, if_neg hK0, h2]
  dsimp only
  rw [h3]
theorem lock_back {d : Deed} {r x : List UInt8} (hd : d.Is) (h : lockS d r = some x) : splitS8 x = some (d, r) := by
  unfold lockS at h
  split at h
  · cases h
  · rename_i hn
    cases h
    have hr : rightB d = true := by cases hb : rightB d with
      | true => rfl
      | false => exact absurd (.inl hb) hn
    by_cases h0 : d.kind = 0
    · have hk : kindL r = 0 := by
        by_cases e : kindL r = 0
        · exact e
        · exact absurd (.inr ⟨h0, e⟩) hn
      have hdn := deed_0 hr h0
      have hw : wordsL noDeed = [] := rfl
      have hrn : rightB noDeed = true := by rw [← hdn]; exact hr
      subst hdn
      rw [hw, List.nil_append]
      have e : readS r = (noDeed, true) := by unfold readS; rw [if_pos hk]
      unfold splitS8
      rw [e]
      dsimp only
      rw [hw, hrn, if_pos ⟨rfl, rfl, by simp [hasP]⟩]
      simp
    · unfold splitS8
      rw [read_words hd hr h0 r]
      dsimp only
      rw [hr, if_pos ⟨rfl, rfl, hasP_iff.2 ⟨r, rfl⟩⟩, List.drop_left]
end Go.Proofs.YtnaclalbeocpkaaDoor
