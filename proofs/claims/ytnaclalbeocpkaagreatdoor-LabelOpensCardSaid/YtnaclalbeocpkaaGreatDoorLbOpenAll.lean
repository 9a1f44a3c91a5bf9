/-
  Joined: LbOpenP, LbLaw4.
-/
import Derived.Test.YtnaclalbeocpkaaGreatDoorLbAll
import Derived.Test.YtnaclalbeocpkaaGreatDoorLbLaw1
import Derived.Test.YtnaclalbeocpkaaGreatDoorScEnv1
import Derived.Test.YtnaclalbeocpkaaGreatDoorScLaw1
/-
  Layer 8, plain: a deed's words ahead of a lock change nothing of what opens it, but that a limit may be met.
-/
namespace Go.Proofs.YtnaclalbeocpkaaGreatDoor
open Go Go.RowKit

/-- sums as they are, no signature -/
def dig : Env := ⟨fun x => some ((sha x).take 32), fun x => some ((sha (sha x)).take 20), fun _ _ => none⟩
theorem next_code {c0 c : UInt8} {r d : List UInt8} {u : Nat} (h : nextS (c0 :: r) = some (c, d, u)) : c = c0 := by
  unfold nextS at h
  dsimp only at h
  repeat' split at h
  all_goals first | cases h; done | (cases h; rfl)
theorem op_tot {E : Env} (hs : ∀ x, ∃ s, E.sum x = some s) (ht : ∀ x, ∃ s, E.short x = some s) {c : UInt8} (h1 : c ≠ 172) (h2 : c ≠ 173) (l : List (List UInt8)) : ∃ q, opS E c l = some q := by
  unfold opS
  by_cases k1 : c = 97
  · rw [if_pos k1]; exact ⟨_, rfl⟩
  rw [if_neg k1]
  by_cases k2 : c = 106
  · rw [if_pos k2]; exact ⟨_, rfl⟩
  rw [if_neg k2]
  split
  · cases l with
    | nil => exact ⟨_, rfl⟩
    | cons x r =>
      obtain ⟨s, e1⟩ := hs x
      obtain ⟨s', e2⟩ := ht x
      dsimp only
      rw [e1, e2]
      by_cases a1 : c = 105
      · rw [if_pos a1]; exact ⟨_, rfl⟩
      rw [if_neg a1]
      by_cases a2 : c = 117
      · rw [if_pos a2]; exact ⟨_, rfl⟩
      rw [if_neg a2]
      by_cases a3 : c = 118
      · rw [if_pos a3]; exact ⟨_, rfl⟩
      rw [if_neg a3]
      by_cases a4 : c = 130
      · rw [if_pos a4]; exact ⟨_, rfl⟩
      rw [if_neg a4]
      by_cases a5 : c = 168
      · rw [if_pos a5]; exact ⟨_, rfl⟩
      rw [if_neg a5]; exact ⟨_, rfl⟩
  · split
    · match l with
      | [] => exact ⟨_, rfl⟩
      | [_] => exact ⟨_, rfl⟩
      | x :: y :: r =>
        dsimp only
        by_cases a1 : c = 109
        · rw [if_pos a1]; exact ⟨_, rfl⟩
        rw [if_neg a1]
        by_cases a2 : c = 120
        · rw [if_pos a2]; exact ⟨_, rfl⟩
        rw [if_neg a2]
        by_cases a3 : c = 124
        · rw [if_pos a3]; exact ⟨_, rfl⟩
        rw [if_neg a3]
        by_cases a4 : c = 135
        · rw [if_pos a4]; exact ⟨_, rfl⟩
        rw [if_neg a4]
        by_cases a5 : c = 136
        · rw [if_pos a5]; exact ⟨_, rfl⟩
        rename_i hc
        exfalso
        rcases hc with h | h | h | h | h | h | h <;> contradiction
    · exact ⟨_, rfl⟩
theorem op_some {c : UInt8} (h1 : c ≠ 172) (h2 : c ≠ 173) (l : List (List UInt8)) : ∃ q, opS dig c l = some q := op_tot (fun _ => ⟨_, rfl⟩) (fun _ => ⟨_, rfl⟩) h1 h2 l
theorem do_some {c : UInt8} (h1 : c ≠ 172) (h2 : c ≠ 173) (d : List UInt8) (s : SSt) : ∃ q, doS dig c d s = some q := by
  obtain ⟨q, hq⟩ := op_some h1 h2 s.stack
  unfold doS
  split
  · exact ⟨_, rfl⟩
  · split
    · split
      · exact ⟨_, rfl⟩
      · rw [hq]; exact ⟨_, rfl⟩
    · exact ⟨_, rfl⟩
def Quiet (b : List UInt8) : Prop := ∀ x ∈ b, x ≠ 172 ∧ x ≠ 173
theorem all_some (p : Bool) : ∀ (k ops : Nat) (b : List UInt8) (s : SSt), Quiet b → ∃ q, allF dig p k ops b s = some q
  | 0, _, _, _, _ => ⟨_, rfl⟩
  | k + 1, ops, b, s, hq => by
    unfold allF
    split
    · exact ⟨_, rfl⟩
    · rename_i hb
      obtain ⟨c0, r, rfl⟩ := List.exists_cons_of_ne_nil hb
      cases hn : nextS (c0 :: r) with
      | none => exact ⟨_, rfl⟩
      | some q =>
        obtain ⟨c, d, u⟩ := q
        have hc := next_code hn
        subst hc
        obtain ⟨h1, h2⟩ := hq c (by simp)
        dsimp only
        split
        · exact ⟨_, rfl⟩
        · obtain ⟨⟨t, e⟩, hd⟩ := do_some h1 h2 d s
          rw [hd]
          dsimp only
          split
          · exact ⟨_, rfl⟩
          · exact all_some p k _ _ t fun x hx => hq x (List.mem_of_mem_drop hx)
theorem wordE_more {ops ops' : Nat} (ho : ops ≤ ops') (c : UInt8) (d : List UInt8) : (wordE false ops' c d = 73) ∨ (wordE false ops' c d = 0 ∧ wordE false ops c d = 0) := by
  unfold wordE
  simp only [Bool.false_and, Bool.false_eq_true, if_false]
  by_cases h5 : 520 < d.length
  · rw [if_pos h5]; exact .inl rfl
  · rw [if_neg h5, if_neg h5]
    cases pushesB c
    · by_cases h1 : 100 ≤ ops'
      · left; simp [h1]
      · right
        have : ¬ 100 ≤ ops := by omega
        simp [h1, this]
    · right; simp
theorem all_more (E : Env) : ∀ (k k' ops ops' : Nat) (b : List UInt8) (s : SSt), b.length ≤ k → b.length ≤ k' → ops ≤ ops' → allF E false k' ops' b s = allF E false k ops b s ∨ ∃ t, allF E false k' ops' b s = some (t, 73)
  | k, k', ops, ops', b, s, hk, hk', ho => by
    by_cases hb : b = []
    · subst hb
      left
      rw [all_end, all_end]
    · have hl : 0 < b.length := List.length_pos_iff.2 hb
      obtain ⟨j, rfl⟩ : ∃ j, k = j + 1 := ⟨k - 1, by omega⟩
      obtain ⟨j', rfl⟩ : ∃ j, k' = j + 1 := ⟨k' - 1, by omega⟩
      unfold allF
      rw [if_neg hb, if_neg hb]
      cases hn : nextS b with
      | none => exact .inl rfl
      | some q =>
        obtain ⟨c, d, u⟩ := q
        have hu := next_used hn
        dsimp only
        rcases wordE_more ho c d with h | ⟨h, h'⟩
        · right; rw [h]; exact ⟨s, rfl⟩
        · rw [h, h']
          simp only [ne_eq, not_true_eq_false, if_false]
          cases hd : doS E c d s with
          | none => exact .inl rfl
          | some q =>
            obtain ⟨t, e⟩ := q
            dsimp only
            split
            · exact .inl rfl
            · exact all_more E j j' _ _ (b.drop u) t (by simp; omega) (by simp; omega) (by split <;> omega)
termination_by k => k
theorem all_ways (E : Env) (p : Bool) : ∀ (k ops : Nat) (b : List UInt8) (s t : SSt), allF E p k ops b s = some (t, 0) → t.ways = []
  | 0, _, _, s, t, h => by
    simp only [allF, endS, Option.some.injEq] at h
    split at h
    · cases h; assumption
    · cases h
  | k + 1, ops, b, s, t, h => by
    unfold allF at h
    split at h
    · simp only [endS, Option.some.injEq] at h
      split at h
      · cases h; assumption
      · cases h
    · split at h
      · cases h
      · split at h
        · rename_i hw; simp only [Option.some.injEq, Prod.mk.injEq] at h; exact absurd h.2 hw
        · split at h
          · cases h
          · split at h
            · rename_i he; simp only [Option.some.injEq, Prod.mk.injEq] at h; exact absurd h.2 he
            · exact all_ways E p k _ _ _ t h
theorem do_109 (E : Env) (x y : List UInt8) (st : List (List UInt8)) (hl : st.length ≤ 100) : doS E 109 [] ⟨x :: y :: st, []⟩ = some (⟨st, []⟩, 0) := by
  simp [doS, isBr, goesB, pushesB, opS]; omega
theorem do_117 (E : Env) (x : List UInt8) (st : List (List UInt8)) (hl : st.length ≤ 100) : doS E 117 [] ⟨x :: st, []⟩ = some (⟨st, []⟩, 0) := by
  simp [doS, isBr, goesB, pushesB, opS]; omega
theorem small_go (E : Env) (k ops n : Nat) (h1 : 1 ≤ n) (h2 : n ≤ 16) (r : List UInt8) (st : List (List UInt8)) : (∃ t, allF E false (k + 1) ops (UInt8.ofNat (80 + n) :: r) ⟨st, []⟩ = some (t, 73)) ∨ (st.length + 1 ≤ 100 ∧ allF E false (k + 1) ops (UInt8.ofNat (80 + n) :: r) ⟨st, []⟩ = allF E false k ops r ⟨[UInt8.ofNat n] :: st, []⟩) := by
  rw [all_small E false k ops n h1 h2]
  simp only [goesB, List.all_nil, if_true]
  by_cases h : 100 < st.length + 1
  · left; rw [if_pos h]; exact ⟨_, rfl⟩
  · right; rw [if_neg h]; exact ⟨by omega, rfl⟩
theorem push_go (E : Env) (k ops : Nat) {x : List UInt8} (hx : x.length ≤ 520) (r : List UInt8) (st : List (List UInt8)) : (∃ t, allF E false (k + 1) ops (pushL x ++ r) ⟨st, []⟩ = some (t, 73)) ∨ (st.length + 1 ≤ 100 ∧ allF E false (k + 1) ops (pushL x ++ r) ⟨st, []⟩ = allF E false k ops r ⟨x :: st, []⟩) := by
  rw [all_push E false k ops hx]
  simp only [goesB, List.all_nil, if_true]
  by_cases h : 100 < st.length + 1
  · left; rw [if_pos h]; exact ⟨_, rfl⟩
  · right; rw [if_neg h]; exact ⟨by omega, rfl⟩
theorem pushL_pos (x : List UInt8) : 0 < (pushL x).length := by rw [pushL_len]; split <;> (try split) <;> omega
/-- a deed's words: a limit, or all is as it was but for the words that count -/
theorem pre_words {d : Deed} (hd : d.Is) (hr : rightB d = true) (h0 : d.kind ≠ 0) (E : Env) (r : List UInt8) (st : List (List UInt8)) (k : Nat) (hk : (wordsL d ++ r).length ≤ k) :
    (∃ t, allF E false k 0 (wordsL d ++ r) ⟨st, []⟩ = some (t, 73)) ∨ ∃ k' o, r.length ≤ k' ∧ allF E false k 0 (wordsL d ++ r) ⟨st, []⟩ = allF E false k' o r ⟨st, []⟩ := by
  obtain ⟨f1, f2, f3⟩ := right_fits hr
  obtain ⟨K, n, v, s, c⟩ := d
  have hc : c.length = 20 := hd
  dsimp only at h0
  by_cases k1 : K = 1
  · subst k1
    have hw : wordsL ⟨1, n, v, s, c⟩ ++ r = UInt8.ofNat (80 + 1) :: (pushL c ++ (109 :: r)) := by simp [wordsL]
    rw [hw] at hk ⊢
    have p1 := pushL_pos c
    simp at hk
    obtain ⟨j, rfl⟩ : ∃ j, k = j + 1 + 1 + 1 := ⟨k - 3, by omega⟩
    rcases small_go E (j + 1 + 1) 0 1 (by decide) (by decide) (pushL c ++ (109 :: r)) st with h | ⟨l1, h⟩
    · exact .inl h
    rw [h]
    rcases push_go E (j + 1) 0 (x := c) (by omega) (109 :: r) ([UInt8.ofNat 1] :: st) with h | ⟨l2, h⟩
    · exact .inl h
    rw [h, word_go E j 0 109 (by decide) (by decide) r _ _ (do_109 E _ _ st (by omega))]
    exact .inr ⟨j, 1, by omega, rfl⟩
  by_cases k2 : K = 2
  · subst k2
    have hb := hr
    simp only [rightB] at hb
    have hb := of_decide_eq_true hb
    have hw : wordsL ⟨2, n, v, s, c⟩ ++ r = UInt8.ofNat (80 + 2) :: (pushL n ++ (pushL s ++ (pushL v ++ (109 :: (109 :: r))))) := by simp [wordsL]
    rw [hw] at hk ⊢
    have p1 := pushL_pos n
    have p2 := pushL_pos s
    have p3 := pushL_pos v
    simp at hk
    obtain ⟨j, rfl⟩ : ∃ j, k = j + 1 + 1 + 1 + 1 + 1 + 1 := ⟨k - 6, by omega⟩
    rcases small_go E (j + 1 + 1 + 1 + 1 + 1) 0 2 (by decide) (by decide) (pushL n ++ (pushL s ++ (pushL v ++ (109 :: (109 :: r))))) st with h | ⟨l1, h⟩
    · exact .inl h
    rw [h]
    rcases push_go E (j + 1 + 1 + 1 + 1) 0 (x := n) (by omega) (pushL s ++ (pushL v ++ (109 :: (109 :: r)))) ([UInt8.ofNat 2] :: st) with h | ⟨l2, h⟩
    · exact .inl h
    rw [h]
    rcases push_go E (j + 1 + 1 + 1) 0 (x := s) (by omega) (pushL v ++ (109 :: (109 :: r))) (n :: [UInt8.ofNat 2] :: st) with h | ⟨l3, h⟩
    · exact .inl h
    rw [h]
    rcases push_go E (j + 1 + 1) 0 (x := v) (by omega) (109 :: (109 :: r)) (s :: n :: [UInt8.ofNat 2] :: st) with h | ⟨l4, h⟩
    · exact .inl h
    simp at l4
    rw [h, word_go E (j + 1) 0 109 (by decide) (by decide) _ _ _ (do_109 E _ _ (n :: [UInt8.ofNat 2] :: st) (by simp; omega)), word_go E j 1 109 (by decide) (by decide) r _ _ (do_109 E _ _ st (by omega))]
    exact .inr ⟨j, 2, by omega, rfl⟩
  by_cases k3 : K = 3
  · subst k3
    have hb := hr
    simp only [rightB] at hb
    have hb := of_decide_eq_true hb
    have hw : wordsL ⟨3, n, v, s, c⟩ ++ r = UInt8.ofNat (80 + 3) :: (pushL n ++ (pushL v ++ (109 :: (117 :: r)))) := by simp [wordsL]
    rw [hw] at hk ⊢
    have p1 := pushL_pos n
    have p3 := pushL_pos v
    simp at hk
    obtain ⟨j, rfl⟩ : ∃ j, k = j + 1 + 1 + 1 + 1 + 1 := ⟨k - 5, by omega⟩
    rcases small_go E (j + 1 + 1 + 1 + 1) 0 3 (by decide) (by decide) (pushL n ++ (pushL v ++ (109 :: (117 :: r)))) st with h | ⟨l1, h⟩
    · exact .inl h
    rw [h]
    rcases push_go E (j + 1 + 1 + 1) 0 (x := n) (by omega) (pushL v ++ (109 :: (117 :: r))) ([UInt8.ofNat 3] :: st) with h | ⟨l2, h⟩
    · exact .inl h
    rw [h]
    rcases push_go E (j + 1 + 1) 0 (x := v) (by omega) (109 :: (117 :: r)) (n :: [UInt8.ofNat 3] :: st) with h | ⟨l3, h⟩
    · exact .inl h
    simp at l3
    rw [h, word_go E (j + 1) 0 109 (by decide) (by decide) _ _ _ (do_109 E _ _ ([UInt8.ofNat 3] :: st) (by simp; omega)), word_go E j 1 117 (by decide) (by decide) r _ _ (do_117 E _ st (by omega))]
    exact .inr ⟨j, 2, by omega, rfl⟩
  · rw [right_x (d := ⟨K, n, v, s, c⟩) h0 k1 k2 k3] at hr; cases hr
theorem opens_plain {d : Deed} (hd : d.Is) {u r b : List UInt8} (hb : lockS d r = some b) (hu : Quiet u) (hq : Quiet r) (hul : u.length ≤ 500) (hrl : r.length ≤ 500) :
    ∃ e1 e2, runS dig u r = some e1 ∧ runS dig u b = some e2 ∧ (e1 = e2 ∨ e2 = 73) := by
  have key : rightB d = true ∧ b = wordsL d ++ r := by
    unfold lockS at hb
    split at hb
    · cases hb
    · rename_i hn
      cases hb
      exact ⟨by cases h : rightB d with
        | true => rfl
        | false => exact absurd (.inl h) hn, rfl⟩
  obtain ⟨hr, rfl⟩ := key
  obtain ⟨⟨s, e⟩, h1⟩ := all_some true u.length 0 u ⟨[], []⟩ hu
  have h1' : allS dig true u ⟨[], []⟩ = some (s, e) := h1
  obtain ⟨⟨t, f⟩, h2⟩ := all_some false r.length 0 r s hq
  have h2' : allS dig false r s = some (t, f) := h2
  by_cases h0 : d.kind = 0
  · have hw : wordsL d = [] := by simp [wordsL, h0]
    rw [hw, List.nil_append]
    have : ∃ e1, runS dig u r = some e1 := by
      unfold runS
      rw [if_neg (by omega), h1']
      dsimp only
      split
      · exact ⟨_, rfl⟩
      · rw [h2']; dsimp only; split <;> exact ⟨_, rfl⟩
    obtain ⟨e1, he⟩ := this
    exact ⟨e1, e1, he, he, .inl rfl⟩
  by_cases he : e = 0
  · subst he
    have hways := all_ways dig true _ _ _ _ _ h1
    obtain ⟨st, ws⟩ := s
    dsimp only at hways
    subst hways
    have hE1 : runS dig u r = some (if f ≠ 0 then f else lastS t) := by
      unfold runS
      rw [if_neg (by omega), h1']
      dsimp only
      rw [if_neg (by simp), h2']
      dsimp only
      split <;> rfl
    refine ⟨if f ≠ 0 then f else lastS t, ?_⟩
    by_cases hlen : 2000 < (wordsL d ++ r).length
    · exact ⟨73, hE1, by unfold runS; rw [if_pos (.inr hlen)], .inr rfl⟩
    · have hrun : ∀ t' f', allS dig false (wordsL d ++ r) ⟨st, []⟩ = some (t', f') → runS dig u (wordsL d ++ r) = some (if f' ≠ 0 then f' else lastS t') := fun t' f' h => by
        unfold runS
        rw [if_neg (by omega), h1']
        dsimp only
        rw [if_neg (by simp), h]
        dsimp only
        split <;> rfl
      rcases pre_words hd hr h0 dig r st _ (Nat.le_refl _) with ⟨t', h⟩ | ⟨k', o, hk', h⟩
      · exact ⟨73, hE1, hrun t' 73 h, .inr rfl⟩
      · rcases all_more dig r.length k' 0 o r ⟨st, []⟩ (Nat.le_refl _) hk' (Nat.zero_le _) with h3 | ⟨t', h3⟩
        · exact ⟨_, hE1, hrun t f (h.trans (h3.trans h2)), .inl rfl⟩
        · exact ⟨73, hE1, hrun t' 73 (h.trans h3), .inr rfl⟩
  · refine ⟨e, ?_⟩
    have hE : ∀ l : List UInt8, l.length ≤ 2000 → runS dig u l = some e := fun l hl => by
      unfold runS
      rw [if_neg (by omega), h1']
      dsimp only
      rw [if_pos he]
    by_cases hlen : 2000 < (wordsL d ++ r).length
    · exact ⟨73, hE r (by omega), by unfold runS; rw [if_pos (.inr hlen)], .inr rfl⟩
    · exact ⟨e, hE r (by omega), hE _ (by omega), .inl rfl⟩
end Go.Proofs.YtnaclalbeocpkaaGreatDoor

/-
  Layer 8: the walk of LabelOpens.
-/
namespace Go.Proofs.YtnaclalbeocpkaaGreatDoor
open Go Go.RowKit

theorem dig_ok {w0 : World} (hK : Keys w0) : ∃ Gs : List (Nat × Obj), (∀ k o, (k, o) ∈ Gs → w0.heap[k]? = some o) ∧ EnvOk dig hs0 Gs := by
  have h0 := hK 0 (by decide)
  have hlt := block_lt_of_cell h0
  obtain ⟨ob, hob⟩ : ∃ ob, w0.heap[5]? = some ob := ⟨_, Array.getElem?_eq_getElem hlt⟩
  have hKG : ∀ w : World, (∀ k o, (k, o) ∈ [(5, ob)] → w.heap[k]? = some o) → Keys w := fun w h j hj => by
    have hb := h 5 ob (by simp)
    rw [World.cell?_of_block (w := w0) (by show w.heap[5]? = w0.heap[5]?; rw [hb, hob])]
    exact hK j hj
  refine ⟨[(5, ob)], fun k o h => by simp at h; obtain ⟨rfl, rfl⟩ := h; exact hob, ⟨fun w h e => ?_, fun w h e => ?_, fun w h e => by cases e⟩⟩
  · cases e; exact scChange_168 hKG w h
  · cases e; exact scChange_169 hKG w h
theorem quiet_of {u r : List UInt8} (h : ∀ p, p < (u ++ r).length → at8 (u ++ r) p ≠ 172 ∧ at8 (u ++ r) p ≠ 173) : Quiet u ∧ Quiet r := by
  have hq : Quiet (u ++ r) := fun x hx => by
    obtain ⟨p, hp, rfl⟩ := List.getElem_of_mem hx
    have e : at8 (u ++ r) p = (u ++ r)[p] := by unfold at8; rw [List.getD_eq_getElem?_getD, List.getElem?_eq_getElem hp, Option.getD_some]
    have := h p hp
    rw [e] at this
    exact this
  exact ⟨fun x hx => hq x (List.mem_append.2 (.inl hx)), fun x hx => hq x (List.mem_append.2 (.inr hx))⟩
set_option maxRecDepth 100000 in
set_option maxHeartbeats 8000000 in
theorem labelOpens_walk {d : Deed} (hd : d.Is) {u r : List UInt8} {vu vr : Value} (W : World) (hG : Counts W) (hK : Keys W) (hu : IsVals W vu (u.map VB)) (hr : IsVals W vr (r.map VB)) : Calls Tryz.prog 3 #[deedV d, vu, vr] W fun e W' => e = .returned (.bool true) ∧ Below W.heap.size W W' := by
  obtain ⟨i, hi, hz, hs1, hby⟩ := b8Info
  obtain ⟨m, hm⟩ : ∃ m, u.length = m := ⟨_, rfl⟩
  obtain ⟨n, hn⟩ : ∃ n, r.length = n := ⟨_, rfl⟩
  obtain ⟨M, hM⟩ : ∃ M, (u ++ r).length = M := ⟨_, rfl⟩
  obtain ⟨Gs, hGs, hE⟩ := dig_ok hK
  have hGb : ∀ w, Below W.heap.size W w → ∀ k o, (k, o) ∈ Gs → w.heap[k]? = some o := fun w hb k o h => by
    have h1 := hGs k o h
    rw [hb.block k (Array.getElem?_eq_some_iff.1 h1).1]; exact h1
  obtain ⟨c1, h1⟩ : ∃ c, decide ((m : Int) > 500) = c := ⟨_, rfl⟩
  obtain ⟨c2, h2⟩ : ∃ c, decide ((n : Int) > 500) = c := ⟨_, rfl⟩
  cases c1
  case true =>
    go_enter Tryz.func3, Tryz.ntmps3
    go_wp2_with (first
      | ((with_reducible change wpList _ _ _ (Oper.mk (some 3) _ _ _ _ _ :: _) _ _); refine kBoxD _ _ rfl rfl rfl ?_; intro w1 hR0 hz1 hB; clear hz1; have hR1 := row_dr hR0; clear hR0; go_frame)
      | (go_at_call 4; refine (labelAlive_any _ (hG.below hB)).mono ?_; rintro e w2 ⟨rfl, hB2⟩; have hR := hR1.below hB2; have hB3 := hB.trans (hB2.mono hB.size); have hu3 := hu.below hB3; have hr3 := hr.below hB3; have hs3 := hB3.size; clear hR1 hB hB2; go_frame)
      | ((with_reducible change wpList _ _ _ (Oper.mk (some 16) _ _ _ _ _ :: _) _ _); refine kLenN _ _ _ vu _ m rfl rfl rfl hu3 (by rw [List.length_map, hm]) Tryz.underlying26 ?_; go_frame)
      | ((with_reducible change wpList _ _ _ (Oper.mk (some 17) _ _ _ _ _ :: _) _ _); refine kGtrI _ _ _ _ .i64 (m : Int) 500 _ rfl rfl rfl rfl h1 ?_; go_frame)
      | ((with_reducible change wpList _ _ _ (Oper.mk (some 20) _ _ _ _ _ :: _) _ _); refine kLenN _ _ _ vr _ n rfl rfl rfl hr3 (by rw [List.length_map, hn]) Tryz.underlying26 ?_; go_frame)
      | ((with_reducible change wpList _ _ _ (Oper.mk (some 21) _ _ _ _ _ :: _) _ _); refine kGtrI _ _ _ _ .i64 (n : Int) 500 _ rfl rfl rfl rfl h2 ?_; go_frame))
    go_ret
    exact ⟨rfl, hB3⟩
  cases c2
  case true =>
    go_enter Tryz.func3, Tryz.ntmps3
    go_wp2_with (first
      | ((with_reducible change wpList _ _ _ (Oper.mk (some 3) _ _ _ _ _ :: _) _ _); refine kBoxD _ _ rfl rfl rfl ?_; intro w1 hR0 hz1 hB; clear hz1; have hR1 := row_dr hR0; clear hR0; go_frame)
      | (go_at_call 4; refine (labelAlive_any _ (hG.below hB)).mono ?_; rintro e w2 ⟨rfl, hB2⟩; have hR := hR1.below hB2; have hB3 := hB.trans (hB2.mono hB.size); have hu3 := hu.below hB3; have hr3 := hr.below hB3; have hs3 := hB3.size; clear hR1 hB hB2; go_frame)
      | ((with_reducible change wpList _ _ _ (Oper.mk (some 16) _ _ _ _ _ :: _) _ _); refine kLenN _ _ _ vu _ m rfl rfl rfl hu3 (by rw [List.length_map, hm]) Tryz.underlying26 ?_; go_frame)
      | ((with_reducible change wpList _ _ _ (Oper.mk (some 17) _ _ _ _ _ :: _) _ _); refine kGtrI _ _ _ _ .i64 (m : Int) 500 _ rfl rfl rfl rfl h1 ?_; go_frame)
      | ((with_reducible change wpList _ _ _ (Oper.mk (some 20) _ _ _ _ _ :: _) _ _); refine kLenN _ _ _ vr _ n rfl rfl rfl hr3 (by rw [List.length_map, hn]) Tryz.underlying26 ?_; go_frame)
      | ((with_reducible change wpList _ _ _ (Oper.mk (some 21) _ _ _ _ _ :: _) _ _); refine kGtrI _ _ _ _ .i64 (n : Int) 500 _ rfl rfl rfl rfl h2 ?_; go_frame))
    go_ret
    exact ⟨rfl, hB3⟩
  have k1 := of_decide_eq_false h1
  have k2 := of_decide_eq_false h2
  have hMl : M ≤ 1000 := by rw [← hM, List.length_append]; omega
  go_enter Tryz.func3, Tryz.ntmps3
  go_wp2_with (first
    | ((with_reducible change wpList _ _ _ (Oper.mk (some 3) _ _ _ _ _ :: _) _ _); refine kBoxD _ _ rfl rfl rfl ?_; intro w1 hR0 hz1 hB; clear hz1; have hR1 := row_dr hR0; clear hR0; go_frame)
    | (go_at_call 4; refine (labelAlive_any _ (hG.below hB)).mono ?_; rintro e w2 ⟨rfl, hB2⟩; have hR := hR1.below hB2; have hB3 := hB.trans (hB2.mono hB.size); have hu3 := hu.below hB3; have hr3 := hr.below hB3; have hs3 := hB3.size; clear hR1 hB hB2; go_frame)
    | ((with_reducible change wpList _ _ _ (Oper.mk (some 16) _ _ _ _ _ :: _) _ _); refine kLenN _ _ _ vu _ m rfl rfl rfl hu3 (by rw [List.length_map, hm]) Tryz.underlying26 ?_; go_frame)
    | ((with_reducible change wpList _ _ _ (Oper.mk (some 17) _ _ _ _ _ :: _) _ _); refine kGtrI _ _ _ _ .i64 (m : Int) 500 _ rfl rfl rfl rfl h1 ?_; go_frame)
    | ((with_reducible change wpList _ _ _ (Oper.mk (some 20) _ _ _ _ _ :: _) _ _); refine kLenN _ _ _ vr _ n rfl rfl rfl hr3 (by rw [List.length_map, hn]) Tryz.underlying26 ?_; go_frame)
    | ((with_reducible change wpList _ _ _ (Oper.mk (some 21) _ _ _ _ _ :: _) _ _); refine kGtrI _ _ _ _ .i64 (n : Int) 500 _ rfl rfl rfl rfl h2 ?_; go_frame)
    | ((with_reducible change wpList _ _ _ (Oper.mk (some 23) _ _ _ _ _ :: _) _ _); refine kBuildSlice0 _ _ rfl rfl Tryz.underlying26 i hi ?_; intro w4 hRr hzz hB4; clear hzz; have hO4 : OwnB w4 w2.heap.size _ [] := own_empty (Nat.le_refl _) hRr; clear hRr; have hu4 := hu3.below hB4; have hs4 := hB4.size; go_frame)
    | ((with_reducible change wpList _ _ _ (Oper.mk (some 25) _ _ _ _ _ :: _) _ _); refine kAppB _ _ rfl rfl w2.heap.size _ _ [] u hO4 hu4 rfl rfl (by simp; omega) hs4 ?_; intro v5 w5 hO5 hB5; rw [List.nil_append] at hO5; have hB6 := hB4.trans hB5; have hr6 := hr3.below hB6; have hs6 := hB6.size; clear hO4 hu4 hB4 hB5; go_frame)
    | ((with_reducible change wpList _ _ _ (Oper.mk (some 27) _ _ _ _ _ :: _) _ _); refine kAppB _ _ rfl rfl w2.heap.size _ _ u r hO5 hr6 rfl rfl (by omega) hs6 ?_; intro v7 w7 hO7 hB7; have hB8 := hB6.trans hB7; have hV7 := hO7.vals; have hR8 := hR.below hB8; have hu8 := hu3.below hB8; have hr8 := hr3.below hB8; have hB9 := hB3.trans (hB8.mono hs3); have hs9 := hB9.size; clear hO5 hr6 hB6 hB7 hO7 hB8 hR hu3 hr3 hB3; go_frame)
    | ((with_reducible change wpList _ _ _ (Oper.mk (some 28) _ _ _ _ _ :: _) _ _); refine kLenN _ _ _ v7 _ M rfl rfl rfl hV7 (by rw [List.length_map, hM]) Tryz.underlying26 ?_; go_frame))
  go_loopw [29] (fun i wr => ∃ j : Nat, j ≤ M ∧ i = .int .i64 j ∧ (∀ p, p < j → at8 (u ++ r) p ≠ 172 ∧ at8 (u ++ r) p ≠ 173) ∧ wr = w7) (fun i _ => M - (intOf i).toNat)
  case atStart => exact ⟨0, by omega, rfl, by intro p hp; omega, rfl⟩
  case round =>
    obtain ⟨j, hj, rfl, hall, rfl⟩ := hrel
    by_cases hlt : j < M
    · have hdd : decide ((j : Int) < (M : Int)) = true := by simp; omega
      have hjl : j < (u ++ r).length := by omega
      have hat := vb_at hjl
      obtain ⟨c, hc⟩ : ∃ c, at8 (u ++ r) j = c := ⟨_, rfl⟩
      rw [hc] at hat
      obtain ⟨b1, g1⟩ : ∃ b, decide (B c = 172) = b := ⟨_, rfl⟩
      obtain ⟨b2, g2⟩ : ∃ b, decide (B c = 173) = b := ⟨_, rfl⟩
      cases b1
      case true =>
        go_wp2_with (first
          | ((with_reducible change wpList _ _ _ (Oper.mk (some 30) _ _ _ _ _ :: _) _ _); refine kLssI _ _ _ _ .i64 (j : Int) (M : Int) true rfl rfl rfl rfl hdd ?_; go_frame)
          | ((with_reducible change wpList _ _ _ (Oper.mk (some 31) _ _ _ _ _ :: _) _ _); refine kIndexAddrV _ _ _ _ .i64 v7 _ (j : Int) j (VB c) rfl rfl rfl hV7 rfl Tryz.underlying26 info_b8P rfl hat ?_; intro b hb; go_frame)
          | ((with_reducible change wpList _ _ _ (Oper.mk (some 32) _ _ _ _ _ :: _) _ _); refine kLoadCell _ _ b (VB c) _ rfl rfl rfl hb Tryz.underlying5 rfl ?_; clear hb; go_frame)
          | ((with_reducible change wpList _ _ _ (Oper.mk (some 34) _ _ _ _ _ :: _) _ _); refine kEqlI _ _ _ _ .u8 (B c) 172 _ rfl rfl rfl rfl g1 ?_; go_frame)
          | ((with_reducible change wpList _ _ _ (Oper.mk (some 37) _ _ _ _ _ :: _) _ _); refine kEqlI _ _ _ _ .u8 (B c) 173 _ rfl rfl rfl rfl g2 ?_; go_frame))
        go_ret
        exact ⟨rfl, hB9⟩
      cases b2
      case true =>
        go_wp2_with (first
          | ((with_reducible change wpList _ _ _ (Oper.mk (some 30) _ _ _ _ _ :: _) _ _); refine kLssI _ _ _ _ .i64 (j : Int) (M : Int) true rfl rfl rfl rfl hdd ?_; go_frame)
          | ((with_reducible change wpList _ _ _ (Oper.mk (some 31) _ _ _ _ _ :: _) _ _); refine kIndexAddrV _ _ _ _ .i64 v7 _ (j : Int) j (VB c) rfl rfl rfl hV7 rfl Tryz.underlying26 info_b8P rfl hat ?_; intro b hb; go_frame)
          | ((with_reducible change wpList _ _ _ (Oper.mk (some 32) _ _ _ _ _ :: _) _ _); refine kLoadCell _ _ b (VB c) _ rfl rfl rfl hb Tryz.underlying5 rfl ?_; clear hb; go_frame)
          | ((with_reducible change wpList _ _ _ (Oper.mk (some 34) _ _ _ _ _ :: _) _ _); refine kEqlI _ _ _ _ .u8 (B c) 172 _ rfl rfl rfl rfl g1 ?_; go_frame)
          | ((with_reducible change wpList _ _ _ (Oper.mk (some 37) _ _ _ _ _ :: _) _ _); refine kEqlI _ _ _ _ .u8 (B c) 173 _ rfl rfl rfl rfl g2 ?_; go_frame))
        go_ret
        exact ⟨rfl, hB9⟩
      have n1 : c ≠ 172 := by rintro rfl; exact absurd g1 (by decide)
      have n2 : c ≠ 173 := by rintro rfl; exact absurd g2 (by decide)
      go_wp2_with (first
        | ((with_reducible change wpList _ _ _ (Oper.mk (some 30) _ _ _ _ _ :: _) _ _); refine kLssI _ _ _ _ .i64 (j : Int) (M : Int) true rfl rfl rfl rfl hdd ?_; go_frame)
        | ((with_reducible change wpList _ _ _ (Oper.mk (some 31) _ _ _ _ _ :: _) _ _); refine kIndexAddrV _ _ _ _ .i64 v7 _ (j : Int) j (VB c) rfl rfl rfl hV7 rfl Tryz.underlying26 info_b8P rfl hat ?_; intro b hb; go_frame)
        | ((with_reducible change wpList _ _ _ (Oper.mk (some 32) _ _ _ _ _ :: _) _ _); refine kLoadCell _ _ b (VB c) _ rfl rfl rfl hb Tryz.underlying5 rfl ?_; clear hb; go_frame)
        | ((with_reducible change wpList _ _ _ (Oper.mk (some 34) _ _ _ _ _ :: _) _ _); refine kEqlI _ _ _ _ .u8 (B c) 172 _ rfl rfl rfl rfl g1 ?_; go_frame)
        | ((with_reducible change wpList _ _ _ (Oper.mk (some 37) _ _ _ _ _ :: _) _ _); refine kEqlI _ _ _ _ .u8 (B c) 173 _ rfl rfl rfl rfl g2 ?_; go_frame)
        | ((with_reducible change wpList _ _ _ (Oper.mk (some 39) _ _ _ _ _ :: _) _ _); refine kAddI _ _ _ _ (j : Int) 1 ((j + 1 : Nat) : Int) (by omega) rfl rfl rfl rfl ?_; go_frame))
      go_roundw
      case rel => exact ⟨j + 1, by omega, rfl, fun p hp => by rcases Nat.lt_succ_iff_lt_or_eq.1 hp with h | rfl; exact hall p h; rw [hc]; exact ⟨n1, n2⟩, trivial⟩
      case measure => simp [intOf]; omega
    · have hdd : decide ((j : Int) < (M : Int)) = false := by simp; omega
      obtain rfl : j = M := by omega
      rw [← hM] at hall
      obtain ⟨qu, qr⟩ := quiet_of hall
      have eL := fun w (h : Counts w) (h1 : IsVals w vr (r.map VB)) => lbLock_any hd w h h1 (by omega)
      have hpl := fun b (h : lockS d r = some b) => opens_plain hd h qu qr (by omega) (by omega)
      clear hall
      cases hL : lockS d r with
      | none =>
        rw [hL] at eL
        go_wp2_with (first
          | ((with_reducible change wpList _ _ _ (Oper.mk (some 30) _ _ _ _ _ :: _) _ _); refine kLssI _ _ _ _ .i64 (j : Int) (j : Int) false rfl rfl rfl rfl hdd ?_; go_frame)
          | ((with_reducible change wpList _ _ _ (Oper.mk (some 41) _ _ _ _ _ :: _) _ _); refine kLoadD _ _ _ hR8 rfl rfl rfl ?_; go_frame)
          | (go_at_call 5; refine (eL _ (hG.below hB9) hr8).mono ?_; rintro e q1 ⟨bv, rfl, hX, hBB⟩; have hQ1 := hB9.trans (hBB.mono hs9); have hu9 := hu8.below hBB; have hr9 := hr8.below hBB; have hsq := hQ1.size; have hXv := hX.vals; clear hX hBB hu8 hr8; go_frame))
        go_ret
        exact ⟨rfl, hQ1⟩
      | some b =>
        rw [hL] at eL
        obtain ⟨e1, e2, f1, f2, he⟩ := hpl b hL
        have r1 := fun w (hb : Below W.heap.size W w) (h1 : IsVals w vu (u.map VB)) (h2 : IsVals w vr (r.map VB)) => scRun_any hE hs0_len hs0_one w (hGb w hb) h1 h2 f1
        have r2 := fun w v (hb : Below W.heap.size W w) (h1 : IsVals w vu (u.map VB)) (h2 : IsVals w v (b.map VB)) => scRun_any hE hs0_len hs0_one w (hGb w hb) h1 h2 f2
        clear f1 f2 hpl
        obtain ⟨t1, g1⟩ : ∃ t, decide ((e1 : Int) = (e2 : Int)) = t := ⟨_, rfl⟩
        have g2 : t1 = false → decide ((e2 : Int) = 73) = true := by
          rintro rfl
          have := of_decide_eq_false g1
          rcases he with h | h
          · omega
          · simp [h]
        cases t1
        · have g3 := g2 rfl
          clear g2
          go_wp2_with (first
            | ((with_reducible change wpList _ _ _ (Oper.mk (some 30) _ _ _ _ _ :: _) _ _); refine kLssI _ _ _ _ .i64 (j : Int) (j : Int) false rfl rfl rfl rfl hdd ?_; go_frame)
            | ((with_reducible change wpList _ _ _ (Oper.mk (some 41) _ _ _ _ _ :: _) _ _); refine kLoadD _ _ _ hR8 rfl rfl rfl ?_; go_frame)
            | (go_at_call 5; refine (eL _ (hG.below hB9) hr8).mono ?_; rintro e q1 ⟨bv, rfl, hX, hBB⟩; have hQ1 := hB9.trans (hBB.mono hs9); have hu9 := hu8.below hBB; have hr9 := hr8.below hBB; have hsq := hQ1.size; have hXv := hX.vals; clear hX hBB hu8 hr8; go_frame)
            | ((with_reducible change wpList _ _ _ (Oper.mk (some 50) _ _ _ _ _ :: _) _ _); refine kBuildAny _ _ #[] _ rfl rfl (by simp) built_hash0J ?_; go_frame)
            | (go_at_call 6; (with_reducible change Calls _ _ #[vu, vr, _] _ _); refine (r1 _ hQ1 hu9 hr9).mono ?_; rintro e q2 ⟨rfl, hBB⟩; have hQ2 := hQ1.trans (hBB.mono hsq); have hu10 := hu9.below hBB; have hX2 := hXv.below hBB; have hsq2 := hQ2.size; clear hBB hu9 hr9 hXv hQ1 r1; go_frame)
            | ((with_reducible change wpList _ _ _ (Oper.mk (some 54) _ _ _ _ _ :: _) _ _); refine kBuildAny _ _ #[] _ rfl rfl (by simp) built_hash0J ?_; go_frame)
            | (go_at_call 6; refine (r2 _ _ hQ2 hu10 hX2).mono ?_; rintro e q3 ⟨rfl, hBB⟩; have hQ3 := hQ2.trans (hBB.mono hsq2); clear hBB hu10 hX2 hQ2; go_frame)
            | ((with_reducible change wpList _ _ _ (Oper.mk (some 58) _ _ _ _ _ :: _) _ _); refine kEqlI _ _ _ _ .i64 (e1 : Int) (e2 : Int) _ rfl rfl rfl rfl g1 ?_; go_frame)
            | ((with_reducible change wpList _ _ _ (Oper.mk (some 61) _ _ _ _ _ :: _) _ _); refine kEqlI _ _ _ _ .i64 (e2 : Int) 73 true rfl rfl rfl rfl g3 ?_; go_frame))
          go_ret
          exact ⟨rfl, hQ3⟩
        · clear g2
          go_wp2_with (first
            | ((with_reducible change wpList _ _ _ (Oper.mk (some 30) _ _ _ _ _ :: _) _ _); refine kLssI _ _ _ _ .i64 (j : Int) (j : Int) false rfl rfl rfl rfl hdd ?_; go_frame)
            | ((with_reducible change wpList _ _ _ (Oper.mk (some 41) _ _ _ _ _ :: _) _ _); refine kLoadD _ _ _ hR8 rfl rfl rfl ?_; go_frame)
            | (go_at_call 5; refine (eL _ (hG.below hB9) hr8).mono ?_; rintro e q1 ⟨bv, rfl, hX, hBB⟩; have hQ1 := hB9.trans (hBB.mono hs9); have hu9 := hu8.below hBB; have hr9 := hr8.below hBB; have hsq := hQ1.size; have hXv := hX.vals; clear hX hBB hu8 hr8; go_frame)
            | ((with_reducible change wpList _ _ _ (Oper.mk (some 50) _ _ _ _ _ :: _) _ _); refine kBuildAny _ _ #[] _ rfl rfl (by simp) built_hash0J ?_; go_frame)
            | (go_at_call 6; (with_reducible change Calls _ _ #[vu, vr, _] _ _); refine (r1 _ hQ1 hu9 hr9).mono ?_; rintro e q2 ⟨rfl, hBB⟩; have hQ2 := hQ1.trans (hBB.mono hsq); have hu10 := hu9.below hBB; have hX2 := hXv.below hBB; have hsq2 := hQ2.size; clear hBB hu9 hr9 hXv hQ1 r1; go_frame)
            | ((with_reducible change wpList _ _ _ (Oper.mk (some 54) _ _ _ _ _ :: _) _ _); refine kBuildAny _ _ #[] _ rfl rfl (by simp) built_hash0J ?_; go_frame)
            | (go_at_call 6; refine (r2 _ _ hQ2 hu10 hX2).mono ?_; rintro e q3 ⟨rfl, hBB⟩; have hQ3 := hQ2.trans (hBB.mono hsq2); clear hBB hu10 hX2 hQ2; go_frame)
            | ((with_reducible change wpList _ _ _ (Oper.mk (some 58) _ _ _ _ _ :: _) _ _); refine kEqlI _ _ _ _ .i64 (e1 : Int) (e2 : Int) _ rfl rfl rfl rfl g1 ?_; go_frame))
          go_ret
          exact ⟨rfl, hQ3⟩
end Go.Proofs.YtnaclalbeocpkaaGreatDoor
