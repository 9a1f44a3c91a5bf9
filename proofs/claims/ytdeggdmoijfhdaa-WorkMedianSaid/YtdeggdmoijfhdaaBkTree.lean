/-
  Layer 11: a drawn region by a plan that is a tree: where two operations may come next, both are followed.
-/
import Derived.Test.YtdeggdmoijfhdaaKitAll
namespace Go.Proofs.Ytdeggdmoijfhdaa
open Go Go.RowKit

inductive PT
  | fin
  | q (k : Nat) (t : PT)
  | one (k : Nat) (t : PT)
  | two (k : Nat) (t : PT) (k' : Nat) (t' : PT)
  | three (k : Nat) (t : PT) (k' : Nat) (t' : PT) (j : Nat) (u : PT)
def PT.depth : PT → Nat
  | fin => 0
  | q _ t => t.depth + 1
  | one _ t => t.depth + 1
  | two _ t _ _ => t.depth + 1
  | three _ t _ _ _ _ => t.depth + 1
def okPT (md : Region.Mode) (ops : Array Oper) : PT → Array Bool → Bool
  | .fin, listed => decide (Region.ready md ops listed = [])
  | .q k t, listed => decide (k < ops.size) && (Region.ready md ops listed).contains k && Region.free md ops listed k && okPT md ops t (listed.setIfInBounds k true)
  | .one k t, listed => decide (k < ops.size) && decide (Region.ready md ops listed = [k]) && okPT md ops t (listed.setIfInBounds k true)
  | .two k t k' t', listed => decide (k < ops.size) && decide (k' < ops.size) && decide (Region.ready md ops listed = [k, k']) && decide (t'.depth = t.depth) && okPT md ops t (listed.setIfInBounds k true) && okPT md ops t' (listed.setIfInBounds k' true)
  | .three k t k' t' j u, listed => decide (k < ops.size) && decide (k' < ops.size) && decide (j < ops.size) && decide (Region.ready md ops listed = [k, k', j]) && decide (t'.depth = t.depth) && decide (u.depth = t.depth) && okPT md ops t (listed.setIfInBounds k true) && okPT md ops t' (listed.setIfInBounds k' true) && okPT md ops u (listed.setIfInBounds j true)
section
variable {P : Program} {ops : Array Oper} {md : Region.Mode} {Q : Exit → Act → World → Prop}
/-- one operation, then the rest -/
def thenT (P : Program) (ops : Array Oper) (Q : Exit → Act → World → Prop) (S : World → Prop) (K : (World → Prop) → Act → World → Prop) (k : Nat) (a : Act) (w : World) : Prop :=
  ∃ o, ops[k]? = some o ∧ wpList P ops (Exit.then (fun a' w' => ∃ S' : World → Prop, (∀ w, S' w → S w) ∧ S' w' ∧ K S' a' w') (NoPanic Q)) [o] a w
/-- the end (behind a name: the walk does not look into it) -/
def DoneT (L : Act → World → Prop) (a : Act) (w : World) : Prop := L a w
def wpPT (P : Program) (ops : Array Oper) (Q : Exit → Act → World → Prop) (L : Act → World → Prop) : PT → (World → Prop) → Act → World → Prop
  | .fin, _, a, w => DoneT L a w
  | .q k t, S, a, w => S w ∧ ∃ o v, ops[k]? = some o ∧ YieldsIf P ops S o v a ∧ wpPT P ops Q L t S (a.put o.dst v) w
  | .one k t, S, a, w => thenT P ops Q S (wpPT P ops Q L t) k a w
  | .two k t k' t', S, a, w => thenT P ops Q S (wpPT P ops Q L t) k a w ∧ thenT P ops Q S (wpPT P ops Q L t') k' a w
  | .three k t k' t' j u, S, a, w => thenT P ops Q S (wpPT P ops Q L t) k a w ∧ thenT P ops Q S (wpPT P ops Q L t') k' a w ∧ thenT P ops Q S (wpPT P ops Q L u) j a w
theorem headMixD_ofT {Lq : Act → World → Prop} (hsel : Region.noSelect ops = true) :
    ∀ (t : PT) (S : World → Prop) (listed : Array Bool) (a : Act) (w : World), okPT md ops t listed = true → wpPT P ops Q Lq t S a w →
    headMixD P md ops (NoPanic Q) (fun listed' a' w' => Region.ready md ops listed' = [] ∧ Lq a' w') t.depth S listed a w
  | .fin, _, listed, a, w, hB, h => ⟨by simpa [okPT] using hB, h⟩
  | .q k t, S, listed, a, w, hB, h => by
    simp only [okPT, Bool.and_eq_true, decide_eq_true_eq] at hB
    obtain ⟨⟨⟨hkn, hr⟩, hf⟩, hB'⟩ := hB
    have hr' : k ∈ Region.ready md ops listed := by simpa using hr
    obtain ⟨hS, o, v, h0, hy, hK⟩ := h
    exact headMixD_take h0 (Region.noSelect_spec hsel) (fun _ _ _ hx => hx) (fun _ _ _ hL => hL.1) t.depth S listed a w (Region.free_spec h0 hf) hr' hy hS (headMixD_ofT hsel t S _ _ _ hB' hK)
  | .one k t, S, listed, a, w, hB, h => by
    simp only [okPT, Bool.and_eq_true, decide_eq_true_eq] at hB
    obtain ⟨⟨hkn, hr⟩, hB'⟩ := hB
    obtain ⟨o, h0, h⟩ := h
    refine ⟨by rw [hr]; simp, fun i hi => ?_⟩
    rw [hr] at hi
    obtain rfl : i = k := by simpa using hi
    exact wpOp_mono (fun a' w' ⟨S', hle, hS', h'⟩ => ⟨S', hle, hS', headMixD_ofT hsel t S' _ _ _ hB' h'⟩) (wpOp_of_list h0 h)
  | .two k t k' t', S, listed, a, w, hB, h => by
    simp only [okPT, Bool.and_eq_true, decide_eq_true_eq] at hB
    obtain ⟨⟨⟨⟨⟨hkn, hkn'⟩, hr⟩, hd⟩, hB1⟩, hB2⟩ := hB
    obtain ⟨⟨o, h0, h⟩, o', h0', h'⟩ := h
    refine ⟨by rw [hr]; simp, fun i hi => ?_⟩
    rw [hr] at hi
    rcases (by simpa using hi : i = k ∨ i = k') with rfl | rfl
    · exact wpOp_mono (fun a' w' ⟨S', hle, hS', h'⟩ => ⟨S', hle, hS', headMixD_ofT hsel t S' _ _ _ hB1 h'⟩) (wpOp_of_list h0 h)
    · refine wpOp_mono (fun a' w' ⟨S', hle, hS', h'⟩ => ⟨S', hle, hS', ?_⟩) (wpOp_of_list h0' h')
      have := headMixD_ofT hsel t' S' _ _ _ hB2 h'
      rw [hd] at this
      exact this
  | .three k t k' t' j u, S, listed, a, w, hB, h => by
    simp only [okPT, Bool.and_eq_true, decide_eq_true_eq] at hB
    obtain ⟨⟨⟨⟨⟨⟨⟨⟨hkn, hkn'⟩, hjn⟩, hr⟩, hd⟩, hd2⟩, hB1⟩, hB2⟩, hB3⟩ := hB
    obtain ⟨⟨o, h0, h⟩, ⟨o', h0', h'⟩, o2, h02, h2⟩ := h
    refine ⟨by rw [hr]; simp, fun i hi => ?_⟩
    rw [hr] at hi
    rcases (by simpa using hi : i = k ∨ i = k' ∨ i = j) with rfl | rfl | rfl
    · exact wpOp_mono (fun a' w' ⟨S', hle, hS', h'⟩ => ⟨S', hle, hS', headMixD_ofT hsel t S' _ _ _ hB1 h'⟩) (wpOp_of_list h0 h)
    · refine wpOp_mono (fun a' w' ⟨S', hle, hS', h'⟩ => ⟨S', hle, hS', ?_⟩) (wpOp_of_list h0' h')
      have := headMixD_ofT hsel t' S' _ _ _ hB2 h'
      rw [hd] at this
      exact this
    · refine wpOp_mono (fun a' w' ⟨S', hle, hS', h'⟩ => ⟨S', hle, hS', ?_⟩) (wpOp_of_list h02 h2)
      have := headMixD_ofT hsel u S' _ _ _ hB3 h'
      rw [hd2] at this
      exact this
/-- a region that draws its order, by a plan that is a tree -/
theorem region_tree {id : Nat} {a : Act} {w : World} {l : List Oper} (t : PT) (S : World → Prop) (hm : P.follows .mixedOrders = true) (hB : (Region.noSelect l.toArray && decide (t.depth = l.length) && okPT .any l.toArray t (Array.replicate l.length false)) = true)
    (h : ∀ w1, Below w.heap.size w w1 → w1.heap.size = w.heap.size → wpPT P l.toArray Q (fun a' w' => Q .normal a' w') t S a w1) : (Code.region id l.toArray true).wp P Q a w := by
  have h := h { w with drawn := w.drawn + 1 } ⟨rfl, rfl, rfl, Nat.le_refl _, fun _ _ => rfl⟩ rfl
  simp only [Bool.and_eq_true, decide_eq_true_eq] at hB
  obtain ⟨⟨hsel, hlen⟩, hlex⟩ := hB
  have hsz : l.toArray.size = l.length := by simp
  rw [← hsz] at hlex
  have H := headMixD_ofT (md := .any) hsel t S _ a _ hlex h
  refine wp_region_any hm ?_
  have := any_of_headMixD (g := 0) (fun listed a' w' hL => (⟨hL.1, hL.2⟩ : wpAny P .any l.toArray Q 0 listed a' w')) _ _ _ _ _ H
  rw [Nat.add_zero, hlen, ← hsz] at this
  exact this
variable {L : Act → World → Prop} {o : Oper} {a : Act} {w : World} {S : World → Prop}
/-- the steps -/
theorem tY {k : Nat} {t : PT} (v : Value) (hS : S w) (h0 : ops.toList[k]? = some o) (hy : YieldsIf P ops S o v a) (h : wpPT P ops Q L t S (a.put o.dst v) w) : wpPT P ops Q L (.q k t) S a w := ⟨hS, o, v, by rw [← Array.getElem?_toList]; exact h0, hy, h⟩
theorem tOne {k : Nat} {t : PT} (h0 : ops.toList[k]? = some o) (h : wpList P ops (Exit.then (fun a' w' => ∃ S' : World → Prop, (∀ w, S' w → S w) ∧ S' w' ∧ wpPT P ops Q L t S' a' w') (NoPanic Q)) [o] a w) : wpPT P ops Q L (.one k t) S a w := ⟨o, by rw [← Array.getElem?_toList]; exact h0, h⟩
theorem tTwo {k k' : Nat} {t t' : PT} {o' : Oper} (h0 : ops.toList[k]? = some o) (h0' : ops.toList[k']? = some o') (h : wpList P ops (Exit.then (fun a' w' => ∃ S' : World → Prop, (∀ w, S' w → S w) ∧ S' w' ∧ wpPT P ops Q L t S' a' w') (NoPanic Q)) [o] a w) (h' : wpList P ops (Exit.then (fun a' w' => ∃ S' : World → Prop, (∀ w, S' w → S w) ∧ S' w' ∧ wpPT P ops Q L t' S' a' w') (NoPanic Q)) [o'] a w) : wpPT P ops Q L (.two k t k' t') S a w := ⟨⟨o, by rw [← Array.getElem?_toList]; exact h0, h⟩, o', by rw [← Array.getElem?_toList]; exact h0', h'⟩
theorem tThree {k k' j : Nat} {t t' u : PT} {o' o2 : Oper} (h0 : ops.toList[k]? = some o) (h0' : ops.toList[k']? = some o') (h02 : ops.toList[j]? = some o2) (h : wpList P ops (Exit.then (fun a' w' => ∃ S' : World → Prop, (∀ w, S' w → S w) ∧ S' w' ∧ wpPT P ops Q L t S' a' w') (NoPanic Q)) [o] a w) (h' : wpList P ops (Exit.then (fun a' w' => ∃ S' : World → Prop, (∀ w, S' w → S w) ∧ S' w' ∧ wpPT P ops Q L t' S' a' w') (NoPanic Q)) [o'] a w) (h2 : wpList P ops (Exit.then (fun a' w' => ∃ S' : World → Prop, (∀ w, S' w → S w) ∧ S' w' ∧ wpPT P ops Q L u S' a' w') (NoPanic Q)) [o2] a w) : wpPT P ops Q L (.three k t k' t' j u) S a w := ⟨⟨o, by rw [← Array.getElem?_toList]; exact h0, h⟩, ⟨o', by rw [← Array.getElem?_toList]; exact h0', h'⟩, o2, by rw [← Array.getElem?_toList]; exact h02, h2⟩
theorem tDone (h : L a w) : wpPT P ops Q L .fin S a w := h
end
end Go.Proofs.Ytdeggdmoijfhdaa
