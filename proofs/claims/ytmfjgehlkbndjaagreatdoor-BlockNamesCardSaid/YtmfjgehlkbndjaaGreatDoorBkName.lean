/-
  Layer 11: for BlockNames: two blocks that cannot be.
-/
import Derived.Test.YtmfjgehlkbndjaaGreatDoorBkC
namespace Go.Proofs.YtmfjgehlkbndjaaGreatDoor
open Go Go.RowKit Go.Shelf

theorem set_root0 (a : Value) (A B : List Value) (l : List UInt8) (c : UInt8) (hA : A.length = 32) (hl : l.length = 32) : (a :: (A ++ (l.map VB ++ B))).set 33 (VB c) = a :: (A ++ ((l.set 0 c).map VB ++ B)) := by
  match l, hl with
  | x :: r, _ =>
    show a :: ((A ++ ((x :: r).map VB ++ B)).set 32 (VB c)) = _
    rw [List.set_append_right _ _ (by omega), hA]
    rfl
theorem headR_root0 {h : HeadP} (hh : h.root.length = 32) (c : UInt8) : (headR h).set 33 (VB c) = headR { h with root := h.root.set 0 c } := by
  have e2 := list_at32 (l := h.root.set 0 c) (n := 32) (by rw [List.length_set]; exact hh)
  unfold headR
  dsimp only
  rw [list_at32 hh, e2]
  exact set_root0 _ _ _ _ _ (by simp) hh
theorem blkC_root0 {h : HeadP} (hh : h.root.length = 32) (v : Value) (c : UInt8) : (blkC h v).setIfInBounds 33 (VB c) = blkC { h with root := h.root.set 0 c } v := by
  unfold blkC blkR
  apply Array.toList_inj.1
  rw [Array.toList_setIfInBounds]
  show (headR h ++ [v]).set 33 (VB c) = _
  rw [List.set_append_left _ _ (by rw [headR_len]; decide), headR_root0 hh]
def badB : BlockP := ⟨{ plainB.head with root := (idL one11).set 0 (at8 (idL one11) 0 + 1) }, [one11]⟩
set_option maxRecDepth 100000 in
theorem bad_is : badB.Is := ⟨⟨by show (0 : Nat) < 4294967296; decide, rfl, by show ((idL one11).set 0 _).length = 32; rw [List.length_set]; exact idL_len _, by show (7 : Nat) < 4294967296; decide, by show (0 : Nat) < 4294967296; decide, by show (0 : Nat) < 4294967296; decide⟩, plain_is.2⟩
theorem bad_fits : badB.Fits := ⟨by show (1 : Nat) ≤ 100; decide, fun t ht => by
  have h : t ∈ [one11] := ht
  simp at h; subst h; exact one_fits⟩
theorem bad_len : (blockL badB).length ≤ 20000 := by
  have h1 := headL_len bad_is.1
  have h2 := countL_le 1
  have h3 := one_len
  show (headL badB.head ++ (countL 1 ++ txsL [one11])).length ≤ 20000
  rw [List.length_append, List.length_append, h1, show txsL [one11] = txL one11 by simp [txsL]]
  omega
theorem set_ne {l : List UInt8} (h : l.length = 32) : l.set 0 (at8 l 0 + 1) ≠ l := by
  match l, h with
  | x :: r, _ =>
    intro e
    have e1 : at8 (x :: r) 0 + 1 = x := (List.cons.inj e).1
    have e2 : at8 (x :: r) 0 = x := rfl
    rw [e2] at e1
    have e3 := congrArg UInt8.toNat e1
    rw [UInt8.toNat_add] at e3
    have := x.toNat_lt
    simp at e3
    omega
theorem bad_check : checkB badB = 111 := by
  unfold checkB
  rw [if_neg (by simp [badB]), if_neg (by have := bad_len; omega), if_neg (by show ¬ (baseB one11.ins && !(([] : List TxP).any fun t => baseB t.ins)) = false; rw [one_base]; simp), show firstE badB.txs = 0 by show (if checkN one11 ≠ 0 then checkN one11 else 0) = 0; rw [one_check]; rfl, if_neg (by simp), show rootL (idsL badB.txs) = (idL one11, false) from rootL_one _]
  exact if_pos (.inl fun e => set_ne (idL_len one11) e.symm)
def dupB11 : BlockP := ⟨plainB.head, [one11, one11]⟩
theorem dup_is : dupB11.Is := ⟨plain_is.1, fun t ht => by simp [dupB11] at ht; subst ht; exact one_is⟩
theorem dup_fits : dupB11.Fits := ⟨by decide, fun t ht => by simp [dupB11] at ht; subst ht; exact one_fits⟩
theorem dup_check : checkB dupB11 = 111 := by
  have hl : (blockL dupB11).length ≤ 20000 := by
    have h1 := headL_len dup_is.1
    have h2 := countL_le 2
    have h3 := one_len
    show (headL plainB.head ++ (countL 2 ++ txsL [one11, one11])).length ≤ 20000
    rw [List.length_append, List.length_append, show (headL plainB.head).length = 80 from h1, show txsL [one11, one11] = txL one11 ++ txL one11 by simp [txsL], List.length_append]
    omega
  unfold checkB
  rw [if_neg (by simp [dupB11]), if_neg (by omega)]
  exact if_pos (by show (baseB one11.ins && !(([one11] : List TxP).any fun t => baseB t.ins)) = false; simp [one_base])
theorem no_check : checkB noBlock = 111 := by
  unfold checkB
  exact if_pos rfl
end Go.Proofs.YtmfjgehlkbndjaaGreatDoor
