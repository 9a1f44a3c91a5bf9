/-
  Joined: BkPlain, BkCells, BkKit, BkWrite, BkBytes, BkRead.
-/
import Derived.Test.YtmfjgehlkbndjaaGreatDoorTxChAll
import Derived.Test.YtmfjgehlkbndjaaGreatDoorTxReAll
import Derived.Test.YtmfjgehlkbndjaaGreatDoorTxBase
import Derived.Test.YtmfjgehlkbndjaaGreatDoorLawStruct
/-
  Layer 11, plain: heads and blocks as bytes, read again as they were written; what stands for all hashes; whether a block can be.
-/
namespace Go.Proofs.YtmfjgehlkbndjaaGreatDoor
open Go Go.RowKit

/-! ### what was read is what is written -/
def Exact {α : Type} (f : Scn → α × Scn) (e : α → List UInt8) : Prop := ∀ s, (f s).2.err = 0 → s.err = 0 ∧ e (f s).1 ++ (f s).2.rest = s.rest
theorem exact_fixed {k : Nat} (hk : k ≤ 8) : Exact (fun s => fixedS s (k : Int)) (fun n => fixedL n k) := fun _ h => ⟨fixed_ok h, (fixed_alone hk h).1⟩
theorem exact_text {m : Nat} : Exact (fun s => textS s (m : Int)) textL := fun _ h => ⟨text_ok h, (text_alone h).1⟩
theorem exact_count (m : Nat) : Exact (fun s => countS s m) countL := fun s h => by
  have h0 := count_ok h
  obtain ⟨b, k⟩ := s
  dsimp only at h0
  subst h0
  exact ⟨rfl, (count_alone (b := b) (most := m) (n := (countS ⟨b, 0⟩ m).1) (s := (countS ⟨b, 0⟩ m).2) rfl h).2.2⟩
theorem exact_raw {n : Nat} (hn : 1 ≤ n) : Exact (fun s => rawS s (n : Int)) (fun l => l) := fun s h => by
  have h' : (rawS s (n : Int)).2.err = 0 := h
  show s.err = 0 ∧ (rawS s (n : Int)).1 ++ (rawS s (n : Int)).2.rest = s.rest
  unfold rawS at h' ⊢
  split at h'
  · rename_i hc; rw [if_pos hc]; rcases hc with hc | hc
    · exact absurd h' hc
    · omega
  · rename_i hc
    rw [if_neg hc]
    split at h'
    · cases h'
    · rename_i hd
      rw [if_neg hd]
      refine ⟨by omega, ?_⟩
      simp
theorem listS_len {α : Type} (f : Scn → α × Scn) : ∀ (n : Nat) (s : Scn), (listS f n s).1.length = n
  | 0, _ => rfl
  | n + 1, s => by show ((listS f n (f s).2).1.length + 1) = n + 1; rw [listS_len f n]
theorem exact_list {α : Type} {f : Scn → α × Scn} {e : α → List UInt8} (hf : Exact f e) : ∀ n, Exact (listS f n) (fun l => (l.map e).flatten)
  | 0, s, h => ⟨h, rfl⟩
  | n + 1, s, h => by
    have h1 := exact_list hf n (f s).2 h
    have h2 := hf s h1.1
    refine ⟨h2.1, ?_⟩
    show ((f s).1 :: (listS f n (f s).2).1 |>.map e).flatten ++ (listS f n (f s).2).2.rest = s.rest
    rw [List.map_cons, List.flatten_cons, List.append_assoc, h1.2, h2.2]
theorem exact_ref : Exact refS (fun p => refL p.1 p.2) := fun s h => by
  unfold refS at h ⊢
  split at h
  · rename_i hc; exact absurd h hc
  · rename_i hc
    rw [if_neg hc]
    have h1 := exact_fixed (k := 4) (by decide) (rawS s 32).2 h
    have h2 := exact_raw (n := 32) (by decide) s h1.1
    refine ⟨h2.1, ?_⟩
    show refL (rawS s 32).1 (fixedS (rawS s 32).2 4).1 ++ (fixedS (rawS s 32).2 4).2.rest = s.rest
    unfold refL
    rw [List.append_assoc]
    exact (congrArg _ h1.2).trans h2.2
theorem exact_out : Exact outS outPL := fun s h => by
  unfold outS at h ⊢
  split at h
  · rename_i hc; exact absurd h hc
  · rename_i hc
    rw [if_neg hc]
    have h1 := exact_text (m := 2000) (fixedS s 8).2 h
    have h2 := exact_fixed (k := 8) (by decide) s h1.1
    have h3 := (fixed_alone (s := s) (k := 8) (by decide) h1.1).2
    refine ⟨h2.1, ?_⟩
    show outL (i64Z (fixedS s 8).1) (textS (fixedS s 8).2 2000).1 ++ (textS (fixedS s 8).2 2000).2.rest = s.rest
    unfold outL
    rw [u64_back (by have e : (256 : Nat) ^ 8 = 18446744073709551616 := by decide
                     rw [e] at h3; exact h3), List.append_assoc]
    exact (congrArg _ h1.2).trans h2.2
theorem exact_in : Exact inS inL := fun s h => by
  have h1 := exact_fixed (k := 4) (by decide) (textS (refS s).2 2000).2 h
  have h2 := exact_text (m := 2000) (refS s).2 h1.1
  have h3 := exact_ref s h2.1
  refine ⟨h3.1, ?_⟩
  show refL (refS s).1.1 (refS s).1.2 ++ (textL (textS (refS s).2 2000).1 ++ fixedL (fixedS (textS (refS s).2 2000).2 4).1 4) ++ (fixedS (textS (refS s).2 2000).2 4).2.rest = s.rest
  rw [List.append_assoc, List.append_assoc]
  exact (congrArg _ ((congrArg _ h1.2).trans h2.2)).trans h3.2
theorem exact_rawTx : Exact rawTx txL := fun s h => by
  rw [rawTx_eq] at h ⊢
  have h1 := exact_fixed (k := 4) (by decide) (outsS (insS (fixedS s 4).2).2).2 h
  have h2 := exact_list exact_out _ _ h1.1
  have h3 := exact_count 200 _ h2.1
  have h4 := exact_list exact_in _ _ h3.1
  have h5 := exact_count 200 _ h4.1
  have h6 := exact_fixed (k := 4) (by decide) s h5.1
  refine ⟨h6.1, ?_⟩
  have e1 : (insS (fixedS s 4).2).1.length = (countS (fixedS s 4).2 200).1 := listS_len _ _ _
  have e2 : (outsS (insS (fixedS s 4).2).2).1.length = (countS (insS (fixedS s 4).2).2 200).1 := listS_len _ _ _
  show txL _ ++ (fixedS (outsS (insS (fixedS s 4).2).2).2 4).2.rest = s.rest
  unfold txL
  dsimp only
  rw [e1, e2]
  simp only [List.append_assoc]
  exact (congrArg _ ((congrArg _ ((congrArg _ ((congrArg _ ((congrArg _ h1.2).trans h2.2)).trans h3.2)).trans h4.2)).trans h5.2)).trans h6.2
theorem exact_read : Exact readS txL := fun s h => by
  unfold readS at h ⊢
  split at h
  · rename_i hc; exact absurd h hc
  · rename_i hc; rw [if_neg hc]; exact exact_rawTx s h
/-! ### what is read can be -/
theorem text_le2000K (s : Scn) : (textS s 2000).1.length ≤ 2000 := by
  have h := count_le s 2000
  unfold textS
  split
  · simp
  · split
    · simp
    · rw [List.length_take]; exact Nat.le_trans (Nat.min_le_left _ _) h
theorem out_goodK (s : Scn) : outOk (outS s).1 ∧ (outS s).1.2.length ≤ 2000 := by
  unfold outS
  split
  · exact ⟨⟨by show (-9223372036854775808 : Int) ≤ 0; decide, by show (0 : Int) < 9223372036854775808; decide⟩, Nat.zero_le _⟩
  · exact ⟨i64_bounds _, text_le2000K _⟩
theorem ref_at_ltK (s : Scn) : (refS s).1.2 < 4294967296 := by
  unfold refS
  split
  · exact (by decide : (0 : Nat) < 4294967296)
  · exact fixed4_lt _
theorem list_allK {α : Type} {f : Scn → α × Scn} {P : α → Prop} (hf : ∀ s, P (f s).1) : ∀ (n : Nat) (s : Scn), ∀ x ∈ (listS f n s).1, P x
  | 0, _, x, h => by cases h
  | n + 1, s, x, h => by
    rcases List.mem_cons.1 h with rfl | h
    · exact hf s
    · exact list_allK hf n _ x h
theorem noTx_isK : noTx.Is := ⟨by decide, by decide, (fun i hi => by cases hi), (fun x hx => by cases hx)⟩
theorem noTx_fitsK : noTx.Fits := ⟨by decide, by decide, (fun i hi => by cases hi), (fun x hx => by cases hx)⟩
theorem raw_goodK (s : Scn) : (rawTx s).1.Is ∧ (rawTx s).1.Fits := by
  rw [rawTx_eq]
  refine ⟨⟨fixed4_lt _, fixed4_lt _, ?_, ?_⟩, ⟨?_, ?_, ?_, ?_⟩⟩
  · exact list_allK (P := InP.Is) (fun s => ⟨refS_len _, ref_at_ltK _, fixed4_lt _⟩) _ _
  · exact list_allK (P := outOk) (fun s => (out_goodK s).1) _ _
  · show (listS inS _ _).1.length ≤ 200
    rw [listS_len]; exact count_le _ _
  · show (listS outS _ _).1.length ≤ 200
    rw [listS_len]; exact count_le _ _
  · exact list_allK (P := fun i : InP => i.unlock.length ≤ 2000) (fun s => text_le2000K _) _ _
  · exact list_allK (P := fun i : Int × List UInt8 => i.2.length ≤ 2000) (fun s => (out_goodK s).2) _ _
theorem read_goodK (s : Scn) : (readS s).1.Is ∧ (readS s).1.Fits := by
  unfold readS
  split
  · exact ⟨noTx_isK, noTx_fitsK⟩
  · exact raw_goodK s
theorem raw_tx_bad {s : Scn} (hs : s.err ≠ 0) : (rawTx s).2 = s := by
  have e : ∀ n (s : Scn), s.err ≠ 0 → (listS inS n s).2 = s := listS_bad in_bad
  have e' : ∀ n (s : Scn), s.err ≠ 0 → (listS outS n s).2 = s := listS_bad out_bad
  rw [rawTx_eq]
  have h1 : (fixedS s 4).2 = s := by rw [fixed_bad hs]
  have h2 : (insS s).2 = s := by show (listS inS _ (countS s 200).2).2 = s; rw [cnt_bad s hs]; exact e _ s hs
  have h3 : (outsS s).2 = s := by show (listS outS _ (countS s 200).2).2 = s; rw [cnt_bad s hs]; exact e' _ s hs
  dsimp only
  rw [h1, h2, h3, h1]
theorem read_bad (s : Scn) (hs : s.err ≠ 0) : (readS s).2 = s := by
  unfold readS
  rw [raw_tx_bad hs, if_pos hs]
theorem good_read {t : TxP} (h : t.Is) (hf : t.Fits) : Good readS (txL t) t := ⟨tx_back h hf, fun _ hk => (tx_cut h hf hk).1, read_bad⟩

/-! ### heads -/
structure HeadP where
  version : Nat
  prev : List UInt8
  root : List UInt8
  time : Nat
  bits : Nat
  nonce : Nat
def HeadP.Is (h : HeadP) : Prop := h.version < 4294967296 ∧ h.prev.length = 32 ∧ h.root.length = 32 ∧ h.time < 4294967296 ∧ h.bits < 4294967296 ∧ h.nonce < 4294967296
def noHead : HeadP := ⟨0, z32, z32, 0, 0, 0⟩
theorem noHead_is : noHead.Is := by unfold noHead HeadP.Is; decide
def headL (h : HeadP) : List UInt8 := fixedL h.version 4 ++ (h.prev ++ (h.root ++ (fixedL h.time 4 ++ (fixedL h.bits 4 ++ fixedL h.nonce 4))))
theorem headL_len {h : HeadP} (hh : h.Is) : (headL h).length = 80 := by
  unfold headL
  simp only [List.length_append, fixedL_len, hh.2.1, hh.2.2.1]
/-- thirty-two bytes that are read: noughts, where they are missing -/
def hashS (s : Scn) : List UInt8 × Scn := (if (rawS s 32).1.length = 32 then (rawS s 32).1 else z32, (rawS s 32).2)
theorem hashS_len (s : Scn) : (hashS s).1.length = 32 := by unfold hashS; dsimp only; split <;> first | assumption | rfl
theorem hashS_bad (s : Scn) (hs : s.err ≠ 0) : (hashS s).2 = s := by unfold hashS; rw [raw_bad hs]
theorem good_hash {x : List UInt8} (hx : x.length = 32) : Good hashS x x := by
  have h := good_raw (x := x) (n := 32) hx
  refine ⟨fun r => ?_, fun k hk => h.cut k hk, hashS_bad⟩
  have h' : rawS ⟨x ++ r, 0⟩ 32 = (x, ⟨r, 0⟩) := h.back r
  unfold hashS
  rw [h']
  dsimp only
  rw [if_pos hx]
theorem exact_hash : Exact hashS (fun l => l) := fun s h => by
  have h1 := exact_raw (n := 32) (by decide) s h
  have h2 := raw_len (s := s) (n := 32) h
  refine ⟨h1.1, ?_⟩
  unfold hashS
  dsimp only
  have h2' : (rawS s 32).1.length = 32 := h2
  rw [if_pos h2']
  exact h1.2
def head0 : Scn → (Nat × List UInt8 × List UInt8 × Nat × Nat × Nat) × Scn := thenS (fun s => fixedS s 4) (thenS hashS (thenS hashS (thenS (fun s => fixedS s 4) (thenS (fun s => fixedS s 4) (fun s => fixedS s 4)))))
def toHead (q : Nat × List UInt8 × List UInt8 × Nat × Nat × Nat) : HeadP := ⟨q.1, q.2.1, q.2.2.1, q.2.2.2.1, q.2.2.2.2.1, q.2.2.2.2.2⟩
def headS (s : Scn) : HeadP × Scn := (toHead (head0 s).1, (head0 s).2)
/-- step by step -/
theorem headS_eq {s : Scn} {v : Nat × Scn} {p r : List UInt8 × Scn} {t b n : Nat × Scn} (hv : fixedS s 4 = v) (hp : hashS v.2 = p) (hr : hashS p.2 = r) (ht : fixedS r.2 4 = t) (hb : fixedS t.2 4 = b) (hn : fixedS b.2 4 = n) : headS s = (⟨v.1, p.1, r.1, t.1, b.1, n.1⟩, n.2) := by
  subst hv hp hr ht hb hn; rfl
theorem headS_is (s : Scn) : (headS s).1.Is := by
  rw [headS_eq rfl rfl rfl rfl rfl rfl]
  exact ⟨fixed4_lt _, hashS_len _, hashS_len _, fixed4_lt _, fixed4_lt _, fixed4_lt _⟩
theorem good_head {h : HeadP} (hh : h.Is) : Good headS (headL h) h := by
  have f : ∀ {n : Nat}, n < 4294967296 → Good (fun s => fixedS s 4) (fixedL n 4) n := fun hn => good_fixed (k := 4) (by decide) (by rw [e4]; exact hn)
  obtain ⟨v, p, r, t, b, n⟩ := h
  obtain ⟨h1, h2, h3, h4, h5, h6⟩ := hh
  have g : Good head0 _ _ := (f h1).then ((good_hash h2).then ((good_hash h3).then ((f h4).then ((f h5).then (f h6)))))
  exact g.map toHead
theorem exact_head : Exact headS headL := fun s h => by
  obtain ⟨v, hv⟩ : ∃ v, fixedS s 4 = v := ⟨_, rfl⟩
  obtain ⟨p, hp⟩ : ∃ p, hashS v.2 = p := ⟨_, rfl⟩
  obtain ⟨r, hr⟩ : ∃ r, hashS p.2 = r := ⟨_, rfl⟩
  obtain ⟨t, ht⟩ : ∃ t, fixedS r.2 4 = t := ⟨_, rfl⟩
  obtain ⟨b, hb⟩ : ∃ b, fixedS t.2 4 = b := ⟨_, rfl⟩
  obtain ⟨n, hn⟩ : ∃ n, fixedS b.2 4 = n := ⟨_, rfl⟩
  rw [headS_eq hv hp hr ht hb hn] at h ⊢
  have k4 := exact_fixed (k := 4) (by decide)
  have h1 := k4 b.2 (by show (fixedS b.2 4).2.err = 0; rw [hn]; exact h)
  have h2 := k4 t.2 (by show (fixedS t.2 4).2.err = 0; rw [hb]; exact h1.1)
  have h3 := k4 r.2 (by show (fixedS r.2 4).2.err = 0; rw [ht]; exact h2.1)
  have h4 := exact_hash p.2 (by rw [hr]; exact h3.1)
  have h5 := exact_hash v.2 (by rw [hp]; exact h4.1)
  have h6 := k4 s (by show (fixedS s 4).2.err = 0; rw [hv]; exact h5.1)
  refine ⟨h6.1, ?_⟩
  have e1 : fixedL n.1 4 ++ n.2.rest = b.2.rest := by have := h1.2; rw [← hn]; exact this
  have e2 : fixedL b.1 4 ++ b.2.rest = t.2.rest := by have := h2.2; rw [← hb]; exact this
  have e3 : fixedL t.1 4 ++ t.2.rest = r.2.rest := by have := h3.2; rw [← ht]; exact this
  have e4 : r.1 ++ r.2.rest = p.2.rest := by have := h4.2; rw [← hr]; exact this
  have e5 : p.1 ++ p.2.rest = v.2.rest := by have := h5.2; rw [← hp]; exact this
  have e6 : fixedL v.1 4 ++ v.2.rest = s.rest := by have := h6.2; rw [← hv]; exact this
  unfold headL
  dsimp only
  simp only [List.append_assoc]
  rw [e1, e2, e3, e4, e5, e6]
def headParse (b : List UInt8) : HeadP × Nat :=
  if (headS ⟨b, 0⟩).2.err ≠ 0 then (noHead, (headS ⟨b, 0⟩).2.err) else if 0 < (headS ⟨b, 0⟩).2.rest.length then (noHead, 62) else ((headS ⟨b, 0⟩).1, 0)
theorem headParse_back {h : HeadP} (hh : h.Is) : headParse (headL h) = (h, 0) := by
  have e := (good_head hh).back []
  rw [List.append_nil] at e
  unfold headParse
  rw [e, if_neg (by simp), if_neg (by simp)]
theorem headL_zero : headL noHead = List.replicate 80 0 := by decide
theorem headParse_80 : headParse (List.replicate 80 0) = (noHead, 0) := by rw [← headL_zero]; exact headParse_back noHead_is
theorem headParse_79 : headParse (List.replicate 79 0) = (noHead, 61) := by
  have e := (good_head noHead_is).cut 79 (by rw [headL_len noHead_is]; decide)
  rw [headL_zero, List.take_replicate] at e
  have e' : (headS ⟨List.replicate 79 0, 0⟩).2.err = 61 := e
  unfold headParse
  rw [e', if_pos (by decide)]
theorem headParse_81 : headParse (List.replicate 81 0) = (noHead, 62) := by
  have e := (good_head noHead_is).back [0]
  rw [headL_zero, show List.replicate 80 (0 : UInt8) ++ [0] = List.replicate 81 0 by decide] at e
  unfold headParse
  rw [e, if_neg (by simp), if_pos (by simp)]
theorem head_restLe (s : Scn) : (headS s).2.rest.length ≤ s.rest.length := by
  rw [headS_eq rfl rfl rfl rfl rfl rfl]
  exact Nat.le_trans (fixed_restLeC _ 4) (Nat.le_trans (fixed_restLeC _ 4) (Nat.le_trans (fixed_restLeC _ 4) (Nat.le_trans (raw_restLeC _ 32) (Nat.le_trans (raw_restLeC _ 32) (fixed_restLeC s 4)))))

/-! ### blocks -/
structure BlockP where
  head : HeadP
  txs : List TxP
def noBlock : BlockP := ⟨noHead, []⟩
def BlockP.Is (b : BlockP) : Prop := b.head.Is ∧ ∀ t ∈ b.txs, t.Is
def BlockP.Fits (b : BlockP) : Prop := b.txs.length ≤ 100 ∧ ∀ t ∈ b.txs, t.Fits
def txsL (l : List TxP) : List UInt8 := (l.map txL).flatten
def blockL (b : BlockP) : List UInt8 := headL b.head ++ (countL b.txs.length ++ txsL b.txs)
theorem txsL_step {l : List TxP} {k : Nat} {t : TxP} (h : l[k]? = some t) : txsL (l.drop k) = txL t ++ txsL (l.drop (k + 1)) := by
  obtain ⟨hk, rfl⟩ := List.getElem?_eq_some_iff.1 h
  rw [List.drop_eq_getElem_cons hk]; unfold txsL; rw [List.map_cons, List.flatten_cons]
def txsS (s : Scn) : List TxP × Scn := listS readS (countS s 100).1 (countS s 100).2
def toBlock (q : HeadP × List TxP) : BlockP := ⟨q.1, q.2⟩
def rawB (s : Scn) : BlockP × Scn := (toBlock (thenS headS txsS s).1, (thenS headS txsS s).2)
theorem rawB_eq {s : Scn} {h : HeadP × Scn} {t : List TxP × Scn} (hh : headS s = h) (ht : txsS h.2 = t) : rawB s = (⟨h.1, t.1⟩, t.2) := by
  unfold rawB thenS toBlock; rw [hh]; dsimp only; rw [ht]
def parseB (b : List UInt8) : BlockP × Nat :=
  if (rawB ⟨b, 0⟩).2.err ≠ 0 then (noBlock, (rawB ⟨b, 0⟩).2.err) else if 0 < (rawB ⟨b, 0⟩).2.rest.length then (noBlock, 62) else ((rawB ⟨b, 0⟩).1, 0)
theorem txsS_bad (s : Scn) (hs : s.err ≠ 0) : (txsS s).2 = s := by unfold txsS; rw [count_bad hs]; exact listS_bad read_bad _ s hs
theorem good_txs {l : List TxP} (h : ∀ t ∈ l, t.Is) (hf : ∀ t ∈ l, t.Fits) (hl : l.length ≤ 100) : Good txsS (countL l.length ++ txsL l) l := by
  have h1 := good_count (n := l.length) (most := 100) (by omega) hl
  have h2 : Good (listS readS l.length) (txsL l) l := good_list read_bad l fun t ht => good_read (h t ht) (hf t ht)
  exact (h1.bind (fun n s hs => listS_bad read_bad n s hs) h2)
theorem good_block {b : BlockP} (h : b.Is) (hf : b.Fits) : Good rawB (blockL b) b :=
  ((good_head h.1).then (good_txs h.2 hf.2 hf.1)).map toBlock
theorem parse_blockL {b : BlockP} (h : b.Is) (hf : b.Fits) : parseB (blockL b) = (b, 0) := by
  have e := (good_block h hf).back []
  rw [List.append_nil] at e
  unfold parseB
  rw [e, if_neg (by simp), if_neg (by simp)]
theorem parseB_right {l : List UInt8} (h : (parseB l).2 = 0) : blockL (parseB l).1 = l := by
  obtain ⟨p, hp⟩ : ∃ p, headS ⟨l, 0⟩ = p := ⟨_, rfl⟩
  obtain ⟨q, hq⟩ : ∃ q, txsS p.2 = q := ⟨_, rfl⟩
  unfold parseB at h ⊢
  rw [rawB_eq hp hq] at h ⊢
  dsimp only at h ⊢
  split at h
  · rename_i hc; exact absurd h hc
  · rename_i hc
    rw [if_neg hc]
    split at h
    · cases h
    · rename_i hd
      rw [if_neg hd]
      have hc' : q.2.err = 0 := by omega
      have hd' : q.2.rest = [] := List.eq_nil_of_length_eq_zero (by omega)
      have h1 := exact_list exact_read (countS p.2 100).1 (countS p.2 100).2 (by show (txsS p.2).2.err = 0; rw [hq]; exact hc')
      have h2 := exact_count 100 p.2 h1.1
      have h3 := exact_head ⟨l, 0⟩ (by rw [hp]; exact h2.1)
      have e0 : (txsS p.2).1.length = (countS p.2 100).1 := listS_len _ _ _
      have e1 : txsL (txsS p.2).1 ++ (txsS p.2).2.rest = (countS p.2 100).2.rest := h1.2
      have e2 : countL (countS p.2 100).1 ++ (countS p.2 100).2.rest = p.2.rest := h2.2
      have e3 : headL (headS ⟨l, 0⟩).1 ++ (headS ⟨l, 0⟩).2.rest = l := h3.2
      rw [hp] at e3
      rw [hq, hd', List.append_nil] at e1
      rw [hq] at e0
      unfold blockL
      dsimp only
      rw [e0, e1, e2, e3]
theorem noBlock_is : noBlock.Is := ⟨noHead_is, fun t ht => by cases ht⟩
theorem noBlock_fits : noBlock.Fits := ⟨by decide, fun t ht => by cases ht⟩
theorem txsS_good (s : Scn) : (∀ t ∈ (txsS s).1, t.Is) ∧ (∀ t ∈ (txsS s).1, t.Fits) ∧ (txsS s).1.length ≤ 100 := by
  unfold txsS
  exact ⟨list_allK (P := TxP.Is) (fun s => (read_goodK s).1) _ _, list_allK (P := TxP.Fits) (fun s => (read_goodK s).2) _ _, by rw [listS_len]; exact count_le _ _⟩
theorem rawB_good (s : Scn) : (rawB s).1.Is ∧ (rawB s).1.Fits := by
  have h1 := headS_is s
  obtain ⟨p, hp⟩ : ∃ p, headS s = p := ⟨_, rfl⟩
  rw [hp] at h1
  obtain ⟨h2, h3, h4⟩ := txsS_good p.2
  obtain ⟨q, hq⟩ : ∃ q, txsS p.2 = q := ⟨_, rfl⟩
  rw [hq] at h2 h3 h4
  rw [rawB_eq hp hq]
  exact ⟨⟨h1, h2⟩, h4, h3⟩
theorem parseB_good (l : List UInt8) : (parseB l).1.Is ∧ (parseB l).1.Fits := by
  have h := rawB_good ⟨l, 0⟩
  unfold parseB
  generalize rawB ⟨l, 0⟩ = p at *
  split
  · exact ⟨noBlock_is, noBlock_fits⟩
  · split
    · exact ⟨noBlock_is, noBlock_fits⟩
    · exact h
/-! ### what stands for all hashes -/
def pairL (a b : List UInt8) : List UInt8 := sha (sha (a ++ b))
theorem pairL_len (a b : List UInt8) : (pairL a b).length = 32 := sha_len _
def joinL : List (List UInt8) → List (List UInt8) × Bool
  | [] => ([], false)
  | [a] => ([pairL a a], false)
  | a :: b :: r => (pairL a b :: (joinL r).1, decide (a = b) || (joinL r).2)
theorem joinL_len : ∀ l : List (List UInt8), (joinL l).1.length = (l.length + 1) / 2
  | [] => rfl
  | [a] => by simp [joinL]
  | a :: b :: r => by show (joinL r).1.length + 1 = (r.length + 1 + 1 + 1) / 2; rw [joinL_len r]; omega
theorem joinL_32 : ∀ (l : List (List UInt8)), ∀ x ∈ (joinL l).1, x.length = 32
  | [], x, h => by cases h
  | [a], x, h => by have e : x = pairL a a := by simpa [joinL] using h
                    rw [e]; exact pairL_len _ _
  | a :: b :: r, x, h => by
    rcases List.mem_cons.1 h with rfl | h
    · exact pairL_len _ _
    · exact joinL_32 r x h
def rootF : Nat → List (List UInt8) → List UInt8 × Bool
  | 0, _ => (z32, false)
  | _ + 1, [] => (z32, false)
  | _ + 1, [a] => (a, false)
  | n + 1, a :: b :: r => ((rootF n (joinL (a :: b :: r)).1).1, (joinL (a :: b :: r)).2 || (rootF n (joinL (a :: b :: r)).1).2)
theorem rootF_more : ∀ (n m : Nat) (l : List (List UInt8)), l.length ≤ n → l.length ≤ m → rootF n l = rootF m l
  | 0, 0, _, _, _ => rfl
  | 0, m + 1, l, h, _ => by obtain rfl : l = [] := List.eq_nil_of_length_eq_zero (by omega); rfl
  | n + 1, 0, l, _, h => by obtain rfl : l = [] := List.eq_nil_of_length_eq_zero (by omega); rfl
  | n + 1, m + 1, [], _, _ => rfl
  | n + 1, m + 1, [a], _, _ => rfl
  | n + 1, m + 1, a :: b :: r, h, k => by
    have e := joinL_len (a :: b :: r)
    simp only [List.length_cons] at e h k
    have h1 := rootF_more n m (joinL (a :: b :: r)).1 (by omega) (by omega)
    show ((rootF n _).1, _ || (rootF n _).2) = ((rootF m _).1, _ || (rootF m _).2)
    rw [h1]
def rootL (l : List (List UInt8)) : List UInt8 × Bool := rootF l.length l
theorem rootL_nil : rootL [] = (z32, false) := rfl
theorem rootL_one (a : List UInt8) : rootL [a] = (a, false) := rfl
theorem rootL_step {l : List (List UInt8)} (h : 2 ≤ l.length) : rootL l = ((rootL (joinL l).1).1, (joinL l).2 || (rootL (joinL l).1).2) := by
  have e := joinL_len l
  match l, h, e with
  | a :: b :: r, h, e =>
    simp only [List.length_cons] at e
    have h1 := rootF_more (r.length + 1) (joinL (a :: b :: r)).1.length (joinL (a :: b :: r)).1 (by omega) (by omega)
    show ((rootF (r.length + 1) _).1, _ || (rootF (r.length + 1) _).2) = _
    rw [h1]; rfl
theorem rootL_len {l : List (List UInt8)} (h : ∀ x ∈ l, x.length = 32) : (rootL l).1.length = 32 := by
  have key : ∀ (n : Nat) (l : List (List UInt8)), (∀ x ∈ l, x.length = 32) → (rootF n l).1.length = 32 := by
    intro n
    induction n with
    | zero => intro _ _; rfl
    | succ n ih =>
      intro l h
      match l, h with
      | [], _ => rfl
      | [a], h => exact h a (by simp)
      | a :: b :: r, h => exact ih _ (joinL_32 _)
  exact key _ _ h

/-! ### can it be? -/
def idsL (l : List TxP) : List (List UInt8) := l.map idL
theorem idsL_32 (l : List TxP) : ∀ x ∈ idsL l, x.length = 32 := fun x hx => by obtain ⟨t, -, rfl⟩ := List.mem_map.1 hx; exact idL_len t
def onceB : List TxP → Bool
  | [] => false
  | t :: l => baseB t.ins && !(l.any fun t => baseB t.ins)
def firstE : List TxP → Int
  | [] => 0
  | t :: l => if checkN t ≠ 0 then checkN t else firstE l
def checkB (b : BlockP) : Int :=
  if b.txs = [] then 111 else if 20000 < (blockL b).length then 111 else if onceB b.txs = false then 111 else if firstE b.txs ≠ 0 then firstE b.txs
  else if (rootL (idsL b.txs)).1 ≠ b.head.root ∨ (rootL (idsL b.txs)).2 = true then 111 else 0
def hidL (h : HeadP) : List UInt8 := sha (sha (headL h))
theorem hidL_len (h : HeadP) : (hidL h).length = 32 := sha_len _
end Go.Proofs.YtmfjgehlkbndjaaGreatDoor

/-
  Layer 11: heads and blocks as cells; slices of hashes and of transactions.
-/
namespace Go.Proofs.YtmfjgehlkbndjaaGreatDoor
open Go Go.RowKit

/-! ### any quiet operation in a plain region -/
section
variable {P : Program} {ops : Array Oper} {Q : Exit → Act → World → Prop} {rest : List Oper} {o : Oper} {a : Act} {w : World}
theorem kY {v : Value} (hy : YieldsIf P ops (fun w' => w' = w) o v a) (h : wpList P ops Q rest (a.put o.dst v) w) : wpList P ops Q (o :: rest) a w := by
  rcases hy with ⟨hg, hv⟩ | ⟨hg, rfl⟩
  · refine BigFrame.wpList_want hg fun K hK => ?_
    unfold Oper.wp
    rw [hv w rfl]
    exact hK _ _ h
  · simp only [wpList, hg]
    exact h
end
/-! ### cells -/
def headR (h : HeadP) : List Value := Value.int .u32 (h.version : Int) :: ((List.range 32).map (fun p => VB (at8 h.prev p)) ++ ((List.range 32).map (fun p => VB (at8 h.root p)) ++ [Value.int .u32 (h.time : Int), .int .u32 (h.bits : Int), .int .u32 (h.nonce : Int)]))
def headC (h : HeadP) : Array Value := (headR h).toArray
def blkR (h : HeadP) (v : Value) : List Value := headR h ++ [v]
def blkC (h : HeadP) (v : Value) : Array Value := (blkR h v).toArray
theorem headR_len (h : HeadP) : (headR h).length = 68 := by simp [headR]
theorem headC_size (h : HeadP) : (headC h).size = 68 := by simp [headC, headR]
theorem blkC_size (h : HeadP) (v : Value) : (blkC h v).size = 69 := by simp [blkC, blkR, headR]
theorem info_HeadC : (Tryz.prog.info? 26).map (·.size) = some 68 := by kernel_rfl
theorem info_BlkC : (Tryz.prog.info? 29).map (·.size) = some 69 := by kernel_rfl
theorem info_txsC : (Tryz.prog.info? 27).map (·.size) = some 1 := by kernel_rfl
theorem info_u32B : (Tryz.prog.info? 22).map (·.size) = some 1 := by kernel_rfl
theorem info_HeadS (h : HeadP) : (Tryz.prog.info? 26).map (·.size) = some (headC h).size := by rw [headC_size]; exact info_HeadC
theorem info_BlkS (h : HeadP) (v : Value) : (Tryz.prog.info? 29).map (·.size) = some (blkC h v).size := by rw [blkC_size]; exact info_BlkC
theorem range32_z : (List.range 32).map (fun p => VB (at8 z32 p)) = (List.range 32).map (fun _ => VB 0) := List.map_congr_left fun j hj => by rw [at_z32 j (List.mem_range.1 hj)]
theorem headR_z : headR noHead = Value.int .u32 0 :: ((List.range 32).map (fun _ => VB 0) ++ ((List.range 32).map (fun _ => VB 0) ++ [Value.int .u32 0, .int .u32 0, .int .u32 0])) := by
  unfold headR noHead
  dsimp only
  rw [range32_z]; rfl
theorem zero_Head0 : ((Tryz.prog.info? 26).bind (·.zero)).map Value.cells = some (Value.int .u32 0 :: ((List.range 32).map (fun _ => VB 0) ++ ((List.range 32).map (fun _ => VB 0) ++ [Value.int .u32 0, .int .u32 0, .int .u32 0]))).toArray := by kernel_rfl
theorem zero_HeadC : ((Tryz.prog.info? 26).bind (·.zero)).map Value.cells = some (headC noHead) := by unfold headC; rw [headR_z]; exact zero_Head0
theorem zero_Blk0 : ((Tryz.prog.info? 29).bind (·.zero)).map Value.cells = some ((Value.int .u32 0 :: ((List.range 32).map (fun _ => VB 0) ++ ((List.range 32).map (fun _ => VB 0) ++ [Value.int .u32 0, .int .u32 0, .int .u32 0]))) ++ [Value.slice none 0 0]).toArray := by kernel_rfl
theorem zero_BlkC : ((Tryz.prog.info? 29).bind (·.zero)).map Value.cells = some (blkC noHead (.slice none 0 0)) := by unfold blkC blkR; rw [headR_z]; exact zero_Blk0
theorem zero_HashB : ((Tryz.prog.info? 24).bind (·.zero)).map Value.cells = some (tab 32 fun p => VB (at8 z32 p)) := by
  have e : (tab 32 fun p => VB (at8 z32 p)) = tab 32 fun _ => VB 0 := by unfold tab; rw [range32_z]
  rw [e]; exact zero_Hash
theorem built_Head0z : Tryz.prog.built 26 [] = some (Value.int .u32 0 :: ((List.range 32).map (fun _ => VB 0) ++ ((List.range 32).map (fun _ => VB 0) ++ [Value.int .u32 0, .int .u32 0, .int .u32 0]))).toArray := by kernel_rfl
theorem built_Head0 : Tryz.prog.built 26 [] = some (headC noHead) := by unfold headC; rw [headR_z]; exact built_Head0z
theorem built_Blk0z : Tryz.prog.built 29 [] = some ((Value.int .u32 0 :: ((List.range 32).map (fun _ => VB 0) ++ ((List.range 32).map (fun _ => VB 0) ++ [Value.int .u32 0, .int .u32 0, .int .u32 0]))) ++ [Value.slice none 0 0]).toArray := by kernel_rfl
theorem built_Blk0 : Tryz.prog.built 29 [] = some (blkC noHead (.slice none 0 0)) := by unfold blkC blkR; rw [headR_z]; exact built_Blk0z
theorem built_Head6 (v t b n : Nat) (p r : List UInt8) : Tryz.prog.built 26 [(0, .int .u32 (v : Int)), (1, .agg (tab 32 fun q => VB (at8 p q))), (2, .agg (tab 32 fun q => VB (at8 r q))), (3, .int .u32 (t : Int)), (4, .int .u32 (b : Int)), (5, .int .u32 (n : Int))] = some (headC ⟨v, p, r, t, b, n⟩) := by kernel_rfl
theorem built_Head4z (v t b n : Nat) : Tryz.prog.built 26 [(0, .int .u32 (v : Int)), (3, .int .u32 (t : Int)), (4, .int .u32 (b : Int)), (5, .int .u32 (n : Int))] = some (Value.int .u32 (v : Int) :: ((List.range 32).map (fun _ => VB 0) ++ ((List.range 32).map (fun _ => VB 0) ++ [Value.int .u32 (t : Int), .int .u32 (b : Int), .int .u32 (n : Int)]))).toArray := by kernel_rfl
theorem built_Head4 (v t b n : Nat) : Tryz.prog.built 26 [(0, .int .u32 (v : Int)), (3, .int .u32 (t : Int)), (4, .int .u32 (b : Int)), (5, .int .u32 (n : Int))] = some (headC ⟨v, z32, z32, t, b, n⟩) := by
  rw [built_Head4z]; unfold headC headR; dsimp only; rw [range32_z]
theorem built_Head2z (r : List UInt8) (t : Nat) : Tryz.prog.built 26 [(2, .agg (tab 32 fun q => VB (at8 r q))), (3, .int .u32 (t : Int))] = some (Value.int .u32 0 :: ((List.range 32).map (fun _ => VB 0) ++ ((List.range 32).map (fun p => VB (at8 r p)) ++ [Value.int .u32 (t : Int), .int .u32 0, .int .u32 0]))).toArray := by kernel_rfl
theorem built_Head2 (r : List UInt8) (t : Nat) : Tryz.prog.built 26 [(2, .agg (tab 32 fun q => VB (at8 r q))), (3, .int .u32 (t : Int))] = some (headC ⟨0, z32, r, t, 0, 0⟩) := by
  rw [built_Head2z]; unfold headC headR; dsimp only; rw [range32_z]; rfl
theorem built_Blk2s (h : HeadP) (ao : Option Addr) (q c : Nat) : Tryz.prog.built 29 [(0, .agg (headC h)), (1, .slice ao q c)] = some (blkC h (.slice ao q c)) := by kernel_rfl
theorem built_Blk2 {u : Value} (hu : SliceV u) (h : HeadP) : Tryz.prog.built 29 [(0, .agg (headC h)), (1, u)] = some (blkC h u) := by obtain ⟨ao, q, c, rfl⟩ := hu; exact built_Blk2s _ _ _ _
theorem headF0 : ∃ f fs, Tryz.prog.underlying 26 = some (.struct fs) ∧ fs[0]? = some f ∧ f.offset = 0 ∧ (Tryz.prog.info? f.type).map (·.size) = some (0 + 1) := ⟨_, _, Tryz.underlying26, rfl, rfl, by kernel_rfl⟩
theorem headF1 : ∃ f fs, Tryz.prog.underlying 26 = some (.struct fs) ∧ fs[1]? = some f ∧ f.offset = 1 ∧ (Tryz.prog.info? f.type).map (·.size) = some (31 + 1) := ⟨_, _, Tryz.underlying26, rfl, rfl, by kernel_rfl⟩
theorem headF2 : ∃ f fs, Tryz.prog.underlying 26 = some (.struct fs) ∧ fs[2]? = some f ∧ f.offset = 33 ∧ (Tryz.prog.info? f.type).map (·.size) = some (31 + 1) := ⟨_, _, Tryz.underlying26, rfl, rfl, by kernel_rfl⟩
theorem headF3 : ∃ f fs, Tryz.prog.underlying 26 = some (.struct fs) ∧ fs[3]? = some f ∧ f.offset = 65 ∧ (Tryz.prog.info? f.type).map (·.size) = some (0 + 1) := ⟨_, _, Tryz.underlying26, rfl, rfl, by kernel_rfl⟩
theorem headF4 : ∃ f fs, Tryz.prog.underlying 26 = some (.struct fs) ∧ fs[4]? = some f ∧ f.offset = 66 ∧ (Tryz.prog.info? f.type).map (·.size) = some (0 + 1) := ⟨_, _, Tryz.underlying26, rfl, rfl, by kernel_rfl⟩
theorem headF5 : ∃ f fs, Tryz.prog.underlying 26 = some (.struct fs) ∧ fs[5]? = some f ∧ f.offset = 67 ∧ (Tryz.prog.info? f.type).map (·.size) = some (0 + 1) := ⟨_, _, Tryz.underlying26, rfl, rfl, by kernel_rfl⟩
theorem blkF0 : ∃ f fs, Tryz.prog.underlying 29 = some (.struct fs) ∧ fs[0]? = some f ∧ f.offset = 0 ∧ (Tryz.prog.info? f.type).map (·.size) = some (67 + 1) := ⟨_, _, Tryz.underlying29, rfl, rfl, by kernel_rfl⟩
theorem blkF1 : ∃ f fs, Tryz.prog.underlying 29 = some (.struct fs) ∧ fs[1]? = some f ∧ f.offset = 68 ∧ (Tryz.prog.info? f.type).map (·.size) = some (0 + 1) := ⟨_, _, Tryz.underlying29, rfl, rfl, by kernel_rfl⟩
theorem headC_prev (h : HeadP) : (headC h).extract 1 (1 + 32) = tab 32 fun p => VB (at8 h.prev p) := by kernel_rfl
theorem headC_root (h : HeadP) : (headC h).extract 33 (33 + 32) = tab 32 fun p => VB (at8 h.root p) := by kernel_rfl
theorem headC_0 (h : HeadP) : (headC h)[0]? = some (.int .u32 (h.version : Int)) := by kernel_rfl
theorem headC_65 (h : HeadP) : (headC h)[65]? = some (.int .u32 (h.time : Int)) := by kernel_rfl
theorem headC_66 (h : HeadP) : (headC h)[66]? = some (.int .u32 (h.bits : Int)) := by kernel_rfl
theorem headC_67 (h : HeadP) : (headC h)[67]? = some (.int .u32 (h.nonce : Int)) := by kernel_rfl
theorem blkC_head (h : HeadP) (v : Value) : (blkC h v).extract 0 (0 + 68) = headC h := by kernel_rfl
theorem blkC_root (h : HeadP) (v : Value) : (blkC h v).extract 33 (33 + 32) = tab 32 fun p => VB (at8 h.root p) := by kernel_rfl
theorem blkC_68 (h : HeadP) (v : Value) : (blkC h v)[68]? = some v := by kernel_rfl
theorem blkC_33 (h : HeadP) (v : Value) : (blkC h v)[33]? = some (VB (at8 h.root 0)) := by kernel_rfl
theorem blkC_set (h : HeadP) (u v : Value) : (blkC h u).setIfInBounds 68 v = blkC h v := by kernel_rfl
theorem blkC_splice (h g : HeadP) (u : Value) : splice (blkC g u) 0 (headC h).toList = blkC h u := by kernel_rfl
theorem headC_one (h : HeadP) : ∀ v ∈ headC h, v.oneCell' = true := by
  intro v hv
  simp only [headC, headR, List.mem_toArray, List.mem_append, List.mem_map, List.mem_cons, List.not_mem_nil, or_false] at hv
  rcases hv with rfl | ⟨j, -, rfl⟩ | ⟨j, -, rfl⟩ | rfl | rfl | rfl <;> rfl
theorem blkC_one (h : HeadP) {u : Value} (hu : u.oneCell' = true) : ∀ v ∈ blkC h u, v.oneCell' = true := by
  intro v hv
  simp only [blkC, blkR, List.mem_toArray, List.mem_append, List.mem_cons, List.not_mem_nil, or_false] at hv
  rcases hv with hv | rfl
  · exact headC_one h v (by unfold headC; simpa using hv)
  · exact hu
/-- the bytes of a head's two hashes, where they lie -/
theorem sub_vals {w : World} {g off : Nat} {T : TypeId} {cs : Array Value} {l : List UInt8} (hr : Row w g T cs) (hn : off + 32 ≤ cs.size) (hl : l.length = 32) (he : cs.extract off (off + 32) = tab 32 fun p => VB (at8 l p)) : IsVals w (.slice (some ⟨g, off, none⟩) 32 32) (l.map VB) := by
  refine ⟨some ⟨g, off, none⟩, 32, by rw [List.length_map, hl], by simp [hl], fun h => by simp at h, fun j u hu => ⟨_, rfl, ?_⟩⟩
  have hj : j < 32 := by have := (List.getElem?_eq_some_iff.1 hu).1; simpa [hl] using this
  have h1 : cs[off + j]? = (cs.extract off (off + 32))[j]? := by rw [Array.getElem?_extract]; simp [Nat.min_eq_left hn, hj]
  rw [add_none, hr.cell, h1, he, tab_list l 32 hl]
  simpa using hu

/-! ### slices of hashes, of transactions -/
def hashR (l : List UInt8) : List Value := (List.range 32).map fun p => VB (at8 l p)
theorem hashR_len (l : List UInt8) : (hashR l).length = 32 := by simp [hashR]
def HashesOf (w : World) (v : Value) (l : List (List UInt8)) : Prop := IsRows 32 w v (l.map hashR)
def OwnHs (w : World) (b : Nat) (v : Value) (l : List (List UInt8)) : Prop := OwnR 32 24 w b v (l.map hashR)
theorem HashesOf.below {w w' : World} {v : Value} {l : List (List UInt8)} (h : HashesOf w v l) (hb : Below w.heap.size w w') : HashesOf w' v l := IsRows.below h hb
theorem HashesOf.sl {w : World} {v : Value} {l : List (List UInt8)} (h : HashesOf w v l) : SliceV v := IsRows.sl h
theorem OwnHs.of {w : World} {b : Nat} {v : Value} {l : List (List UInt8)} (h : OwnHs w b v l) : HashesOf w v l := OwnR.rows h
theorem OwnHs.below {w w' : World} {b : Nat} {v : Value} {l : List (List UInt8)} (h : OwnHs w b v l) (hb : Below w.heap.size w w') : OwnHs w' b v l := OwnR.below h hb
theorem OwnHs.less {w : World} {b b' : Nat} {v : Value} {l : List (List UInt8)} (hb : b' ≤ b) (h : OwnHs w b v l) : OwnHs w b' v l := OwnR.less hb h
theorem ownHs_nil (w : World) (b : Nat) : OwnHs w b (.slice none 0 0) [] := ownR_nil _ _ _ _
theorem hashesOf_nil (w : World) : HashesOf w (.slice none 0 0) [] := isRows_nil _ _
/-- a transaction and its two slices -/
abbrev TxZ := TxP × Value × Value
def txR (z : TxZ) : List Value := [Value.int .u32 (z.1.version : Int), z.2.1, z.2.2, .int .u32 (z.1.end' : Int)]
theorem txR_len (z : TxZ) : (txR z).length = 4 := rfl
def AreTxs (w : World) (v : Value) (zs : List TxZ) : Prop := IsRows 4 w v (zs.map txR) ∧ ∀ z ∈ zs, InsOf w z.2.1 z.1.ins ∧ OutsOf w z.2.2 z.1.outs
def TxsOf (w : World) (v : Value) (l : List TxP) : Prop := ∃ zs : List TxZ, zs.map Prod.fst = l ∧ AreTxs w v zs
theorem AreTxs.below {w w' : World} {v : Value} {zs : List TxZ} (h : AreTxs w v zs) (hb : Below w.heap.size w w') : AreTxs w' v zs := ⟨h.1.below hb, fun z hz => ⟨(h.2 z hz).1.below hb, (h.2 z hz).2.below hb⟩⟩
theorem TxsOf.below {w w' : World} {v : Value} {l : List TxP} (h : TxsOf w v l) (hb : Below w.heap.size w w') : TxsOf w' v l := by obtain ⟨zs, e, h⟩ := h; exact ⟨zs, e, h.below hb⟩
theorem TxsOf.sl {w : World} {v : Value} {l : List TxP} (h : TxsOf w v l) : SliceV v := by obtain ⟨zs, e, h⟩ := h; exact h.1.sl
theorem txsOf_nil (w : World) : TxsOf w (.slice none 0 0) [] := ⟨[], rfl, isRows_nil _ _, fun z hz => by cases hz⟩
def OwnTxs (w : World) (b : Nat) (v : Value) (l : List TxP) : Prop := ∃ zs : List TxZ, zs.map Prod.fst = l ∧ OwnR 4 34 w b v (zs.map txR) ∧ ∀ z ∈ zs, OwnIns w b z.2.1 z.1.ins ∧ OwnOuts w b z.2.2 z.1.outs
theorem OwnTxs.of {w : World} {b : Nat} {v : Value} {l : List TxP} (h : OwnTxs w b v l) : TxsOf w v l := by obtain ⟨zs, e, h1, h2⟩ := h; exact ⟨zs, e, h1.rows, fun z hz => ⟨(h2 z hz).1.of, (h2 z hz).2.of⟩⟩
theorem OwnTxs.below {w w' : World} {b : Nat} {v : Value} {l : List TxP} (h : OwnTxs w b v l) (hb : Below w.heap.size w w') : OwnTxs w' b v l := by obtain ⟨zs, e, h1, h2⟩ := h; exact ⟨zs, e, h1.below hb, fun z hz => ⟨(h2 z hz).1.below hb, (h2 z hz).2.below hb⟩⟩
theorem OwnTxs.less {w : World} {b b' : Nat} {v : Value} {l : List TxP} (hb : b' ≤ b) (h : OwnTxs w b v l) : OwnTxs w b' v l := by obtain ⟨zs, e, h1, h2⟩ := h; exact ⟨zs, e, h1.less hb, fun z hz => ⟨(h2 z hz).1.less hb, (h2 z hz).2.less hb⟩⟩
theorem OwnTxs.over {w w' : World} {b : Nat} {v : Value} {l : List TxP} (h : OwnTxs w b v l) (hb : Over b w w') : OwnTxs w' b v l := by obtain ⟨zs, e, h1, h2⟩ := h; exact ⟨zs, e, h1.over hb, fun z hz => ⟨(h2 z hz).1.over hb, (h2 z hz).2.over hb⟩⟩
theorem ownTxs_nil (w : World) (b : Nat) : OwnTxs w b (.slice none 0 0) [] := ⟨[], rfl, ownR_nil _ _ _ _, fun z hz => by cases hz⟩
theorem fst_atT {zs : List TxZ} {l : List TxP} (h : zs.map Prod.fst = l) {k : Nat} {z : TxZ} (hz : zs[k]? = some z) : l[k]? = some z.1 := by rw [← h, List.getElem?_map, hz]; rfl
theorem fst_lenT {zs : List TxZ} {l : List TxP} (h : zs.map Prod.fst = l) : zs.length = l.length := by rw [← h, List.length_map]
/-- rows of one kind, where a row of another kind has grown -/
theorem OwnR.grownBy {n m : Nat} {E F : TypeId} {w w' : World} {b b' : Nat} {v u : Value} {L M : List (List Value)} (h : OwnR m F w b u M) (ho : OwnR n E w b' v L) (hE : E ≠ F) (hg : w.grownBy w' v.ownBlock) : OwnR m F w' b u M := ⟨ownsRow_grown h.1 ho hE hg, h.2⟩

/-! ### rows: an element's address, a part of a slice -/
theorem rows_addr {P : Program} {T E : TypeId} {n : Nat} (ht : P.underlying T = some (.slice E)) (hi : (P.info? E).map (·.size) = some n) {w : World} {v : Value} {L : List (List Value)} {k : Nat} {r : List Value} (h : IsRows n w v L) (hr : L[k]? = some r) :
    ∃ b : Addr, (∀ w' : World, (Instr.indexAt T v (.int .i64 (k : Int))).run P w' = .ok (.pointer (some b)) w') ∧ ∀ (j : Nat) (u : Value), r[j]? = some u → w.cell? (b.add j) = some u := by
  obtain ⟨⟨ao, c, rfl, hc, hn, hj⟩, hl⟩ := h
  obtain ⟨ad, rfl, h2⟩ := hj k r hr
  have hk : k < L.length := (List.getElem?_eq_some_iff.1 hr).1
  refine ⟨ad.add (k * n), fun w' => ?_, h2⟩
  cases hq : P.info? E with
  | none => simp [hq] at hi
  | some t =>
    have hs' : t.size = n := by simpa [hq] using hi
    simp [Instr.indexAt, asIntOf, run_underlying ht, sizeOf, typeInfo, hq, hs', hk]
theorem rows_cut {n : Nat} {w : World} {ao : Option Addr} {c : Nat} {L : List (List Value)} (h : IsRows n w (.slice ao L.length c) L) {l q m : Nat} (h1 : l ≤ q) (h2 : q ≤ L.length) (h3 : q ≤ m) (h4 : m ≤ c) : IsRows n w (sliced ao l q m n) ((L.take q).drop l) := by
  obtain ⟨⟨ao', c', e, hc, hn, hj⟩, hl⟩ := h
  cases e
  have hlen : ((L.take q).drop l).length = q - l := by rw [List.length_drop, List.length_take]; omega
  refine ⟨⟨if m = l then ao else ao.map (·.add (l * n)), m - l, by unfold sliced; rw [hlen], by rw [hlen]; omega, fun h => ?_, fun k x hx => ?_⟩, fun x hx => hl x (List.mem_of_mem_take (List.mem_of_mem_drop hx))⟩
  · by_cases hm : m = l
    · omega
    · rw [if_neg hm] at h
      have e : ao = none := by cases ao <;> simp_all
      have e0 := hn e
      omega
  · rw [List.getElem?_drop, List.getElem?_take] at hx
    split at hx
    · rename_i hlt
      obtain ⟨a, rfl, hcell⟩ := hj _ x hx
      rw [if_neg (by omega)]
      refine ⟨a.add (l * n), rfl, fun j u hu => ?_⟩
      have h := hcell j u hu
      rw [Nat.add_mul, ← addr_add] at h
      exact h
    · cases hx
theorem run_slicedL {P : Program} {T E : TypeId} {n : Nat} (ht : P.underlying T = some (.slice E)) (hi : (P.info? E).map (·.size) = some n) {ao : Option Addr} {len c l : Nat} (hl : l ≤ len) (w : World) : (Instr.sliceAt T (.slice ao len c) (some (.int .i64 (l : Int))) none none).run P w = .ok (sliced ao l len c n) w := by
  have he : P.elem T = E := by unfold Program.elem; rw [ht]
  have ht' : P.underlying T = some (.slice (P.elem T)) := by rw [he]; exact ht
  rw [run_sliceAt_slice _ _ _ _ _ _ ht', run_slice_l _ _ _ _ _ ht' .i64 (l : Int) (by omega) (by omega), he]
  cases hq : P.info? E with
  | none => simp [hq] at hi
  | some t =>
    have hs' : t.size = n := by simpa [hq] using hi
    simp [sizeOf, typeInfo, hq, hs']
theorem run_slicedLHM {P : Program} {T E : TypeId} {n : Nat} (ht : P.underlying T = some (.slice E)) (hi : (P.info? E).map (·.size) = some n) {ao : Option Addr} {len c l q m : Nat} (hl : l ≤ q) (hq : q ≤ m) (hm : m ≤ c) (w : World) : (Instr.sliceAt T (.slice ao len c) (some (.int .i64 (l : Int))) (some (.int .i64 (q : Int))) (some (.int .i64 (m : Int)))).run P w = .ok (sliced ao l q m n) w := by
  have he : P.elem T = E := by unfold Program.elem; rw [ht]
  have ht' : P.underlying T = some (.slice (P.elem T)) := by rw [he]; exact ht
  rw [run_sliceAt_slice _ _ _ _ _ _ ht', run_slice_lhm _ _ _ _ _ ht' .i64 .i64 .i64 (l : Int) (q : Int) (m : Int) (by omega) (by omega) (by omega) (by omega), he]
  cases hq : P.info? E with
  | none => simp [hq] at hi
  | some t =>
    have hs' : t.size = n := by simpa [hq] using hi
    simp [sizeOf, typeInfo, hq, hs']
section
variable {P : Program} {ops : Array Oper} {o : Oper} {a : Act} {S : World → Prop}
theorem yIndexAt (T : TypeId) (x y : Operand) (v : Value) (k : Nat) (b : Addr) (hr : ∀ w' : World, (Instr.indexAt T v (.int .i64 (k : Int))).run P w' = .ok (.pointer (some b)) w') (ho : o.op = .indexAddr T x y) (hg : Region.wanted o (yielded ops a.tmps) = true) (hx : a.eval x = v) (hy : a.eval y = .int .i64 (k : Int)) : YieldsIf P ops S o (.pointer (some b)) a :=
  yOf hg fun w _ => by unfold execOp; simp only [ho, hx, hy, Sem.run_bind, hr w, Result.andThen_ok, Sem.run_pure]
theorem yLoadAt {E : TypeId} {d : TypeDesc} {n : Nat} (hu : P.underlying E = some d) (hd : aggDesc d = true) (hi : (P.info? E).map (·.size) = some n) (x : Operand) (b : Addr) (r : List Value) (hl : r.length = n) (hb : ∀ w, S w → ∀ (j : Nat) (u : Value), r[j]? = some u → w.cell? (b.add j) = some u) (ho : o.op = .load E x) (hg : Region.wanted o (yielded ops a.tmps) = true) (hx : a.eval x = .pointer (some b)) : YieldsIf P ops S o (.agg r.toArray) a := by
  subst hl
  refine yOf hg fun w hS => ?_
  have hl := run_loadCells_list (P := P) w b r (hb w hS)
  have hrun : (loadVar E b).run P w = .ok (.agg r.toArray) w := by
    cases hq : P.info? E with
    | none => simp [hq] at hi
    | some t =>
      have hs' : t.size = r.length := by simpa [hq] using hi
      simp [loadVar, Sem.run_bind, run_isAgg hu, hd, sizeOf, typeInfo, hq, hs', hl]
  unfold execOp
  simp only [ho, hx, Instr.loadAt, Instr.sureAddr, Sem.run_bind, Sem.run_pure, Result.andThen_ok, hrun]
theorem yLenRows {T E : TypeId} {n : Nat} (ht : P.underlying T = some (.slice E)) (x : Operand) (v : Value) (L : List (List Value)) (m : Nat) (hv : ∀ w, S w → IsRows n w v L) (hm : L.length = m) (ho : o.op = .call { callee := .builtin .len, args := #[x], argTypes := #[T] }) (hg : Region.wanted o (yielded ops a.tmps) = true) (hx : a.eval x = v) : YieldsIf P ops S o (.int .i64 (m : Int)) a :=
  yOf hg fun w hS => by
    obtain ⟨⟨ao, c, rfl, _⟩, _⟩ := hv w hS
    subst hm
    simp [execOp, ho, resolve, invoke, builtin, hx, Builtin.len_, run_underlying ht, goInt]
theorem ySliceL {T E : TypeId} {n : Nat} (ht : P.underlying T = some (.slice E)) (hi : (P.info? E).map (·.size) = some n) (x y : Operand) (ao : Option Addr) (len c l : Nat) (hl : l ≤ len) (ho : o.op = .slice T x (some y) none none) (hg : Region.wanted o (yielded ops a.tmps) = true) (hx : a.eval x = .slice ao len c) (hy : a.eval y = .int .i64 (l : Int)) : YieldsIf P ops S o (sliced ao l len c n) a :=
  yOf hg fun w _ => by
    unfold execOp
    simp only [ho, hx, hy, Option.map_some, Option.map_none, Sem.run_bind, run_slicedL ht hi hl, Result.andThen_ok, Sem.run_pure]
theorem ySliceLHM {T E : TypeId} {n : Nat} (ht : P.underlying T = some (.slice E)) (hi : (P.info? E).map (·.size) = some n) (x y z t : Operand) (ao : Option Addr) (len c l q m : Nat) (hl : l ≤ q) (hq : q ≤ m) (hm : m ≤ c) (ho : o.op = .slice T x (some y) (some z) (some t)) (hg : Region.wanted o (yielded ops a.tmps) = true) (hx : a.eval x = .slice ao len c) (hy : a.eval y = .int .i64 (l : Int)) (hz : a.eval z = .int .i64 (q : Int)) (htt : a.eval t = .int .i64 (m : Int)) : YieldsIf P ops S o (sliced ao l q m n) a :=
  yOf hg fun w _ => by
    unfold execOp
    simp only [ho, hx, hy, hz, htt, Option.map_some, Sem.run_bind, run_slicedLHM ht hi hl hq hm, Result.andThen_ok, Sem.run_pure]
end
theorem hashInfo0 : (Tryz.prog.info? 24).map (fun i => (i.zero.map Value.cells, i.size, i.bytes)) = some (some ((List.range 32).map (fun _ => VB 0)).toArray, 32, 32) := by kernel_rfl
theorem txInfo0 : (Tryz.prog.info? 34).map (fun i => (i.zero.map Value.cells, i.size, i.bytes)) = some (some #[Value.int .u32 0, .slice none 0 0, .slice none 0 0, .int .u32 0], 4, 64) := by kernel_rfl
theorem built_hash1s (f : Nat → UInt8) : ∀ w, (Instr.buildSlice 46 1 #[(0, .agg ((List.range 32).map fun p => VB (f p)).toArray)]).run Tryz.prog w = .ok (.slice (some ⟨w.heap.size, 0, none⟩) 1 1) (w.alloc (.cells ((List.range 32).map fun p => VB (f p)).toArray 24)) := fun _ => by kernel_rfl
theorem built_tx1s (n e : Nat) (ao bo : Option Addr) (q c q' c' : Nat) : ∀ w, (Instr.buildSlice 27 1 #[(0, .agg (txC n (.slice ao q c) (.slice bo q' c') e))]).run Tryz.prog w = .ok (.slice (some ⟨w.heap.size, 0, none⟩) 1 1) (w.alloc (.cells (txC n (.slice ao q c) (.slice bo q' c') e) 34)) := fun _ => by kernel_rfl
theorem built_tx1 {a b : Value} (ha : SliceV a) (hb : SliceV b) (n e : Nat) (w : World) : (Instr.buildSlice 27 1 #[(0, .agg (txC n a b e))]).run Tryz.prog w = .ok (.slice (some ⟨w.heap.size, 0, none⟩) 1 1) (w.alloc (.cells (txC n a b e) 34)) := by
  obtain ⟨_, _, _, rfl⟩ := ha; obtain ⟨_, _, _, rfl⟩ := hb; exact built_tx1s n e _ _ _ _ _ _ w
section
variable {ops : Array Oper} {Q : Exit → Act → World → Prop} {rest : List Oper} {o : Oper} {a : Act} {w : World}
theorem kBuildHs1 (x0 : Operand) (l : List UInt8) (ho : o.op = .buildSlice 46 1 #[(0, x0)]) (hg : Region.wanted o (yielded ops a.tmps) = true) (hx0 : a.eval x0 = HV l)
    (h : ∀ w1, Row w1 w.heap.size 24 (hashR l).toArray → w.heap.size < w1.heap.size → Below w.heap.size w w1 → wpList Tryz.prog ops Q rest (a.put o.dst (.slice (some ⟨w.heap.size, 0, none⟩) 1 1)) w1) : wpList Tryz.prog ops Q (o :: rest) a w := by
  refine BigFrame.wpList_want hg fun K hK => ?_
  have hb := built_hash1s (at8 l) w
  have hx0' : a.eval x0 = .agg ((List.range 32).map fun p => VB (at8 l p)).toArray := hx0
  unfold Oper.wp execOp
  simp only [ho, List.map_toArray, List.map_cons, List.map_nil, hx0', Sem.run_bind, hb, Result.andThen_ok, Sem.run_pure]
  exact hK _ _ (h _ (heap_alloc_new w _) (by simp) ((Below.refl _ _).alloc (Nat.le_refl _) _))
theorem kBuildTxs1 (x0 : Operand) (n e : Nat) (u v : Value) (hu : SliceV u) (hv : SliceV v) (ho : o.op = .buildSlice 27 1 #[(0, x0)]) (hg : Region.wanted o (yielded ops a.tmps) = true) (hx0 : a.eval x0 = .agg (txC n u v e))
    (h : ∀ w1, Row w1 w.heap.size 34 (txC n u v e) → w.heap.size < w1.heap.size → Below w.heap.size w w1 → wpList Tryz.prog ops Q rest (a.put o.dst (.slice (some ⟨w.heap.size, 0, none⟩) 1 1)) w1) : wpList Tryz.prog ops Q (o :: rest) a w := by
  refine BigFrame.wpList_want hg fun K hK => ?_
  unfold Oper.wp execOp
  simp only [ho, List.map_toArray, List.map_cons, List.map_nil, hx0, Sem.run_bind, built_tx1 hu hv n e w, Result.andThen_ok, Sem.run_pure]
  exact hK _ _ (h _ (heap_alloc_new w _) (by simp) ((Below.refl _ _).alloc (Nat.le_refl _) _))
theorem hashR_one (l : List UInt8) : ∀ u ∈ hashR l, u.oneCell' = true := by
  intro u hu
  simp only [hashR, List.mem_map] at hu
  obtain ⟨j, -, rfl⟩ := hu
  rfl
theorem kAppHs (s x : Operand) (ho : o.op = .call { callee := .builtin .append, args := #[s, x], argTypes := #[46, 46] }) (hg : o.guard = none) (base : Nat) (v y : Value) (L M : List (List UInt8)) (hs : a.eval s = v) (hown : OwnHs w base v L) (hx : a.eval x = y) (hy : HashesOf w y M) (hlen : L.length + M.length ≤ 1000000000) (hbase : base ≤ w.heap.size)
    (h : ∀ v' w', OwnHs w' base v' (L ++ M) → Below base w w' → w.grownBy w' v.ownBlock → wpList Tryz.prog ops Q rest (a.put o.dst v') w') : wpList Tryz.prog ops Q (o :: rest) a w := by
  obtain ⟨j, z, e1, e2, e3, e4, e5⟩ := rowInfo hashInfo0
  refine kAppendRows (n := 32) s x ho hg base j z Tryz.underlying46 e1 e2 e3 e4 (by decide) v y _ _ hs hown hx hy (fun r hr u hu => ?_) (by simp [maxLen]; omega) (by rw [e5]; simp; omega) hbase (fun v' w' h1 h2 h3 => h v' w' (by unfold OwnHs; rw [List.map_append]; exact h1) h2 h3)
  obtain ⟨z, hz, rfl⟩ := List.mem_map.1 hr
  exact hashR_one z u hu
theorem kAppTxs (s x : Operand) (ho : o.op = .call { callee := .builtin .append, args := #[s, x], argTypes := #[27, 27] }) (hg : o.guard = none) (base : Nat) (v y : Value) (L M : List TxZ) (hs : a.eval s = v) (hown : OwnR 4 34 w base v (L.map txR)) (hx : a.eval x = y) (hy : IsRows 4 w y (M.map txR)) (h1 : ∀ z ∈ M, z.2.1.oneCell' = true ∧ z.2.2.oneCell' = true) (hlen : L.length + M.length ≤ 1000000000) (hbase : base ≤ w.heap.size)
    (h : ∀ v' w', OwnR 4 34 w' base v' ((L ++ M).map txR) → Below base w w' → w.grownBy w' v.ownBlock → wpList Tryz.prog ops Q rest (a.put o.dst v') w') : wpList Tryz.prog ops Q (o :: rest) a w := by
  obtain ⟨j, z, e1, e2, e3, e4, e5⟩ := rowInfo txInfo0
  refine kAppendRows (n := 4) s x ho hg base j z Tryz.underlying27 e1 e2 e3 e4 (by decide) v y _ _ hs hown hx hy (fun r hr u hu => ?_) (by simp [maxLen]; omega) (by rw [e5]; simp; omega) hbase (fun v' w' h1 h2 h3 => h v' w' (by rw [List.map_append]; exact h1) h2 h3)
  obtain ⟨z, hz, rfl⟩ := List.mem_map.1 hr
  simp only [txR, List.mem_cons, List.not_mem_nil, or_false] at hu
  rcases hu with rfl | rfl | rfl | rfl
  · rfl
  · exact (h1 z hz).1
  · exact (h1 z hz).2
  · rfl
theorem kLoadHead (x : Operand) (g : Nat) (h0 : HeadP) (hr : Row w g 26 (headC h0)) (ho : o.op = .load 26 x) (hg : Region.wanted o (yielded ops a.tmps) = true) (hx : a.eval x = .pointer (some ⟨g, 0, none⟩)) (h : wpList Tryz.prog ops Q rest (a.put o.dst (.agg (headC h0))) w) : wpList Tryz.prog ops Q (o :: rest) a w :=
  kLoadRow _ _ _ g _ _ ho hg hx hr Tryz.underlying26 rfl (info_HeadS _) h
theorem kLoadBlk (x : Operand) (g : Nat) (h0 : HeadP) (u : Value) (hr : Row w g 29 (blkC h0 u)) (ho : o.op = .load 29 x) (hg : Region.wanted o (yielded ops a.tmps) = true) (hx : a.eval x = .pointer (some ⟨g, 0, none⟩)) (h : wpList Tryz.prog ops Q rest (a.put o.dst (.agg (blkC h0 u))) w) : wpList Tryz.prog ops Q (o :: rest) a w :=
  kLoadRow _ _ _ g _ _ ho hg hx hr Tryz.underlying29 rfl (info_BlkS _ _) h
theorem kStoreHead (x y : Operand) (g : Nat) (h0 : HeadP) (cs : Array Value) (hr : Row w g 26 cs) (hc : cs.size = 68) (ho : o.op = .store 26 x y) (hg : Region.wanted o (yielded ops a.tmps) = true) (hx : a.eval x = .pointer (some ⟨g, 0, none⟩)) (hy : a.eval y = .agg (headC h0)) (h : ∀ w1, Row w1 g 26 (headC h0) → Wrote g w w1 → wpList Tryz.prog ops Q rest (a.put o.dst undef) w1) : wpList Tryz.prog ops Q (o :: rest) a w :=
  kStoreRow _ _ _ _ g _ _ ho hg hx hy hr (info_HeadS _) (by rw [hc, headC_size]) (headC_one h0) h
theorem kStoreBlk (x y : Operand) (g : Nat) (h0 : HeadP) (u : Value) (cs : Array Value) (hr : Row w g 29 cs) (hc : cs.size = 69) (hu : u.oneCell' = true) (ho : o.op = .store 29 x y) (hg : Region.wanted o (yielded ops a.tmps) = true) (hx : a.eval x = .pointer (some ⟨g, 0, none⟩)) (hy : a.eval y = .agg (blkC h0 u)) (h : ∀ w1, Row w1 g 29 (blkC h0 u) → Wrote g w w1 → wpList Tryz.prog ops Q rest (a.put o.dst undef) w1) : wpList Tryz.prog ops Q (o :: rest) a w :=
  kStoreRow _ _ _ _ g _ _ ho hg hx hy hr (info_BlkS _ _) (by rw [hc, blkC_size]) (blkC_one h0 hu) h
theorem kStoreHash (x y : Operand) (g : Nat) (l : List UInt8) (cs : Array Value) (hr : Row w g 24 cs) (hc : cs.size = 32) (ho : o.op = .store 24 x y) (hg : Region.wanted o (yielded ops a.tmps) = true) (hx : a.eval x = .pointer (some ⟨g, 0, none⟩)) (hy : a.eval y = HV l) (h : ∀ w1, Row w1 g 24 (tab 32 fun p => VB (at8 l p)) → Wrote g w w1 → wpList Tryz.prog ops Q rest (a.put o.dst undef) w1) : wpList Tryz.prog ops Q (o :: rest) a w :=
  kStoreRow _ _ _ _ g _ _ ho hg hx hy hr info_HashT (by rw [tab_size, hc]) (tab_one _ _ fun _ _ => rfl) h
theorem kLoadHash (x : Operand) (g : Nat) (l : List UInt8) (hr : Row w g 24 (tab 32 fun p => VB (at8 l p))) (ho : o.op = .load 24 x) (hg : Region.wanted o (yielded ops a.tmps) = true) (hx : a.eval x = .pointer (some ⟨g, 0, none⟩)) (h : wpList Tryz.prog ops Q rest (a.put o.dst (HV l)) w) : wpList Tryz.prog ops Q (o :: rest) a w :=
  kLoadRow _ _ _ g _ _ ho hg hx hr Tryz.underlying24 rfl info_HashT h
end
end Go.Proofs.YtmfjgehlkbndjaaGreatDoor

/-
  Layer 11: laws of single operations that were missing: lists of byte slices, lengths, comparisons, heads held against each other, append of noughts.
-/
namespace Go.Proofs.YtmfjgehlkbndjaaGreatDoor
open Go Go.RowKit

section
variable {ops : Array Oper} {Q : Exit → Act → World → Prop} {rest : List Oper} {o : Oper} {a : Act} {w : World} {S : World → Prop} {P : Program}
theorem areLists_1 {w : World} {g : Nat} {E : TypeId} {v0 : Value} {l0 : List UInt8} (h : Row w g E #[v0]) (h0 : IsVals w v0 (l0.map VB)) : AreLists w (.slice (some ⟨g, 0, none⟩) 1 1) [l0] :=
  ⟨[v0], rfl, isVals_lit (l := [v0]) h, fun i u L p1 p2 => by
    match i, p1, p2 with
    | 0, p1, p2 => simp at p1 p2; subst p1; subst p2; exact h0
    | i + 1, p1, p2 => simp at p1⟩
theorem kBuildLists1 {v0 : Value} {l0 : List UInt8} (x0 : Operand) (ho : o.op = .buildSlice 109 1 #[(0, x0)]) (hg : Region.wanted o (yielded ops a.tmps) = true) (e0 : a.eval x0 = v0) (h0 : IsVals w v0 (l0.map VB))
    (h : ∀ w1, AreLists w1 (.slice (some ⟨w.heap.size, 0, none⟩) 1 1) [l0] → Below w.heap.size w w1 → wpList Tryz.prog ops Q rest (a.put o.dst (.slice (some ⟨w.heap.size, 0, none⟩) 1 1)) w1) : wpList Tryz.prog ops Q (o :: rest) a w := by
  obtain ⟨i, hi, hz, hsize⟩ := bysInfoC
  refine BigFrame.wpList_want hg fun K hK => ?_
  unfold Oper.wp execOp
  have hrun : (Instr.buildSlice 109 1 #[(0, v0)]).run Tryz.prog w = .ok (.slice (some ⟨w.heap.size, 0, none⟩) 1 1) (w.alloc (.cells #[v0] 38)) := by
    simp [Instr.buildSlice, run_underlying Tryz.underlying109, sizeOf, typeInfo, hi, hsize, zeroValue, hz, Instr.fill, cells_one h0.sl.one, newRow, newObj, Sem.run]
    rw [map_range]; rfl
  simp only [ho, List.map_toArray, List.map_cons, List.map_nil, e0, Sem.run_bind, hrun, Result.andThen_ok, Sem.run_pure]
  have hB : Below w.heap.size w (w.alloc (.cells #[v0] 38)) := (Below.refl _ _).alloc (Nat.le_refl _) _
  exact hK _ _ (h _ (areLists_1 (heap_alloc_new w _) (h0.below hB)) hB)
theorem areLists_2 {w : World} {g : Nat} {E : TypeId} {v0 v1 : Value} {l0 l1 : List UInt8} (h : Row w g E #[v0, v1]) (h0 : IsVals w v0 (l0.map VB)) (h1 : IsVals w v1 (l1.map VB)) : AreLists w (.slice (some ⟨g, 0, none⟩) 2 2) [l0, l1] :=
  ⟨[v0, v1], rfl, isVals_lit (l := [v0, v1]) h, fun i u L p1 p2 => by
    match i, p1, p2 with
    | 0, p1, p2 => simp at p1 p2; subst p1; subst p2; exact h0
    | 1, p1, p2 => simp at p1 p2; subst p1; subst p2; exact h1
    | i + 2, p1, p2 => simp at p1⟩
theorem kBuildLists2 {v0 v1 : Value} {l0 l1 : List UInt8} (x0 x1 : Operand) (ho : o.op = .buildSlice 109 2 #[(0, x0), (1, x1)]) (hg : Region.wanted o (yielded ops a.tmps) = true) (e0 : a.eval x0 = v0) (e1 : a.eval x1 = v1) (h0 : IsVals w v0 (l0.map VB)) (h1 : IsVals w v1 (l1.map VB))
    (h : ∀ w1, AreLists w1 (.slice (some ⟨w.heap.size, 0, none⟩) 2 2) [l0, l1] → Below w.heap.size w w1 → wpList Tryz.prog ops Q rest (a.put o.dst (.slice (some ⟨w.heap.size, 0, none⟩) 2 2)) w1) : wpList Tryz.prog ops Q (o :: rest) a w := by
  obtain ⟨i, hi, hz, hsize⟩ := bysInfoC
  refine BigFrame.wpList_want hg fun K hK => ?_
  unfold Oper.wp execOp
  have hrun : (Instr.buildSlice 109 2 #[(0, v0), (1, v1)]).run Tryz.prog w = .ok (.slice (some ⟨w.heap.size, 0, none⟩) 2 2) (w.alloc (.cells #[v0, v1] 38)) := by
    simp [Instr.buildSlice, run_underlying Tryz.underlying109, sizeOf, typeInfo, hi, hsize, zeroValue, hz, Instr.fill, cells_one h0.sl.one, cells_one h1.sl.one, newRow, newObj, Sem.run]
    rw [map_range]; rfl
  simp only [ho, List.map_toArray, List.map_cons, List.map_nil, e0, e1, Sem.run_bind, hrun, Result.andThen_ok, Sem.run_pure]
  have hB : Below w.heap.size w (w.alloc (.cells #[v0, v1] 38)) := (Below.refl _ _).alloc (Nat.le_refl _) _
  exact hK _ _ (h _ (areLists_2 (heap_alloc_new w _) (h0.below hB) (h1.below hB)) hB)
theorem areLists_6 {w : World} {g : Nat} {E : TypeId} {v0 v1 v2 v3 v4 v5 : Value} {l0 l1 l2 l3 l4 l5 : List UInt8} (h : Row w g E #[v0, v1, v2, v3, v4, v5]) (h0 : IsVals w v0 (l0.map VB)) (h1 : IsVals w v1 (l1.map VB)) (h2 : IsVals w v2 (l2.map VB)) (h3 : IsVals w v3 (l3.map VB)) (h4 : IsVals w v4 (l4.map VB)) (h5 : IsVals w v5 (l5.map VB)) : AreLists w (.slice (some ⟨g, 0, none⟩) 6 6) [l0, l1, l2, l3, l4, l5] :=
  ⟨[v0, v1, v2, v3, v4, v5], rfl, isVals_lit (l := [v0, v1, v2, v3, v4, v5]) h, fun i u L p1 p2 => by
    match i, p1, p2 with
    | 0, p1, p2 => simp at p1 p2; subst p1; subst p2; exact h0
    | 1, p1, p2 => simp at p1 p2; subst p1; subst p2; exact h1
    | 2, p1, p2 => simp at p1 p2; subst p1; subst p2; exact h2
    | 3, p1, p2 => simp at p1 p2; subst p1; subst p2; exact h3
    | 4, p1, p2 => simp at p1 p2; subst p1; subst p2; exact h4
    | 5, p1, p2 => simp at p1 p2; subst p1; subst p2; exact h5
    | i + 6, p1, p2 => simp at p1⟩
theorem kBuildLists6 {v0 v1 v2 v3 v4 v5 : Value} {l0 l1 l2 l3 l4 l5 : List UInt8} (x0 x1 x2 x3 x4 x5 : Operand) (ho : o.op = .buildSlice 109 6 #[(0, x0), (1, x1), (2, x2), (3, x3), (4, x4), (5, x5)]) (hg : Region.wanted o (yielded ops a.tmps) = true) (e0 : a.eval x0 = v0) (e1 : a.eval x1 = v1) (e2 : a.eval x2 = v2) (e3 : a.eval x3 = v3) (e4 : a.eval x4 = v4) (e5 : a.eval x5 = v5) (h0 : IsVals w v0 (l0.map VB)) (h1 : IsVals w v1 (l1.map VB)) (h2 : IsVals w v2 (l2.map VB)) (h3 : IsVals w v3 (l3.map VB)) (h4 : IsVals w v4 (l4.map VB)) (h5 : IsVals w v5 (l5.map VB))
    (h : ∀ w1, AreLists w1 (.slice (some ⟨w.heap.size, 0, none⟩) 6 6) [l0, l1, l2, l3, l4, l5] → Below w.heap.size w w1 → wpList Tryz.prog ops Q rest (a.put o.dst (.slice (some ⟨w.heap.size, 0, none⟩) 6 6)) w1) : wpList Tryz.prog ops Q (o :: rest) a w := by
  obtain ⟨i, hi, hz, hsize⟩ := bysInfoC
  refine BigFrame.wpList_want hg fun K hK => ?_
  unfold Oper.wp execOp
  have hrun : (Instr.buildSlice 109 6 #[(0, v0), (1, v1), (2, v2), (3, v3), (4, v4), (5, v5)]).run Tryz.prog w = .ok (.slice (some ⟨w.heap.size, 0, none⟩) 6 6) (w.alloc (.cells #[v0, v1, v2, v3, v4, v5] 38)) := by
    simp [Instr.buildSlice, run_underlying Tryz.underlying109, sizeOf, typeInfo, hi, hsize, zeroValue, hz, Instr.fill, cells_one h0.sl.one, cells_one h1.sl.one, cells_one h2.sl.one, cells_one h3.sl.one, cells_one h4.sl.one, cells_one h5.sl.one, newRow, newObj, Sem.run]
    rw [map_range]; rfl
  simp only [ho, List.map_toArray, List.map_cons, List.map_nil, e0, e1, e2, e3, e4, e5, Sem.run_bind, hrun, Result.andThen_ok, Sem.run_pure]
  have hB : Below w.heap.size w (w.alloc (.cells #[v0, v1, v2, v3, v4, v5] 38)) := (Below.refl _ _).alloc (Nat.le_refl _) _
  exact hK _ _ (h _ (areLists_6 (heap_alloc_new w _) (h0.below hB) (h1.below hB) (h2.below hB) (h3.below hB) (h4.below hB) (h5.below hB)) hB)
theorem yLssI (T T2 : TypeId) (x y : Operand) (k : IntKind) (m n : Int) (b : Bool) (ho : o.op = .binOp .lss T x y T2) (hg : Region.wanted o (yielded ops a.tmps) = true) (hx : a.eval x = .int k m) (hy : a.eval y = .int k n) (hb : decide (m < n) = b) : YieldsIf P ops S o (.bool b) a := by
  subst hb
  refine yOf hg fun w _ => ?_
  unfold execOp
  simp only [ho, hx, hy]
  simp [eqGuard, binOp, Op.intCmp]
theorem yGtrI (T T2 : TypeId) (x y : Operand) (k : IntKind) (m n : Int) (b : Bool) (ho : o.op = .binOp .gtr T x y T2) (hg : Region.wanted o (yielded ops a.tmps) = true) (hx : a.eval x = .int k m) (hy : a.eval y = .int k n) (hb : decide (m > n) = b) : YieldsIf P ops S o (.bool b) a := by
  subst hb
  refine yOf hg fun w _ => ?_
  unfold execOp
  simp only [ho, hx, hy]
  simp [eqGuard, binOp, Op.intCmp]
theorem yConvUW (x : Operand) (n : Nat) (hn : n < 4294967296) (ho : o.op = .convert 77 22 x) (hg : Region.wanted o (yielded ops a.tmps) = true) (hx : a.eval x = .int .u64 (n : Int)) : YieldsIf Tryz.prog ops S o (.int .u32 (n : Int)) a := by
  refine yOf hg fun w _ => ?_
  unfold execOp
  have e : IntKind.u32.wrap (n : Int) = (n : Int) := by rw [IntKind.wrap_u32]; omega
  simp [ho, hx, convert, run_underlying Tryz.underlying77, run_underlying Tryz.underlying22, e, Conv.intToInt]
theorem yConvIU (x : Operand) (n : Nat) (hn : n < 18446744073709551616) (ho : o.op = .convert 3 77 x) (hg : Region.wanted o (yielded ops a.tmps) = true) (hx : a.eval x = .int .i64 (n : Int)) : YieldsIf Tryz.prog ops S o (.int .u64 (n : Int)) a := by
  refine yOf hg fun w _ => ?_
  unfold execOp
  have e : IntKind.u64.wrap (n : Int) = (n : Int) := by rw [IntKind.wrap_u64]; omega
  simp [ho, hx, convert, run_underlying Tryz.underlying77, run_underlying Tryz.underlying3, e, Conv.intToInt]
theorem yLenTxs (x : Operand) (v : Value) (l : List TxP) (m : Nat) (hv : ∀ w, S w → TxsOf w v l) (hm : l.length = m) (ho : o.op = .call { callee := .builtin .len, args := #[x], argTypes := #[27] }) (hg : Region.wanted o (yielded ops a.tmps) = true) (hx : a.eval x = v) : YieldsIf Tryz.prog ops S o (.int .i64 (m : Int)) a :=
  yOf hg fun w hS => by
    obtain ⟨zs, rfl, ⟨⟨ao, c, rfl, _⟩, _⟩, _⟩ := hv w hS
    rw [List.length_map] at hm
    subst hm
    simp [execOp, ho, resolve, invoke, builtin, hx, Builtin.len_, run_underlying Tryz.underlying27, goInt]
theorem yLenHs (x : Operand) (v : Value) (l : List (List UInt8)) (m : Nat) (hv : ∀ w, S w → HashesOf w v l) (hm : l.length = m) (ho : o.op = .call { callee := .builtin .len, args := #[x], argTypes := #[46] }) (hg : Region.wanted o (yielded ops a.tmps) = true) (hx : a.eval x = v) : YieldsIf Tryz.prog ops S o (.int .i64 (m : Int)) a :=
  yLenRows Tryz.underlying46 x v _ m hv (by rw [List.length_map]; exact hm) ho hg hx
/-! heads held against each other -/
theorem eqGuard_Head : Tryz.prog.eqGuardType Tryz.prog.depth 26 = false := by kernel_rfl
theorem stood_Head : Tryz.prog.stoodInHeld 26 = false := by kernel_rfl
theorem fields_Head : Tryz.prog.underlying 26 = some (.struct (Tryz.prog.fieldsOf 26)) := by kernel_rfl
theorem listed_Head : (Tryz.prog.fieldsOf 26).toList.map (fun f => (f.type, f.offset, decide (f.name = "_"))) = [(22, 0, false), (24, 1, false), (24, 33, false), (22, 65, false), (22, 66, false), (22, 67, false)] := by kernel_rfl
theorem headP_ext {h g : HeadP} : (decide (h.version = g.version) && (decide (h.prev = g.prev) && (decide (h.root = g.root) && (decide (h.time = g.time) && (decide (h.bits = g.bits) && decide (h.nonce = g.nonce)))))) = true ↔ h = g := by
  obtain ⟨a, b, c, d, e, f⟩ := h; obtain ⟨a', b', c', d', e', f'⟩ := g
  simp
noncomputable instance : DecidableEq HeadP := fun h g => decidable_of_iff _ headP_ext
theorem run_equalHead {h g : HeadP} (hh : h.Is) (hg : g.Is) (w : World) : (Op.equalIn 10000 26 (.agg (headC h)) (.agg (headC g))).run Tryz.prog w = .ok (decide (h = g)) w := by
  have k := run_eqStruct (P := Tryz.prog) (w := w) (xs := headC h) (ys := headC g) _ [decide ((h.version : Int) = g.version), decide (h.prev = g.prev), decide (h.root = g.root), decide ((h.time : Int) = g.time), decide ((h.bits : Int) = g.bits), decide ((h.nonce : Int) = g.nonce)] fields_Head stood_Head listed_Head
    ⟨rfl, ⟨_, _, part1 Tryz.underlying22 rfl _ _ _ (headC_0 h) w, part1 Tryz.underlying22 rfl _ _ _ (headC_0 g) w, run_equalZ Tryz.underlying22 9998 _ _ w⟩,
     rfl, ⟨_, _, partA Tryz.underlying24 rfl info_HashCo _ _ _ (headC_prev h) w, partA Tryz.underlying24 rfl info_HashCo _ _ _ (headC_prev g) w, run_equalBytes Tryz.underlying24 Tryz.underlying5 info_b8P 9997 hh.2.1 hg.2.1⟩,
     rfl, ⟨_, _, partA Tryz.underlying24 rfl info_HashCo _ _ _ (headC_root h) w, partA Tryz.underlying24 rfl info_HashCo _ _ _ (headC_root g) w, run_equalBytes Tryz.underlying24 Tryz.underlying5 info_b8P 9997 hh.2.2.1 hg.2.2.1⟩,
     rfl, ⟨_, _, part1 Tryz.underlying22 rfl _ _ _ (headC_65 h) w, part1 Tryz.underlying22 rfl _ _ _ (headC_65 g) w, run_equalZ Tryz.underlying22 9998 _ _ w⟩,
     rfl, ⟨_, _, part1 Tryz.underlying22 rfl _ _ _ (headC_66 h) w, part1 Tryz.underlying22 rfl _ _ _ (headC_66 g) w, run_equalZ Tryz.underlying22 9998 _ _ w⟩,
     rfl, ⟨_, _, part1 Tryz.underlying22 rfl _ _ _ (headC_67 h) w, part1 Tryz.underlying22 rfl _ _ _ (headC_67 g) w, run_equalZ Tryz.underlying22 9998 _ _ w⟩, trivial⟩
  have e : [decide ((h.version : Int) = g.version), decide (h.prev = g.prev), decide (h.root = g.root), decide ((h.time : Int) = g.time), decide ((h.bits : Int) = g.bits), decide ((h.nonce : Int) = g.nonce)].all id = decide (h = g) := by
    have c : ∀ a b : Nat, ((a : Int) = (b : Int)) = (a = b) := fun a b => propext ⟨fun h => by omega, fun h => by omega⟩
    rw [Bool.eq_iff_iff, decide_eq_true_iff, ← headP_ext]
    simp only [c]
    simp
  rw [e] at k
  exact k
theorem yEqlHead (T2 : TypeId) (x y : Operand) {h g : HeadP} (hh : h.Is) (hg' : g.Is) (b : Bool) (ho : o.op = .binOp .eql 26 x y T2) (hg : Region.wanted o (yielded ops a.tmps) = true) (hx : a.eval x = .agg (headC h)) (hy : a.eval y = .agg (headC g)) (hb : decide (h = g) = b) : YieldsIf Tryz.prog ops S o (.bool b) a := by
  subst hb; exact yEqlSt T2 x y _ eqGuard_Head (fun w => run_equalHead hh hg' w) ho hg hx hy
/-! heads and blocks that are built -/
theorem yBuildHead6 (x0 x1 x2 x3 x4 x5 : Operand) (v t b n : Nat) (p r : List UInt8) (ho : o.op = .build 26 #[(0, x0), (1, x1), (2, x2), (3, x3), (4, x4), (5, x5)]) (hg : Region.wanted o (yielded ops a.tmps) = true) (h0 : a.eval x0 = .int .u32 (v : Int)) (h1 : a.eval x1 = HV p) (h2 : a.eval x2 = HV r) (h3 : a.eval x3 = .int .u32 (t : Int)) (h4 : a.eval x4 = .int .u32 (b : Int)) (h5 : a.eval x5 = .int .u32 (n : Int)) : YieldsIf Tryz.prog ops S o (.agg (headC ⟨v, p, r, t, b, n⟩)) a :=
  yBuildAny _ _ #[(0, .int .u32 (v : Int)), (1, HV p), (2, HV r), (3, .int .u32 (t : Int)), (4, .int .u32 (b : Int)), (5, .int .u32 (n : Int))] _ ho hg (by simp [h0, h1, h2, h3, h4, h5]) (built_Head6 _ _ _ _ _ _)
theorem yBuildHead4 (x0 x3 x4 x5 : Operand) (v t b n : Nat) (ho : o.op = .build 26 #[(0, x0), (3, x3), (4, x4), (5, x5)]) (hg : Region.wanted o (yielded ops a.tmps) = true) (h0 : a.eval x0 = .int .u32 (v : Int)) (h3 : a.eval x3 = .int .u32 (t : Int)) (h4 : a.eval x4 = .int .u32 (b : Int)) (h5 : a.eval x5 = .int .u32 (n : Int)) : YieldsIf Tryz.prog ops S o (.agg (headC ⟨v, z32, z32, t, b, n⟩)) a :=
  yBuildAny _ _ #[(0, .int .u32 (v : Int)), (3, .int .u32 (t : Int)), (4, .int .u32 (b : Int)), (5, .int .u32 (n : Int))] _ ho hg (by simp [h0, h3, h4, h5]) (built_Head4 _ _ _ _)
theorem yBuildHead2 (x2 x3 : Operand) (r : List UInt8) (t : Nat) (ho : o.op = .build 26 #[(2, x2), (3, x3)]) (hg : Region.wanted o (yielded ops a.tmps) = true) (h2 : a.eval x2 = HV r) (h3 : a.eval x3 = .int .u32 (t : Int)) : YieldsIf Tryz.prog ops S o (.agg (headC ⟨0, z32, r, t, 0, 0⟩)) a :=
  yBuildAny _ _ #[(2, HV r), (3, .int .u32 (t : Int))] _ ho hg (by simp [h2, h3]) (built_Head2 _ _)
theorem yBuildBlk2 (x0 x1 : Operand) (h : HeadP) (u : Value) (hu : SliceV u) (ho : o.op = .build 29 #[(0, x0), (1, x1)]) (hg : Region.wanted o (yielded ops a.tmps) = true) (h0 : a.eval x0 = .agg (headC h)) (h1 : a.eval x1 = u) : YieldsIf Tryz.prog ops S o (.agg (blkC h u)) a :=
  yBuildAny _ _ #[(0, .agg (headC h)), (1, u)] _ ho hg (by simp [h0, h1]) (built_Blk2 hu h)
theorem yBuildHead0 (ho : o.op = .build 26 #[]) (hg : Region.wanted o (yielded ops a.tmps) = true) : YieldsIf Tryz.prog ops S o (.agg (headC noHead)) a := yBuildAny _ #[] #[] _ ho hg (by simp) built_Head0
theorem yBuildBlk0 (ho : o.op = .build 29 #[]) (hg : Region.wanted o (yielded ops a.tmps) = true) : YieldsIf Tryz.prog ops S o (.agg (blkC noHead (.slice none 0 0))) a := yBuildAny _ #[] #[] _ ho hg (by simp) built_Blk0
/-! append of noughts to nothing -/
theorem run_append_make {k : IntKind} (t u ty e : TypeId) (i : TypeInfo) (z : Value) (ht : P.underlying t = some (.slice e)) (hu : P.underlying u = some (.int k)) (hi : P.info? e = some i) (hz : i.zero = some z) (n : Nat) (h0 : 0 < n) (hn : n ≤ 1000000000) (hby : i.bytes = 1) (hs : i.size = 1) (w : World) :
    (Builtin.append_ #[t, u] ty #[.slice none 0 0, .int .i64 (n : Int)]).run P w =
      .ok (.slice (some ⟨w.heap.size, 0, none⟩) n (grownCap w n 0 e)) (w.drew.alloc (.cells (Builtin.zeroCells z.cells n ++ Builtin.zeroCells z.cells (grownCap w n 0 e - n)) e)) := by
  have hn0 : n ≠ 0 := by omega
  have hwr : IntKind.i64.wrap (n : Int) = (n : Int) := by rw [IntKind.wrap_i64]; omega
  have e1 : ¬ ((n : Int) < 0) := by omega
  have e2 : ¬ (281474976710656 < (n : Int)) := by omega
  have e3 : ¬ (9223372036854775807 < (n : Int)) := by omega
  have e4 : ¬ (281474976710656 < Builtin.nextslicecap n 0) := by rw [nextslicecap_zero h0]; omega
  simp [Builtin.append_, run_underlying ht, run_underlying hu, sizeOf, typeInfo, zeroValue, hi, hz, hby, hs, Builtin.firstCells, hn0, hwr, e1, e2, e3, e4, Question.forced, newRow, grownCap, asInt, asIntOf]
end
end Go.Proofs.YtmfjgehlkbndjaaGreatDoor

/-
  Layer 11: slices.Grow and Concat of bytes; heads as bytes, and their names.
-/
namespace Go.Proofs.YtmfjgehlkbndjaaGreatDoor
open Go Go.RowKit

section
variable {ops : Array Oper} {Q : Exit → Act → World → Prop} {rest : List Oper} {o : Oper} {a : Act} {w : World}
theorem kAppMake (s x : Operand) (n : Nat) (h0 : 0 < n) (hn : n ≤ 1000000000) (ho : o.op = .call { callee := .builtin .append, args := #[s, x], argTypes := #[38, 3] }) (hg : Region.wanted o (yielded ops a.tmps) = true) (hs : a.eval s = .slice none 0 0) (hx : a.eval x = .int .i64 (n : Int))
    (h : ∀ (c : Nat) (cur : Array Value) (w1 : World), Row w1 w.heap.size 5 cur → cur.size = c → c ≤ maxLen → Below w.heap.size w w1 → wpList Tryz.prog ops Q rest (a.put o.dst (.slice (some ⟨w.heap.size, 0, none⟩) n c)) w1) : wpList Tryz.prog ops Q (o :: rest) a w := by
  obtain ⟨i, hi, hz, hsz, hby⟩ := b8Info
  have hr := run_append_make (P := Tryz.prog) 38 3 o.type 5 i _ Tryz.underlying38 Tryz.underlying3 hi hz n h0 hn hby hsz w
  refine BigFrame.wpList_want hg fun K hK => ?_
  have hge := grownCap_ge w n 0 5
  have hle : grownCap w n 0 5 ≤ maxLen := grownCap_le_maxLen w n 0 _ (by simp [maxLen]; omega)
  unfold Oper.wp execOp
  simp only [ho, resolve, invoke, builtin, List.map_toArray, List.map_cons, List.map_nil, hs, hx, Sem.run_bind, Sem.run_pure, Result.andThen_ok, hr]
  refine hK _ _ (h _ _ _ (heap_alloc_new w.drew _) ?_ hle ?_)
  · simp only [Array.size_append, size_zeroCells]
    simp [Value.cells]; omega
  · exact ⟨rfl, rfl, rfl, by simp, fun k hk => heap_alloc_old w.drew _ hk⟩
theorem kSliceTo0 (x y : Operand) (ad : Addr) (n c : Nat) (ho : o.op = .slice 38 x none (some y) none) (hg : Region.wanted o (yielded ops a.tmps) = true) (hx : a.eval x = .slice (some ad) n c) (hy : a.eval y = .int .i64 0) (h : wpList Tryz.prog ops Q rest (a.put o.dst (.slice (some ad) 0 c)) w) : wpList Tryz.prog ops Q (o :: rest) a w := by
  refine kPure _ hg ?_ h
  have he : Tryz.prog.elem 38 = 5 := by unfold Program.elem; rw [Tryz.underlying38]
  have ht : Tryz.prog.underlying 38 = some (.slice (Tryz.prog.elem 38)) := by rw [he]; exact Tryz.underlying38
  have hrun : (Instr.sliceAt 38 (.slice (some ad) n c) none (some (.int .i64 0)) none).run Tryz.prog w = .ok (.slice (some ad) 0 c) w := by
    rw [run_sliceAt_slice _ _ _ _ _ _ ht, run_slice_h _ _ _ _ _ ht .i64 0 (by omega) (by omega), he]
    have hi := info_b8P
    cases hq : Tryz.prog.info? 5 with
    | none => simp [hq] at hi
    | some t => simp [sizeOf, typeInfo, hq, sliced, Addr.add_zero']
  unfold execOp
  simp only [ho, hx, hy, Option.map_some, Option.map_none, Sem.run_bind, hrun, Result.andThen_ok, Sem.run_pure]
theorem own_room {w : World} {g c base : Nat} {cur : Array Value} (hb : base ≤ g) (hc : c ≤ maxLen) (hs : cur.size = c) (h : Row w g 5 cur) : OwnB w base (.slice (some ⟨g, 0, none⟩) 0 c) [] :=
  ⟨by simp, .inr ⟨g, c, cur, rfl, hb, h, Nat.zero_le _, hc, by rw [hs, Nat.mul_one], by simp⟩⟩
end
set_option maxRecDepth 100000 in
set_option maxHeartbeats 8000000 in
theorem bGrow_any {n : Nat} (hn : n ≤ 1000000) (w : World) : Calls Tryz.prog 65 #[.slice none 0 0, .int .i64 (n : Int)] w (POwnPost w []) := by
  have d6 : decide ((n : Int) < 0) = false := by simp
  by_cases h0 : 0 < n
  · have d16 : decide ((n : Int) > 0) = true := by simp; omega
    go_enter Tryz.func65, Tryz.ntmps65
    go_wp2_with (first
      | ((with_reducible change wpList _ _ _ (Oper.mk (some 6) _ _ _ _ _ :: _) _ _); refine kLssI _ _ _ _ .i64 (n : Int) 0 false rfl rfl rfl rfl d6 ?_; go_frame)
      | ((with_reducible change wpList _ _ _ (Oper.mk (some 13) _ _ _ _ _ :: _) _ _); refine kSubC _ _ _ _ 0 0 0 (by omega) rfl rfl rfl rfl ?_; go_frame)
      | ((with_reducible change wpList _ _ _ (Oper.mk (some 14) _ _ _ _ _ :: _) _ _); refine kSubC _ _ _ _ (n : Int) 0 (n : Int) (by omega) rfl rfl rfl rfl ?_; go_frame)
      | ((with_reducible change wpList _ _ _ (Oper.mk (some 16) _ _ _ _ _ :: _) _ _); refine kGtrI _ _ _ _ .i64 (n : Int) 0 true rfl rfl rfl rfl d16 ?_; go_frame)
      | ((with_reducible change wpList _ _ _ (Oper.mk (some 22) _ _ _ _ _ :: _) _ _); refine kAppMake _ _ n h0 (by omega) rfl rfl rfl rfl ?_; intro c cur w1 hR hs hc hB; go_frame)
      | ((with_reducible change wpList _ _ _ (Oper.mk (some 25) _ _ _ _ _ :: _) _ _); refine kSliceTo0 _ _ ⟨w.heap.size, 0, none⟩ n c rfl rfl rfl rfl ?_; go_frame))
    go_ret
    exact ⟨_, rfl, own_room (Nat.le_refl _) hc hs hR, hB⟩
  · have d16 : decide ((n : Int) > 0) = false := by simp; omega
    go_enter Tryz.func65, Tryz.ntmps65
    go_wp2_with (first
      | ((with_reducible change wpList _ _ _ (Oper.mk (some 6) _ _ _ _ _ :: _) _ _); refine kLssI _ _ _ _ .i64 (n : Int) 0 false rfl rfl rfl rfl d6 ?_; go_frame)
      | ((with_reducible change wpList _ _ _ (Oper.mk (some 13) _ _ _ _ _ :: _) _ _); refine kSubC _ _ _ _ 0 0 0 (by omega) rfl rfl rfl rfl ?_; go_frame)
      | ((with_reducible change wpList _ _ _ (Oper.mk (some 14) _ _ _ _ _ :: _) _ _); refine kSubC _ _ _ _ (n : Int) 0 (n : Int) (by omega) rfl rfl rfl rfl ?_; go_frame)
      | ((with_reducible change wpList _ _ _ (Oper.mk (some 16) _ _ _ _ _ :: _) _ _); refine kGtrI _ _ _ _ .i64 (n : Int) 0 false rfl rfl rfl rfl d16 ?_; go_frame))
    go_ret
    exact ⟨_, rfl, ownB_nil _ _, Below.refl _ _⟩
theorem flat_take {Ls : List (List UInt8)} {k : Nat} (hk : k < Ls.length) : (Ls.take (k + 1)).flatten = (Ls.take k).flatten ++ Ls[k] := by rw [List.take_succ_eq_append_getElem hk, List.flatten_append]; simp
theorem flat_le {Ls : List (List UInt8)} (k : Nat) : (Ls.take k).flatten.length ≤ Ls.flatten.length := by
  have e : Ls.flatten = (Ls.take k).flatten ++ (Ls.drop k).flatten := by rw [← List.flatten_append, List.take_append_drop]
  rw [e, List.length_append]; omega
set_option maxRecDepth 100000 in
set_option maxHeartbeats 8000000 in
theorem bConcat_any {u : Value} {Ls : List (List UInt8)} (w : World) (hu : AreLists w u Ls) (hn : Ls.flatten.length ≤ 1000000) (hn2 : Ls.length ≤ 1000000) : Calls Tryz.prog 36 #[u] w (POwnPost w Ls.flatten) := by
  obtain ⟨N, hN⟩ : ∃ N, Ls.length = N := ⟨_, rfl⟩
  obtain ⟨F, hF⟩ : ∃ F, Ls.flatten.length = F := ⟨_, rfl⟩
  have hL0 := hu.len
  obtain ⟨vs0, hvs0, hV0⟩ := hL0
  go_enter Tryz.func36, Tryz.ntmps36
  go_wp2_with (first
    | ((with_reducible change wpList _ _ _ (Oper.mk (some 10) _ _ _ _ _ :: _) _ _); refine kLenN _ _ _ u _ N rfl rfl rfl hV0 (hvs0.trans hN) Tryz.underlying109 ?_; go_frame))
  go_loopw [11, 3] (fun i t wr => ∃ k : Nat, k ≤ N ∧ i = .int .i64 k ∧ t = .int .i64 (((Ls.take k).flatten.length : Nat) : Int) ∧ Below w.heap.size w wr) (fun i _ _ => N - (intOf i).toNat)
  case atStart => exact ⟨0, by omega, rfl, rfl, Below.refl _ _⟩
  case round =>
    obtain ⟨k, hk, rfl, rfl, hB⟩ := hrel
    by_cases hlt : k < N
    · have hd : decide ((k : Int) < (N : Int)) = true := by simp; omega
      have hkl : k < Ls.length := by omega
      obtain ⟨vs, x, hvs, hV0, hxk, hX0⟩ := hu.at hkl
      have hV := hV0.below hB
      have hX := hX0.below hB
      have hsz := hB.size
      have hTk := flat_take hkl
      have hTl := flat_le (Ls := Ls) (k + 1)
      obtain ⟨X, hXe⟩ : ∃ X, Ls[k] = X := ⟨_, rfl⟩
      rw [hXe] at hX hX0 hTk
      obtain ⟨m, hme⟩ : ∃ m, X.length = m := ⟨_, rfl⟩
      rw [hTk, List.length_append, hme] at hTl
      clear hV0
      obtain ⟨t, ht⟩ : ∃ t, (Ls.take k).flatten.length = t := ⟨_, rfl⟩
      rw [ht] at hTl ⊢
      have hd20 : decide (((t + m : Nat) : Int) < 0) = false := by simp; omega
      go_wp2_with (first
        | ((with_reducible change wpList _ _ _ (Oper.mk (some 12) _ _ _ _ _ :: _) _ _); refine kLssI _ _ _ _ .i64 (k : Int) (N : Int) true rfl rfl rfl rfl hd ?_; go_frame)
        | ((with_reducible change wpList _ _ _ (Oper.mk (some 13) _ _ _ _ _ :: _) _ _); refine kIndexAddrV _ _ _ _ .i64 u vs (k : Int) k x rfl rfl rfl hV rfl Tryz.underlying109 info_bytesP rfl hxk ?_; intro b hb; go_frame)
        | ((with_reducible change wpList _ _ _ (Oper.mk (some 14) _ _ _ _ _ :: _) _ _); refine kLoadCell _ _ b x _ rfl rfl rfl hb Tryz.underlying38 rfl ?_; clear hb hV; go_frame)
        | ((with_reducible change wpList _ _ _ (Oper.mk (some 17) _ _ _ _ _ :: _) _ _); refine kLenN _ _ _ x _ m rfl rfl rfl hX (by rw [List.length_map, hme]) Tryz.underlying38 ?_; go_frame)
        | ((with_reducible change wpList _ _ _ (Oper.mk (some 18) _ _ _ _ _ :: _) _ _); refine kAddI _ _ _ _ (t : Int) (m : Int) ((t + m : Nat) : Int) (by omega) rfl rfl rfl rfl ?_; go_frame)
        | ((with_reducible change wpList _ _ _ (Oper.mk (some 20) _ _ _ _ _ :: _) _ _); refine kLssI _ _ _ _ .i64 ((t + m : Nat) : Int) 0 false rfl rfl rfl rfl hd20 ?_; go_frame)
        | ((with_reducible change wpList _ _ _ (Oper.mk (some 22) _ _ _ _ _ :: _) _ _); refine kAddI _ _ _ _ (k : Int) 1 ((k + 1 : Nat) : Int) (by omega) rfl rfl rfl rfl ?_; go_frame))
      go_roundw
      case rel => exact ⟨k + 1, by omega, rfl, by rw [hTk, List.length_append, ht, hme], hB⟩
      case measure => simp [intOf]; omega
    · have hd : decide ((k : Int) < (N : Int)) = false := by simp; omega
      have hT : (Ls.take k).flatten.length = F := by rw [List.take_of_length_le (by omega), hF]
      rw [hT]
      have hV1 := hV0.below hB
      go_wp2_with (first
        | ((with_reducible change wpList _ _ _ (Oper.mk (some 12) _ _ _ _ _ :: _) _ _); refine kLssI _ _ _ _ .i64 (k : Int) (N : Int) false rfl rfl rfl rfl hd ?_; go_frame)
        | (go_at_call 65; refine (bGrow_any (n := F) (by omega) _).mono ?_; rintro e w2 ⟨v2, rfl, hO2, hBq⟩; have hO3 := own_less hB.size hO2; have hB3 := hB.trans (hBq.mono hB.size); have hV2 := hV1.below hBq; clear hB hBq hO2 hV1; go_frame)
        | ((with_reducible change wpList _ _ _ (Oper.mk (some 26) _ _ _ _ _ :: _) _ _); refine kLenN _ _ _ u _ N rfl rfl rfl hV2 (hvs0.trans hN) Tryz.underlying109 ?_; go_frame))
      clear hk hlt hd hT
      go_loopw [27, 6] (fun i t wr => ∃ k : Nat, k ≤ N ∧ i = .int .i64 k ∧ OwnB wr w.heap.size t (Ls.take k).flatten ∧ Below w.heap.size w wr) (fun i _ _ => N - (intOf i).toNat)
      case atStart => exact ⟨0, by omega, rfl, hO3, hB3⟩
      case round =>
        clear hO3 hB3
        obtain ⟨k, hk, rfl, hO, hB⟩ := hrel
        by_cases hlt : k < N
        · have hd : decide ((k : Int) < (N : Int)) = true := by simp; omega
          have hkl : k < Ls.length := by omega
          obtain ⟨vs, x, hvs, hV0, hxk, hX0⟩ := hu.at hkl
          have hV := hV0.below hB
          have hX := hX0.below hB
          have hsz := hB.size
          have hTk := flat_take hkl
          have hTl := flat_le (Ls := Ls) (k + 1)
          obtain ⟨X, hXe⟩ : ∃ X, Ls[k] = X := ⟨_, rfl⟩
          rw [hXe] at hX hX0 hTk
          obtain ⟨m, hme⟩ : ∃ m, X.length = m := ⟨_, rfl⟩
          rw [hTk, List.length_append, hme] at hTl
          clear hV0
          go_wp2_with (first
            | ((with_reducible change wpList _ _ _ (Oper.mk (some 28) _ _ _ _ _ :: _) _ _); refine kLssI _ _ _ _ .i64 (k : Int) (N : Int) true rfl rfl rfl rfl hd ?_; go_frame)
            | ((with_reducible change wpList _ _ _ (Oper.mk (some 29) _ _ _ _ _ :: _) _ _); refine kIndexAddrV _ _ _ _ .i64 u vs (k : Int) k x rfl rfl rfl hV rfl Tryz.underlying109 info_bytesP rfl hxk ?_; intro b hb; go_frame)
            | ((with_reducible change wpList _ _ _ (Oper.mk (some 30) _ _ _ _ _ :: _) _ _); refine kLoadCell _ _ b x _ rfl rfl rfl hb Tryz.underlying38 rfl ?_; clear hb hV; go_frame)
            | ((with_reducible change wpList _ _ _ (Oper.mk (some 33) _ _ _ _ _ :: _) _ _); refine kAppB _ _ rfl rfl w.heap.size _ _ (Ls.take k).flatten X hO hX rfl rfl (by omega) hsz ?_; intro v6 w6 hO6 hB6; have hB7 := hB.trans hB6; clear hO hX hB hB6; go_frame)
            | ((with_reducible change wpList _ _ _ (Oper.mk (some 34) _ _ _ _ _ :: _) _ _); refine kAddI _ _ _ _ (k : Int) 1 ((k + 1 : Nat) : Int) (by omega) rfl rfl rfl rfl ?_; go_frame))
          go_roundw
          case rel => exact ⟨k + 1, by omega, rfl, by rw [hTk]; exact hO6, hB7⟩
          case measure => simp [intOf]; omega
        · have hd : decide ((k : Int) < (N : Int)) = false := by simp; omega
          have hT : (Ls.take k).flatten = Ls.flatten := by rw [List.take_of_length_le (by omega)]
          rw [hT] at hO
          go_wp2_with (first
            | ((with_reducible change wpList _ _ _ (Oper.mk (some 28) _ _ _ _ _ :: _) _ _); refine kLssI _ _ _ _ .i64 (k : Int) (N : Int) false rfl rfl rfl rfl hd ?_; go_frame))
          go_ret
          exact ⟨_, rfl, hO, hB⟩
set_option maxRecDepth 100000 in
set_option maxHeartbeats 8000000 in
theorem blWord_any {n : Nat} (hn : n < 4294967296) (W0 : World) : Calls Tryz.prog 37 #[.int .u32 (n : Int)] W0 (POwnPost W0 (fixedL n 4)) := by
  go_enter Tryz.func37, Tryz.ntmps37
  go_wp2_with (first
    | ((with_reducible change wpList _ _ _ (Oper.mk (some 4) _ _ _ _ _ :: _) _ _); refine kConvWU _ n hn rfl rfl rfl ?_; go_frame)
    | (go_at_call 66; refine (pcFixed_any (l := []) n 4 _ (isVals_nil _) (by simp)).mono ?_; rintro e w5 ⟨v5, rfl, hO5, hB5⟩; go_frame))
  go_ret
  rw [clamp4, List.nil_append] at hO5
  exact ⟨_, rfl, hO5, hB5⟩
theorem head_cat (h : HeadP) : [fixedL h.version 4, h.prev, h.root, fixedL h.time 4, fixedL h.bits 4, fixedL h.nonce 4].flatten = headL h := by simp [headL]
theorem own_at {b : Nat} {w w' : World} {l : List UInt8} {e : Ending} (hb : b ≤ w.heap.size) (h : POwnPost w l e w') : ∃ v, e = .returned v ∧ OwnB w' b v l ∧ Below w.heap.size w w' := by
  obtain ⟨v, he, hO, hB⟩ := h; exact ⟨v, he, own_less hb hO, hB⟩
set_option maxRecDepth 100000 in
set_option maxHeartbeats 8000000 in
theorem blHeadBytes_any {h : HeadP} (W0 : World) (hh : h.Is) : Calls Tryz.prog 14 #[.agg (headC h)] W0 (POwnPost W0 (headL h)) := by
  have hcat : ([fixedL h.version 4, h.prev, h.root, fixedL h.time 4, fixedL h.bits 4, fixedL h.nonce 4] : List (List UInt8)).flatten = headL h := head_cat h
  go_enter Tryz.func14, Tryz.ntmps14
  have hB00 := Below.refl W0.heap.size W0
  go_wp2_with (first
    | ((with_reducible change wpList _ _ _ (Oper.mk (some 1) _ _ _ _ _ :: _) _ _); refine kBoxL _ _ _ rfl rfl rfl ?_; intro y1 hV1 hzq hBq; clear hzq; have hB_1 := hB00.trans (hBq.mono hB00.size); clear hB00 hBq; go_frame))
  refine region_mixD [(0, true), (1, true), (3, true), (4, true), (5, true), (6, true), (7, true), (8, true), (10, true), (11, true), (13, true), (14, true), (2, false), (9, false), (12, false), (15, false), (16, false), (17, false), (18, true)] (fun w => (Row w W0.heap.size 26 (headC h))) (by kernel_rfl) (by kernel_rfl) rfl ?_
  intro z0 hBd hsd
  clear hsd
  have hV1_2 := hV1.below hBd hV1.lt
  have hB_3 := hB_1.trans (hBd.mono hB_1.size)
  clear hV1 hB_1 hBd
  simp only [List.map_cons, List.map_nil]
  dsimp only [List.filterMap, List.getElem?_cons_zero, List.getElem?_cons_succ]
  have hS : (Row z0 W0.heap.size 26 (headC h)) := hV1_2
  refine dY _ hS (yFld headF0 _ _ 0 0 rfl rfl rfl rfl) ?_; go_frame
  refine dY _ hS (yLoad1 _ _ _ W0.heap.size 0 (headC h) (.int .u32 ((h.version : Int))) _ rfl rfl rfl (fun _ h => h) Tryz.underlying22 rfl (headC_0 _)) ?_; go_frame
  refine dY _ hS (yFld headF1 _ _ 0 1 rfl rfl rfl rfl) ?_; go_frame
  refine dY _ hS (ySliceArrC Tryz.underlying24 info_b8P _ W0.heap.size 1 rfl rfl rfl) ?_; go_frame
  refine dY _ hS (yFld headF2 _ _ 0 33 rfl rfl rfl rfl) ?_; go_frame
  refine dY _ hS (ySliceArrC Tryz.underlying24 info_b8P _ W0.heap.size 33 rfl rfl rfl) ?_; go_frame
  refine dY _ hS (yFld headF3 _ _ 0 65 rfl rfl rfl rfl) ?_; go_frame
  refine dY _ hS (yLoad1 _ _ _ W0.heap.size 65 (headC h) (.int .u32 ((h.time : Int))) _ rfl rfl rfl (fun _ h => h) Tryz.underlying22 rfl (headC_65 _)) ?_; go_frame
  refine dY _ hS (yFld headF4 _ _ 0 66 rfl rfl rfl rfl) ?_; go_frame
  refine dY _ hS (yLoad1 _ _ _ W0.heap.size 66 (headC h) (.int .u32 ((h.bits : Int))) _ rfl rfl rfl (fun _ h => h) Tryz.underlying22 rfl (headC_66 _)) ?_; go_frame
  refine dY _ hS (yFld headF5 _ _ 0 67 rfl rfl rfl rfl) ?_; go_frame
  refine dY _ hS (yLoad1 _ _ _ W0.heap.size 67 (headC h) (.int .u32 ((h.nonce : Int))) _ rfl rfl rfl (fun _ h => h) Tryz.underlying22 rfl (headC_67 _)) ?_; go_frame
  refine dLoud ?_
  refine kCall1 37 _ _ _ rfl rfl (by kernel_rfl) rfl ?_
  refine (blWord_any (n := h.version) hh.1 _).mono ?_
  rintro e y2 ⟨v1, rfl, hX1o, hBq⟩
  clear hS
  have hV1_4 := hV1_2.below hBq hV1_2.lt
  have hB_5 := hB_3.trans (hBq.mono hB_3.size)
  clear hV1_2 hB_3 hBq
  have hX1 := hX1o.vals
  clear hX1o
  have hS : (Row y2 W0.heap.size 26 (headC h)) ∧ (IsVals y2 v1 ((fixedL h.version 4).map VB)) := ⟨hV1_4, hX1⟩
  refine ⟨_, rfl, mixOn ⟨(fun w => (Row w W0.heap.size 26 (headC h)) ∧ (IsVals w v1 ((fixedL h.version 4).map VB))), (fun _ h => h.1), hS, ?_⟩⟩
  go_frame
  refine dLoud ?_
  refine kCall1 37 _ _ _ rfl rfl (by kernel_rfl) rfl ?_
  refine (blWord_any (n := h.time) hh.2.2.2.1 _).mono ?_
  rintro e y3 ⟨v2, rfl, hX2o, hBq⟩
  clear hS
  have hV1_6 := hV1_4.below hBq hV1_4.lt
  have hX1_7 := hX1.below hBq
  have hB_8 := hB_5.trans (hBq.mono hB_5.size)
  clear hV1_4 hX1 hB_5 hBq
  have hX2 := hX2o.vals
  clear hX2o
  have hS : (Row y3 W0.heap.size 26 (headC h)) ∧ (IsVals y3 v1 ((fixedL h.version 4).map VB)) ∧ (IsVals y3 v2 ((fixedL h.time 4).map VB)) := ⟨hV1_6, hX1_7, hX2⟩
  refine ⟨_, rfl, mixOn ⟨(fun w => (Row w W0.heap.size 26 (headC h)) ∧ (IsVals w v1 ((fixedL h.version 4).map VB)) ∧ (IsVals w v2 ((fixedL h.time 4).map VB))), (fun _ h => ⟨h.1, h.2.1⟩), hS, ?_⟩⟩
  go_frame
  refine dLoud ?_
  refine kCall1 37 _ _ _ rfl rfl (by kernel_rfl) rfl ?_
  refine (blWord_any (n := h.bits) hh.2.2.2.2.1 _).mono ?_
  rintro e y4 ⟨v3, rfl, hX3o, hBq⟩
  clear hS
  have hV1_9 := hV1_6.below hBq hV1_6.lt
  have hX1_10 := hX1_7.below hBq
  have hX2_11 := hX2.below hBq
  have hB_12 := hB_8.trans (hBq.mono hB_8.size)
  clear hV1_6 hX1_7 hX2 hB_8 hBq
  have hX3 := hX3o.vals
  clear hX3o
  have hS : (Row y4 W0.heap.size 26 (headC h)) ∧ (IsVals y4 v1 ((fixedL h.version 4).map VB)) ∧ (IsVals y4 v2 ((fixedL h.time 4).map VB)) ∧ (IsVals y4 v3 ((fixedL h.bits 4).map VB)) := ⟨hV1_9, hX1_10, hX2_11, hX3⟩
  refine ⟨_, rfl, mixOn ⟨(fun w => (Row w W0.heap.size 26 (headC h)) ∧ (IsVals w v1 ((fixedL h.version 4).map VB)) ∧ (IsVals w v2 ((fixedL h.time 4).map VB)) ∧ (IsVals w v3 ((fixedL h.bits 4).map VB))), (fun _ h => ⟨h.1, h.2.1, h.2.2.1⟩), hS, ?_⟩⟩
  go_frame
  refine dLoud ?_
  refine kCall1 37 _ _ _ rfl rfl (by kernel_rfl) rfl ?_
  refine (blWord_any (n := h.nonce) hh.2.2.2.2.2 _).mono ?_
  rintro e y5 ⟨v4, rfl, hX4o, hBq⟩
  clear hS
  have hV1_13 := hV1_9.below hBq hV1_9.lt
  have hX1_14 := hX1_10.below hBq
  have hX2_15 := hX2_11.below hBq
  have hX3_16 := hX3.below hBq
  have hB_17 := hB_12.trans (hBq.mono hB_12.size)
  clear hV1_9 hX1_10 hX2_11 hX3 hB_12 hBq
  have hX4 := hX4o.vals
  clear hX4o
  have hS : (Row y5 W0.heap.size 26 (headC h)) ∧ (IsVals y5 v1 ((fixedL h.version 4).map VB)) ∧ (IsVals y5 v2 ((fixedL h.time 4).map VB)) ∧ (IsVals y5 v3 ((fixedL h.bits 4).map VB)) ∧ (IsVals y5 v4 ((fixedL h.nonce 4).map VB)) := ⟨hV1_13, hX1_14, hX2_15, hX3_16, hX4⟩
  refine ⟨_, rfl, mixOn ⟨(fun w => (Row w W0.heap.size 26 (headC h)) ∧ (IsVals w v1 ((fixedL h.version 4).map VB)) ∧ (IsVals w v2 ((fixedL h.time 4).map VB)) ∧ (IsVals w v3 ((fixedL h.bits 4).map VB)) ∧ (IsVals w v4 ((fixedL h.nonce 4).map VB))), (fun _ h => ⟨h.1, h.2.1, h.2.2.1, h.2.2.2.1⟩), hS, ?_⟩⟩
  go_frame
  have hb19_0 := hX1_14
  have hb19_1 := (sub_vals hV1_13 (by rw [headC_size]; decide) hh.2.1 (headC_prev _))
  have hb19_2 := (sub_vals hV1_13 (by rw [headC_size]; decide) hh.2.2.1 (headC_root _))
  have hb19_3 := hX2_15
  have hb19_4 := hX3_16
  have hb19_5 := hX4
  refine dLoud ?_
  refine kBuildLists6  _ _ _ _ _ _ rfl rfl rfl rfl rfl rfl rfl rfl hb19_0 hb19_1 hb19_2 hb19_3 hb19_4 hb19_5 ?_
  intro y6 hL19 hBq; clear hS hb19_0 hb19_1 hb19_2 hb19_3 hb19_4 hb19_5
  have hV1_18 := hV1_13.below hBq hV1_13.lt
  have hX1_19 := hX1_14.below hBq
  have hX2_20 := hX2_15.below hBq
  have hX3_21 := hX3_16.below hBq
  have hX4_22 := hX4.below hBq
  have hB_23 := hB_17.trans (hBq.mono hB_17.size)
  clear hV1_13 hX1_14 hX2_15 hX3_16 hX4 hB_17 hBq
  have hS : (Row y6 W0.heap.size 26 (headC h)) ∧ (IsVals y6 v1 ((fixedL h.version 4).map VB)) ∧ (IsVals y6 v2 ((fixedL h.time 4).map VB)) ∧ (IsVals y6 v3 ((fixedL h.bits 4).map VB)) ∧ (IsVals y6 v4 ((fixedL h.nonce 4).map VB)) ∧ (AreLists y6 (.slice (some ⟨y5.heap.size, 0, none⟩) 6 6) [(fixedL h.version 4), h.prev, h.root, (fixedL h.time 4), (fixedL h.bits 4), (fixedL h.nonce 4)]) := ⟨hV1_18, hX1_19, hX2_20, hX3_21, hX4_22, hL19⟩
  refine mixOn ⟨(fun w => (Row w W0.heap.size 26 (headC h)) ∧ (IsVals w v1 ((fixedL h.version 4).map VB)) ∧ (IsVals w v2 ((fixedL h.time 4).map VB)) ∧ (IsVals w v3 ((fixedL h.bits 4).map VB)) ∧ (IsVals w v4 ((fixedL h.nonce 4).map VB)) ∧ (AreLists w (.slice (some ⟨y5.heap.size, 0, none⟩) 6 6) [(fixedL h.version 4), h.prev, h.root, (fixedL h.time 4), (fixedL h.bits 4), (fixedL h.nonce 4)])), (fun _ h => ⟨h.1, h.2.1, h.2.2.1, h.2.2.2.1, h.2.2.2.2.1⟩), hS, ?_⟩
  go_frame
  refine dLoud ?_
  refine kCall1 36 _ _ _ rfl rfl (by kernel_rfl) rfl ?_
  refine (((bConcat_any _ hL19 (by rw [hcat, headL_len hh]; decide) (by simp)).mono (fun _ _ h => own_at hB_23.size h))).mono ?_
  rintro e y7 ⟨vR, rfl, hXR, hBq⟩
  clear hS
  have hV1_24 := hV1_18.below hBq hV1_18.lt
  have hX1_25 := hX1_19.below hBq
  have hX2_26 := hX2_20.below hBq
  have hX3_27 := hX3_21.below hBq
  have hX4_28 := hX4_22.below hBq
  have hL19_29 := hL19.below hBq
  have hB_30 := hB_23.trans (hBq.mono hB_23.size)
  clear hV1_18 hX1_19 hX2_20 hX3_21 hX4_22 hL19 hB_23 hBq
  rw [hcat] at hXR
  have hS : (Row y7 W0.heap.size 26 (headC h)) ∧ (IsVals y7 v1 ((fixedL h.version 4).map VB)) ∧ (IsVals y7 v2 ((fixedL h.time 4).map VB)) ∧ (IsVals y7 v3 ((fixedL h.bits 4).map VB)) ∧ (IsVals y7 v4 ((fixedL h.nonce 4).map VB)) ∧ (AreLists y7 (.slice (some ⟨y5.heap.size, 0, none⟩) 6 6) [(fixedL h.version 4), h.prev, h.root, (fixedL h.time 4), (fixedL h.bits 4), (fixedL h.nonce 4)]) := ⟨hV1_24, hX1_25, hX2_26, hX3_27, hX4_28, hL19_29⟩
  refine ⟨_, rfl, mixOn ⟨(fun w => (Row w W0.heap.size 26 (headC h)) ∧ (IsVals w v1 ((fixedL h.version 4).map VB)) ∧ (IsVals w v2 ((fixedL h.time 4).map VB)) ∧ (IsVals w v3 ((fixedL h.bits 4).map VB)) ∧ (IsVals w v4 ((fixedL h.nonce 4).map VB)) ∧ (AreLists w (.slice (some ⟨y5.heap.size, 0, none⟩) 6 6) [(fixedL h.version 4), h.prev, h.root, (fixedL h.time 4), (fixedL h.bits 4), (fixedL h.nonce 4)])), (fun _ h => ⟨h.1, h.2.1, h.2.2.1, h.2.2.2.1, h.2.2.2.2.1, h.2.2.2.2.2⟩), hS, ?_⟩⟩
  go_frame
  refine dY _ hS (yAssign _ vR rfl rfl rfl) ?_; go_frame
  refine dDone ?_
  go_wp2
  go_ret
  exact ⟨_, rfl, hXR, hB_30⟩
set_option maxRecDepth 100000 in
set_option maxHeartbeats 8000000 in
theorem xHeadBytes_any {h : HeadP} (W0 : World) (hh : h.Is) : Calls Tryz.prog 15 #[.agg (headC h)] W0 (POwnPost W0 (headL h)) := by
  have hcat : fixedL h.version 4 ++ h.prev ++ h.root ++ fixedL h.time 4 ++ fixedL h.bits 4 ++ fixedL h.nonce 4 = headL h := by simp [headL]
  go_enter Tryz.func15, Tryz.ntmps15
  go_wp2_with (first
    | ((with_reducible change wpList _ _ _ (Oper.mk (some 1) _ _ _ _ _ :: _) _ _); refine kBoxL _ _ _ rfl rfl rfl ?_; intro w1 hR hz1 hBx; clear hz1; have hB := Below.refl w1.heap.size w1; go_frame)
    | ((with_reducible change wpList _ _ _ (Oper.mk (some 4) _ _ _ _ _ :: _) _ _); refine kFld headF0 _ _ 0 0 rfl rfl rfl rfl ?_; go_frame)
    | ((with_reducible change wpList _ _ _ (Oper.mk (some 5) _ _ _ _ _ :: _) _ _); refine kLd Tryz.underlying22 rfl _ _ 0 _ (.int .u32 (h.version : Int)) (hR.below hB hR.lt) (headC_0 _) rfl rfl rfl ?_; go_frame)
    | ((with_reducible change wpList _ _ _ (Oper.mk (some 6) _ _ _ _ _ :: _) _ _); refine kConvWU _ h.version hh.1 rfl rfl rfl ?_; go_frame)
    | (go_at_call 38; (with_reducible change Calls _ _ #[.int .u64 (h.version : Int), _] _ _); refine (jFixed_any h.version (Nat.lt_trans hh.1 (by decide)) 4 _).mono ?_; rintro e w2 ⟨v1, rfl, hN1, hBq⟩; rw [clamp4] at hN1; have hB1 := hB.trans (hBq.mono hB.size); clear hBq hB; go_frame)
    | ((with_reducible change wpList _ _ _ (Oper.mk (some 9) _ _ _ _ _ :: _) _ _); refine kFld headF1 _ _ 0 1 rfl rfl rfl rfl ?_; go_frame)
    | ((with_reducible change wpList _ _ _ (Oper.mk (some 10) _ _ _ _ _ :: _) _ _); refine kY (ySliceArrC Tryz.underlying24 info_b8P _ W0.heap.size 1 rfl rfl rfl) ?_; go_frame)
    | ((with_reducible change wpList _ _ _ (Oper.mk (some 11) _ _ _ _ _ :: _) _ _); refine kAppB _ _ rfl rfl w1.heap.size _ _ (fixedL h.version 4) (h.prev) hN1 (sub_vals (hR.below hB1 hR.lt) (by rw [headC_size]; decide) hh.2.1 (headC_prev _)) rfl rfl (by simp only [fixedL_len, hh.2.1]; decide) hB1.size ?_; intro u2 W2 hO2 hBq; have hC2 := hB1.trans hBq; clear hBq hB1 hN1; go_frame)
    | ((with_reducible change wpList _ _ _ (Oper.mk (some 13) _ _ _ _ _ :: _) _ _); refine kFld headF2 _ _ 0 33 rfl rfl rfl rfl ?_; go_frame)
    | ((with_reducible change wpList _ _ _ (Oper.mk (some 14) _ _ _ _ _ :: _) _ _); refine kY (ySliceArrC Tryz.underlying24 info_b8P _ W0.heap.size 33 rfl rfl rfl) ?_; go_frame)
    | ((with_reducible change wpList _ _ _ (Oper.mk (some 15) _ _ _ _ _ :: _) _ _); refine kAppB _ _ rfl rfl w1.heap.size _ _ (fixedL h.version 4 ++ h.prev) (h.root) hO2 (sub_vals (hR.below hC2 hR.lt) (by rw [headC_size]; decide) hh.2.2.1 (headC_root _)) rfl rfl (by simp only [List.length_append, fixedL_len, hh.2.1, hh.2.2.1]; decide) hC2.size ?_; intro u3 W3 hO3 hBq; have hC3 := hC2.trans hBq; clear hBq hC2 hO2; go_frame)
    | ((with_reducible change wpList _ _ _ (Oper.mk (some 17) _ _ _ _ _ :: _) _ _); refine kFld headF3 _ _ 0 65 rfl rfl rfl rfl ?_; go_frame)
    | ((with_reducible change wpList _ _ _ (Oper.mk (some 18) _ _ _ _ _ :: _) _ _); refine kLd Tryz.underlying22 rfl _ _ 65 _ (.int .u32 (h.time : Int)) (hR.below hC3 hR.lt) (headC_65 _) rfl rfl rfl ?_; go_frame)
    | ((with_reducible change wpList _ _ _ (Oper.mk (some 19) _ _ _ _ _ :: _) _ _); refine kConvWU _ h.time hh.2.2.2.1 rfl rfl rfl ?_; go_frame)
    | (go_at_call 38; (with_reducible change Calls _ _ #[.int .u64 (h.time : Int), _] _ _); refine (jFixed_any h.time (Nat.lt_trans hh.2.2.2.1 (by decide)) 4 _).mono ?_; rintro e w5 ⟨v4, rfl, hN4, hBq⟩; rw [clamp4] at hN4; have hB4 := hC3.trans (hBq.mono hC3.size); have hO3b := hO3.below hBq; clear hO3; clear hBq hC3; go_frame)
    | ((with_reducible change wpList _ _ _ (Oper.mk (some 21) _ _ _ _ _ :: _) _ _); refine kAppB _ _ rfl rfl w1.heap.size _ _ (fixedL h.version 4 ++ h.prev ++ h.root) (fixedL h.time 4) hO3b hN4.vals rfl rfl (by simp only [List.length_append, fixedL_len, hh.2.1, hh.2.2.1]; decide) hB4.size ?_; intro u5 W5 hO5 hBq; have hC5 := hB4.trans hBq; clear hBq hB4 hO3b; go_frame)
    | ((with_reducible change wpList _ _ _ (Oper.mk (some 23) _ _ _ _ _ :: _) _ _); refine kFld headF4 _ _ 0 66 rfl rfl rfl rfl ?_; go_frame)
    | ((with_reducible change wpList _ _ _ (Oper.mk (some 24) _ _ _ _ _ :: _) _ _); refine kLd Tryz.underlying22 rfl _ _ 66 _ (.int .u32 (h.bits : Int)) (hR.below hC5 hR.lt) (headC_66 _) rfl rfl rfl ?_; go_frame)
    | ((with_reducible change wpList _ _ _ (Oper.mk (some 25) _ _ _ _ _ :: _) _ _); refine kConvWU _ h.bits hh.2.2.2.2.1 rfl rfl rfl ?_; go_frame)
    | (go_at_call 38; (with_reducible change Calls _ _ #[.int .u64 (h.bits : Int), _] _ _); refine (jFixed_any h.bits (Nat.lt_trans hh.2.2.2.2.1 (by decide)) 4 _).mono ?_; rintro e w7 ⟨v6, rfl, hN6, hBq⟩; rw [clamp4] at hN6; have hB6 := hC5.trans (hBq.mono hC5.size); have hO5b := hO5.below hBq; clear hO5; clear hBq hC5; go_frame)
    | ((with_reducible change wpList _ _ _ (Oper.mk (some 27) _ _ _ _ _ :: _) _ _); refine kAppB _ _ rfl rfl w1.heap.size _ _ (fixedL h.version 4 ++ h.prev ++ h.root ++ fixedL h.time 4) (fixedL h.bits 4) hO5b hN6.vals rfl rfl (by simp only [List.length_append, fixedL_len, hh.2.1, hh.2.2.1]; decide) hB6.size ?_; intro u7 W7 hO7 hBq; have hC7 := hB6.trans hBq; clear hBq hB6 hO5b; go_frame)
    | ((with_reducible change wpList _ _ _ (Oper.mk (some 29) _ _ _ _ _ :: _) _ _); refine kFld headF5 _ _ 0 67 rfl rfl rfl rfl ?_; go_frame)
    | ((with_reducible change wpList _ _ _ (Oper.mk (some 30) _ _ _ _ _ :: _) _ _); refine kLd Tryz.underlying22 rfl _ _ 67 _ (.int .u32 (h.nonce : Int)) (hR.below hC7 hR.lt) (headC_67 _) rfl rfl rfl ?_; go_frame)
    | ((with_reducible change wpList _ _ _ (Oper.mk (some 31) _ _ _ _ _ :: _) _ _); refine kConvWU _ h.nonce hh.2.2.2.2.2 rfl rfl rfl ?_; go_frame)
    | (go_at_call 38; (with_reducible change Calls _ _ #[.int .u64 (h.nonce : Int), _] _ _); refine (jFixed_any h.nonce (Nat.lt_trans hh.2.2.2.2.2 (by decide)) 4 _).mono ?_; rintro e w9 ⟨v8, rfl, hN8, hBq⟩; rw [clamp4] at hN8; have hB8 := hC7.trans (hBq.mono hC7.size); have hO7b := hO7.below hBq; clear hO7; clear hBq hC7; go_frame)
    | ((with_reducible change wpList _ _ _ (Oper.mk (some 33) _ _ _ _ _ :: _) _ _); refine kAppB _ _ rfl rfl w1.heap.size _ _ (fixedL h.version 4 ++ h.prev ++ h.root ++ fixedL h.time 4 ++ fixedL h.bits 4) (fixedL h.nonce 4) hO7b hN8.vals rfl rfl (by simp only [List.length_append, fixedL_len, hh.2.1, hh.2.2.1]; decide) hB8.size ?_; intro u9 W9 hO9 hBq; have hC9 := hB8.trans hBq; clear hBq hB8 hO7b; go_frame))
  go_ret
  rw [hcat] at hO9
  have hs := hBx.size
  exact ⟨_, rfl, own_less hs hO9, hBx.trans (hC9.mono hs)⟩
theorem twice_lists {Ls : List (List UInt8)} {l : List UInt8} {v : Value} (h : Ls.flatten = l) (w : World) (hK : Keys w) (hv : AreLists w v Ls) (hn : Ls.length ≤ 1000000) (hlen : l.length < 1000000000000) : Calls Tryz.prog 39 #[v] w (HashPost w (sha (sha l))) := by
  subst h; exact Twice_any Ls v w hK hv hn hlen
set_option maxRecDepth 100000 in
set_option maxHeartbeats 8000000 in
theorem blId_any {h : HeadP} (W0 : World) (hh : h.Is) (hK : Keys W0) : Calls Tryz.prog 16 #[.agg (headC h)] W0 (HashPost W0 (hidL h)) := by
  go_enter Tryz.func16, Tryz.ntmps16
  have hB00 := Below.refl W0.heap.size W0
  go_wp2_with (first
    | ((with_reducible change wpList _ _ _ (Oper.mk (some 1) _ _ _ _ _ :: _) _ _); refine kBoxL _ _ _ rfl rfl rfl ?_; intro y1 hV1 hzq hBq; clear hzq; have hB_1 := hB00.trans (hBq.mono hB00.size); clear hB00 hBq; go_frame)
    | ((with_reducible change wpList _ _ _ (Oper.mk (some 2) _ _ _ _ _ :: _) _ _); refine kAllocL _ _ rfl rfl zero_Hash ?_; intro y2 hV2 hzq hBq; clear hzq; have hge2 : Hid (W0.heap.size ≤ y1.heap.size) := hB_1.size; have hV1_2 := hV1.below hBq hV1.lt; have hB_3 := hB_1.trans (hBq.mono hB_1.size); clear hV1 hB_1 hBq; go_frame)
    | ((with_reducible change wpList _ _ _ (Oper.mk (some 3) _ _ _ _ _ :: _) _ _); refine kY (yLoadRowC Tryz.underlying26 rfl _ _ (headC h) (info_HeadS _) (fun _ e => by cases e; exact hV1_2) rfl rfl rfl) ?_; go_frame)
    | (go_at_call 14; refine (blHeadBytes_any (h := h) _ hh).mono ?_; rintro e y3 ⟨v1, rfl, hX1o, hBq⟩; have hV1_4 := hV1_2.below hBq hV1_2.lt; have hV2_5 := hV2.below hBq hV2.lt; have hB_6 := hB_3.trans (hBq.mono hB_3.size); clear hV1_2 hV2 hB_3 hBq; have hX1 := hX1o.vals; clear hX1o; go_frame)
    | ((with_reducible change wpList _ _ _ (Oper.mk (some 5) _ _ _ _ _ :: _) _ _); refine kBuildLists1 _ rfl rfl rfl hX1 ?_; intro y4 hL5 hBq; have hV1_7 := hV1_4.below hBq hV1_4.lt; have hV2_8 := hV2_5.below hBq hV2_5.lt; have hX1_9 := hX1.below hBq; have hB_10 := hB_6.trans (hBq.mono hB_6.size); clear hV1_4 hV2_5 hX1 hB_6 hBq; go_frame)
    | (go_at_call 39; refine (twice_lists (l := headL h) (by simp) _ (hK.below hB_10) hL5 (by simp) (by rw [headL_len hh]; decide)).mono ?_; rintro e y5 ⟨rfl, hBq⟩; have hV1_11 := hV1_7.below hBq hV1_7.lt; have hV2_12 := hV2_8.below hBq hV2_8.lt; have hX1_13 := hX1_9.below hBq; have hL5_14 := hL5.below hBq; have hB_15 := hB_10.trans (hBq.mono hB_10.size); clear hV1_7 hV2_8 hX1_9 hL5 hB_10 hBq; go_frame)
    | ((with_reducible change wpList _ _ _ (Oper.mk none (Op.store _ (Operand.tmp 2) _) _ _ _ _ :: _) _ _); refine kStoreHash _ _ _ (hidL h) _ hV2_12 (by first | exact tab_size _ _ | rfl) rfl rfl rfl rfl ?_; intro y6 hR hWq; have hBB := hB_15.trans (hWq.below (hge2.out)); go_frame))
  (try simp only [Exit.inBlock, Exit.then])
  exact result_row rfl rfl hR Tryz.underlying24 rfl info_HashT rfl ⟨rfl, hBB⟩
set_option maxRecDepth 100000 in
set_option maxHeartbeats 8000000 in
theorem xId_any {h : HeadP} (W0 : World) (hh : h.Is) : Calls Tryz.prog 17 #[.agg (headC h)] W0 (HashPost W0 (hidL h)) := by
  go_enter Tryz.func17, Tryz.ntmps17
  have hB00 := Below.refl W0.heap.size W0
  go_wp2_with (first
    | ((with_reducible change wpList _ _ _ (Oper.mk (some 1) _ _ _ _ _ :: _) _ _); refine kBoxL _ _ _ rfl rfl rfl ?_; intro y1 hV1 hzq hBq; clear hzq; have hB_1 := hB00.trans (hBq.mono hB00.size); clear hB00 hBq; go_frame)
    | ((with_reducible change wpList _ _ _ (Oper.mk (some 2) _ _ _ _ _ :: _) _ _); refine kAllocL _ _ rfl rfl zero_Hash ?_; intro y2 hV2 hzq hBq; clear hzq; have hge2 : Hid (W0.heap.size ≤ y1.heap.size) := hB_1.size; have hV1_2 := hV1.below hBq hV1.lt; have hB_3 := hB_1.trans (hBq.mono hB_1.size); clear hV1 hB_1 hBq; go_frame)
    | ((with_reducible change wpList _ _ _ (Oper.mk (some 3) _ _ _ _ _ :: _) _ _); refine kY (yLoadRowC Tryz.underlying26 rfl _ _ (headC h) (info_HeadS _) (fun _ e => by cases e; exact hV1_2) rfl rfl rfl) ?_; go_frame)
    | (go_at_call 15; refine (xHeadBytes_any (h := h) _ hh).mono ?_; rintro e y3 ⟨v1, rfl, hX1o, hBq⟩; have hV1_4 := hV1_2.below hBq hV1_2.lt; have hV2_5 := hV2.below hBq hV2.lt; have hB_6 := hB_3.trans (hBq.mono hB_3.size); clear hV1_2 hV2 hB_3 hBq; have hX1 := hX1o.vals; clear hX1o; go_frame)
    | (go_at_call 40; refine (rTwice_any (headL h) _ _ hX1 (by rw [headL_len hh]; decide)).mono ?_; rintro e y4 ⟨rfl, hBq⟩; have hV1_7 := hV1_4.below hBq hV1_4.lt; have hV2_8 := hV2_5.below hBq hV2_5.lt; have hX1_9 := hX1.below hBq; have hB_10 := hB_6.trans (hBq.mono hB_6.size); clear hV1_4 hV2_5 hX1 hB_6 hBq; go_frame)
    | ((with_reducible change wpList _ _ _ (Oper.mk none (Op.store _ (Operand.tmp 2) _) _ _ _ _ :: _) _ _); refine kStoreHash _ _ _ (hidL h) _ hV2_8 (by first | exact tab_size _ _ | rfl) rfl rfl rfl rfl ?_; intro y5 hR hWq; have hBB := hB_10.trans (hWq.below (hge2.out)); go_frame))
  (try simp only [Exit.inBlock, Exit.then])
  exact result_row rfl rfl hR Tryz.underlying24 rfl info_HashT rfl ⟨rfl, hBB⟩
end Go.Proofs.YtmfjgehlkbndjaaGreatDoor

/-
  Layer 11: blocks as bytes; the same block; the names of its transactions.
-/
namespace Go.Proofs.YtmfjgehlkbndjaaGreatDoor
open Go Go.RowKit

section
variable {ops : Array Oper} {o : Oper} {a : Act} {S : World → Prop} {w : World}
theorem yLoadTxAt (x : Operand) (b : Addr) (z : TxZ) (hb : ∀ w, S w → ∀ (j : Nat) (u : Value), (txR z)[j]? = some u → w.cell? (b.add j) = some u) (ho : o.op = .load 34 x) (hg : Region.wanted o (yielded ops a.tmps) = true) (hx : a.eval x = .pointer (some b)) : YieldsIf Tryz.prog ops S o (.agg (txC z.1.version z.2.1 z.2.2 z.1.end')) a :=
  yLoadAt Tryz.underlying34 rfl info_TxC x b (txR z) (txR_len z) hb ho hg hx
theorem yLoadHsAt (x : Operand) (b : Addr) (l : List UInt8) (hb : ∀ w, S w → ∀ (j : Nat) (u : Value), (hashR l)[j]? = some u → w.cell? (b.add j) = some u) (ho : o.op = .load 24 x) (hg : Region.wanted o (yielded ops a.tmps) = true) (hx : a.eval x = .pointer (some b)) : YieldsIf Tryz.prog ops S o (HV l) a :=
  yLoadAt Tryz.underlying24 rfl info_HashCo x b (hashR l) (hashR_len l) hb ho hg hx
theorem txs_addr {w : World} {v : Value} {zs : List TxZ} {k : Nat} {z : TxZ} (h : AreTxs w v zs) (hz : zs[k]? = some z) : ∃ b : Addr, (∀ w' : World, (Instr.indexAt 27 v (.int .i64 (k : Int))).run Tryz.prog w' = .ok (.pointer (some b)) w') ∧ ∀ (j : Nat) (u : Value), (txR z)[j]? = some u → w.cell? (b.add j) = some u :=
  rows_addr Tryz.underlying27 info_TxC h.1 (by rw [List.getElem?_map, hz]; rfl)
theorem hs_addr {w : World} {v : Value} {l : List (List UInt8)} {k : Nat} {x : List UInt8} (h : HashesOf w v l) (hx : l[k]? = some x) : ∃ b : Addr, (∀ w' : World, (Instr.indexAt 46 v (.int .i64 (k : Int))).run Tryz.prog w' = .ok (.pointer (some b)) w') ∧ ∀ (j : Nat) (u : Value), (hashR x)[j]? = some u → w.cell? (b.add j) = some u :=
  rows_addr Tryz.underlying46 info_HashCo h (by rw [List.getElem?_map, hx]; rfl)
end
theorem idsL_take {l : List TxP} {k : Nat} {t : TxP} (h : l[k]? = some t) : idsL (l.take (k + 1)) = idsL (l.take k) ++ [idL t] := by
  obtain ⟨hk, rfl⟩ := List.getElem?_eq_some_iff.1 h
  unfold idsL; rw [List.take_succ_eq_append_getElem hk, List.map_append]; rfl
set_option maxRecDepth 100000 in
set_option maxHeartbeats 8000000 in
theorem blBytes_any {b : BlockP} {v : Value} (W0 : World) (hb : b.Is) (hf : b.Fits) (ht : TxsOf W0 v b.txs) : Calls Tryz.prog 20 #[.agg (blkC b.head v)] W0 (POwnPost W0 (blockL b)) := by
  obtain ⟨zs, es, hT⟩ := id ht
  obtain ⟨N, hN⟩ : ∃ N, b.txs.length = N := ⟨_, rfl⟩
  have hzN : zs.length = N := by rw [fst_lenT es, hN]
  have hN2 : N ≤ 100 := by rw [← hN]; exact hf.1
  have hcl := countL_le N
  have hhl := headL_len hb.1
  go_enter Tryz.func20, Tryz.ntmps20
  have hB00 := Below.refl W0.heap.size W0
  go_wp2_with (first
    | ((with_reducible change wpList _ _ _ (Oper.mk (some 1) _ _ _ _ _ :: _) _ _); refine kBoxL _ _ _ rfl rfl rfl ?_; intro y1 hV1 hzq hBq; clear hzq; have ht_1 := ht.below hBq; have hB_2 := hB00.trans (hBq.mono hB00.size); clear ht hB00 hBq; go_frame))
  refine region_mixD [(0, true), (1, true), (3, true), (4, true), (5, true), (6, true), (2, false), (7, false), (8, true)] (fun w => (TxsOf w v b.txs) ∧ (Row w W0.heap.size 29 (blkC b.head v))) (by kernel_rfl) (by kernel_rfl) rfl ?_
  intro z0 hBd hsd
  clear hsd
  have ht_3 := ht_1.below hBd
  have hV1_4 := hV1.below hBd hV1.lt
  have hB_5 := hB_2.trans (hBd.mono hB_2.size)
  clear ht_1 hV1 hB_2 hBd
  simp only [List.map_cons, List.map_nil]
  dsimp only [List.filterMap, List.getElem?_cons_zero, List.getElem?_cons_succ]
  have hS : (TxsOf z0 v b.txs) ∧ (Row z0 W0.heap.size 29 (blkC b.head v)) := ⟨ht_3, hV1_4⟩
  refine dY _ hS (yFld blkF0 _ _ 0 0 rfl rfl rfl rfl) ?_; go_frame
  refine dY _ hS (yLoadPartC Tryz.underlying26 rfl _ W0.heap.size 0 68 (blkC b.head v) _ info_HeadC (by rw [blkC_size]; decide) (blkC_head _ _) (fun _ h => h.2) rfl rfl rfl) ?_; go_frame
  refine dY _ hS (yFld blkF1 _ _ 0 68 rfl rfl rfl rfl) ?_; go_frame
  refine dY _ hS (yLoad1 _ _ _ W0.heap.size 68 (blkC b.head v) v _ rfl rfl rfl (fun _ h => h.2) Tryz.underlying27 rfl (blkC_68 _ _)) ?_; go_frame
  refine dY _ hS (yLenTxs _ v b.txs N (fun _ h => h.1) hN rfl rfl rfl) ?_; go_frame
  refine dY _ hS (yConvIU _ N (by omega) rfl rfl rfl) ?_; go_frame
  refine dLoud ?_
  refine kCall1 14 _ _ _ rfl rfl (by kernel_rfl) rfl ?_
  refine (blHeadBytes_any (h := b.head) _ hb.1).mono ?_
  rintro e y2 ⟨v1, rfl, hX1o, hBq⟩
  clear hS
  have ht_6 := ht_3.below hBq
  have hV1_7 := hV1_4.below hBq hV1_4.lt
  have hB_8 := hB_5.trans (hBq.mono hB_5.size)
  clear ht_3 hV1_4 hB_5 hBq
  have hX1 := hX1o.vals
  clear hX1o
  have hS : (TxsOf y2 v b.txs) ∧ (Row y2 W0.heap.size 29 (blkC b.head v)) ∧ (IsVals y2 v1 ((headL b.head).map VB)) := ⟨ht_6, hV1_7, hX1⟩
  refine ⟨_, rfl, mixOn ⟨(fun w => (TxsOf w v b.txs) ∧ (Row w W0.heap.size 29 (blkC b.head v)) ∧ (IsVals w v1 ((headL b.head).map VB))), (fun _ h => ⟨h.1, h.2.1⟩), hS, ?_⟩⟩
  go_frame
  refine dLoud ?_
  refine kCall2 41 _ _ _ _ _ rfl rfl (by kernel_rfl) rfl rfl ?_
  refine (((pcCount_any (l := headL b.head) N _ hX1 (by rw [headL_len hb.1]; decide)).mono (fun _ _ h => own_at hB_8.size h))).mono ?_
  rintro e y3 ⟨vR, rfl, hXR, hBq⟩
  clear hS
  have ht_9 := ht_6.below hBq
  have hV1_10 := hV1_7.below hBq hV1_7.lt
  have hX1_11 := hX1.below hBq
  have hB_12 := hB_8.trans (hBq.mono hB_8.size)
  clear ht_6 hV1_7 hX1 hB_8 hBq
  have hS : (TxsOf y3 v b.txs) ∧ (Row y3 W0.heap.size 29 (blkC b.head v)) ∧ (IsVals y3 v1 ((headL b.head).map VB)) := ⟨ht_9, hV1_10, hX1_11⟩
  refine ⟨_, rfl, mixOn ⟨(fun w => (TxsOf w v b.txs) ∧ (Row w W0.heap.size 29 (blkC b.head v)) ∧ (IsVals w v1 ((headL b.head).map VB))), (fun _ h => ⟨h.1, h.2.1, h.2.2⟩), hS, ?_⟩⟩
  go_frame
  refine dY _ hS (yAssign _ vR rfl rfl rfl) ?_; go_frame
  refine dDone ?_
  go_wp2_with (first
    | ((with_reducible change wpList _ _ _ (Oper.mk (some 14) _ _ _ _ _ :: _) _ _); refine kY (yFld blkF1 _ _ 0 68 rfl rfl rfl rfl) ?_; go_frame)
    | ((with_reducible change wpList _ _ _ (Oper.mk (some 15) _ _ _ _ _ :: _) _ _); refine kY (yLoad1 _ _ _ W0.heap.size 68 (blkC b.head v) v _ rfl rfl rfl (fun _ e => by cases e; exact hV1_10) Tryz.underlying27 rfl (blkC_68 _ _)) ?_; go_frame)
    | ((with_reducible change wpList _ _ _ (Oper.mk (some 16) _ _ _ _ _ :: _) _ _); refine kY (yLenTxs _ v b.txs N (fun _ e => by cases e; exact ht_9) hN rfl rfl rfl) ?_; go_frame))
  obtain ⟨A0, hA0⟩ : ∃ A0, headL b.head ++ countL N = A0 := ⟨_, rfl⟩
  have hAl : A0.length ≤ 89 := by rw [← hA0, List.length_append, hhl]; omega
  have hRR : Hid (A0 ++ txsL b.txs = blockL b) := by unfold blockL; rw [← hA0, hN, List.append_assoc]; rfl
  have hO0 := hXR
  have hB0 := hB_12
  rw [hA0] at hO0
  clear hA0
  go_loopw [17, 3] (fun x y wr => ∃ (k : Nat) (X : List UInt8), k ≤ N ∧ x = .int .i64 k ∧ OwnB wr W0.heap.size y X ∧ X ++ txsL (b.txs.drop k) = blockL b ∧ X.length ≤ 89 + k * 900000 ∧ Below W0.heap.size W0 wr) (fun x _ _ => N - (intOf x).toNat)
  case atStart => exact ⟨0, A0, by omega, rfl, hO0, by rw [List.drop_zero]; exact hRR.out, by omega, hB0⟩
  case round =>
    clear hRR hO0 hB0
    obtain ⟨k, X, hk, rfl, hO, hX, hXl, hB⟩ := hrel
    by_cases hlt : k < N
    · have hd : decide ((k : Int) < (N : Int)) = true := by simp; omega
      obtain ⟨z, hz⟩ : ∃ z, zs[k]? = some z := ⟨_, List.getElem?_eq_getElem (by omega)⟩
      have hik := fst_atT es hz
      have hmem := List.mem_of_getElem? hik
      have htI := hb.2 _ hmem
      have htF := hf.2 _ hmem
      obtain ⟨bd, hbd, hcell⟩ := txs_addr (hT.below hB) hz
      obtain ⟨h1, h2⟩ := hT.2 z (List.mem_of_getElem? hz)
      have hi := h1.below hB
      have ho := h2.below hB
      obtain ⟨⟨t, u1, u2⟩, hze⟩ : ∃ y, y = z := ⟨_, rfl⟩
      subst hze
      dsimp only at hik htI htF h1 h2 hi ho
      clear h1 h2 hz
      rw [txsL_step hik, ← List.append_assoc] at hX
      have htl := txL_len htI htF
      go_wp2_with (first
        | ((with_reducible change wpList _ _ _ (Oper.mk (some 18) _ _ _ _ _ :: _) _ _); refine kLssI _ _ _ _ .i64 (k : Int) (N : Int) true rfl rfl rfl rfl hd ?_; go_frame)
        | ((with_reducible change wpList _ _ _ (Oper.mk (some 19) _ _ _ _ _ :: _) _ _); refine kY (yIndexAt _ _ _ v k bd hbd rfl rfl rfl rfl) ?_; go_frame)
        | ((with_reducible change wpList _ _ _ (Oper.mk (some 20) _ _ _ _ _ :: _) _ _); refine kY (yLoadTxAt _ bd (t, u1, u2) (fun _ e => by cases e; exact hcell) rfl rfl rfl) ?_; clear hcell; dsimp only; go_frame)
        | ((with_reducible change wpList _ _ _ (Oper.mk (some 5) _ _ _ _ _ :: _) _ _); refine kAllocL _ _ rfl rfl zero_TxC ?_; intro w1 hV hz1 hBq; clear hz1; have hg1 : Hid (W0.heap.size ≤ wr.heap.size) := hB.size; go_frame)
        | ((with_reducible change wpList _ _ _ (Oper.mk none (Op.store _ (Operand.tmp 5) _) _ _ _ _ :: _) _ _); refine kStoreTx _ _ _ t.version t.end' u1 u2 _ hV rfl hi.sl.one ho.sl.one rfl rfl rfl rfl ?_; intro w2 hV2 hWq; have hBq2 := hBq.trans (hWq.below (Nat.le_refl _)); have hO2 := hO.below hBq2; clear hO;  have hB2 := hB.trans (hBq2.mono hB.size); have hi2 := hi.below hBq2; have ho2 := ho.below hBq2; clear hBq hWq hB hi ho hV hBq2; go_frame)
        | ((with_reducible change wpList _ _ _ (Oper.mk (some 22) _ _ _ _ _ :: _) _ _); refine kLoadTx _ _ t.version t.end' u1 u2 hV2 rfl rfl rfl ?_; go_frame)
        | (go_at_call 42; refine (tBytes_any _ htI htF hi2 ho2).mono ?_; rintro e w3 ⟨v3, rfl, hO3, hBq⟩; have hO4 := hO2.below hBq; have hB3 := hB2.trans (hBq.mono hB2.size); clear hBq hO2 hB2 hV2 hi2 ho2; go_frame)
        | ((with_reducible change wpList _ _ _ (Oper.mk (some 24) _ _ _ _ _ :: _) _ _); refine kAppB _ _ rfl rfl W0.heap.size _ _ X (txL t) hO4 hO3.vals rfl rfl (by omega) hB3.size ?_; intro v5 w5 hO5 hBq; have hB5 := hB3.trans hBq; clear hBq hO4 hO3 hB3; go_frame)
        | ((with_reducible change wpList _ _ _ (Oper.mk (some 25) _ _ _ _ _ :: _) _ _); refine kAddI _ _ _ _ (k : Int) 1 ((k + 1 : Nat) : Int) (by omega) rfl rfl rfl rfl ?_; go_frame))
      go_roundw
      case rel => exact ⟨k + 1, X ++ txL t, by omega, rfl, hO5, hX, by rw [List.length_append]; omega, hB5⟩
      case measure => simp [intOf]; omega
    · have hd : decide ((k : Int) < (N : Int)) = false := by simp; omega
      have hXX : X = blockL b := by
        rw [← hX, List.drop_eq_nil_of_le (by omega)]; simp [txsL]
      rw [hXX] at hO
      go_wp2_with (first
        | ((with_reducible change wpList _ _ _ (Oper.mk (some 18) _ _ _ _ _ :: _) _ _); refine kLssI _ _ _ _ .i64 (k : Int) (N : Int) false rfl rfl rfl rfl hd ?_; go_frame))
      go_ret
      exact ⟨_, rfl, hO, hB⟩
set_option maxRecDepth 100000 in
set_option maxHeartbeats 8000000 in
theorem xBytes_any {b : BlockP} {v : Value} (W0 : World) (hb : b.Is) (hf : b.Fits) (ht : TxsOf W0 v b.txs) : Calls Tryz.prog 22 #[.agg (blkC b.head v)] W0 (POwnPost W0 (blockL b)) := by
  obtain ⟨zs, es, hT⟩ := id ht
  obtain ⟨N, hN⟩ : ∃ N, b.txs.length = N := ⟨_, rfl⟩
  have hzN : zs.length = N := by rw [fst_lenT es, hN]
  have hN2 : N ≤ 100 := by rw [← hN]; exact hf.1
  have hcl := countL_le N
  have hhl := headL_len hb.1
  go_enter Tryz.func22, Tryz.ntmps22
  go_wp2_with (first
    | ((with_reducible change wpList _ _ _ (Oper.mk (some 1) _ _ _ _ _ :: _) _ _); refine kBoxL _ _ _ rfl rfl rfl ?_; intro w1 hR hz1 hB1; clear hz1; have hiT := ht.below hB1; go_frame))
  refine region_mixD [(0, true), (1, true), (3, true), (4, true), (5, true), (6, true), (2, false), (7, false), (8, false), (9, true)] (fun w => Row w W0.heap.size 29 (blkC b.head v) ∧ TxsOf w v b.txs) (by kernel_rfl) (by kernel_rfl) rfl ?_
  intro z0 hBd hsd
  clear hsd
  have hR0 := hR.below hBd hR.lt
  have hT0 := hiT.below hBd
  have hB0 := hB1.trans (hBd.mono hB1.size)
  clear hR hiT hB1 hBd
  simp only [List.map_cons, List.map_nil]
  dsimp only [List.filterMap, List.getElem?_cons_zero, List.getElem?_cons_succ]
  have hS : Row z0 W0.heap.size 29 (blkC b.head v) ∧ TxsOf z0 v b.txs := ⟨hR0, hT0⟩
  refine dY _ hS (yFld blkF0 _ _ 0 0 rfl rfl rfl rfl) ?_; go_frame
  refine dY _ hS (yLoadPartC Tryz.underlying26 rfl _ W0.heap.size 0 68 (blkC b.head v) _ info_HeadC (by rw [blkC_size]; decide) (blkC_head _ _) (fun _ h => h.1) rfl rfl rfl) ?_; go_frame
  refine dY _ hS (yFld blkF1 _ _ 0 68 rfl rfl rfl rfl) ?_; go_frame
  refine dY _ hS (yLoad1 _ _ _ W0.heap.size 68 (blkC b.head v) v _ rfl rfl rfl (fun _ h => h.1) Tryz.underlying27 rfl (blkC_68 _ _)) ?_; go_frame
  refine dY _ hS (yLenTxs _ v b.txs N (fun _ h => h.2) hN rfl rfl rfl) ?_; go_frame
  refine dY _ hS (yConvIU _ N (by omega) rfl rfl rfl) ?_; go_frame
  refine dLoud ?_
  refine kCall1 15 _ _ _ rfl rfl (by kernel_rfl) rfl ?_
  refine ((xHeadBytes_any _ hb.1).mono (fun _ _ h => own_at hB0.size h)).mono ?_
  rintro e y1 ⟨vH, rfl, hH, hBq⟩
  have hR1 := hR0.below hBq hR0.lt
  have hT1 := hT0.below hBq
  have hB1 := hB0.trans (hBq.mono hB0.size)
  clear hS hR0 hT0 hB0 hBq
  have hS : Row y1 W0.heap.size 29 (blkC b.head v) ∧ TxsOf y1 v b.txs := ⟨hR1, hT1⟩
  refine ⟨_, rfl, mixOn ⟨_, (fun _ h => h), hS, ?_⟩⟩
  go_frame
  refine dLoud ?_
  refine kCall1 44 _ _ _ rfl rfl (by kernel_rfl) rfl ?_
  refine (jCount_any (n := N) (by omega) _).mono ?_
  rintro e y2 ⟨vC, rfl, hC, hBq⟩
  have hR2 := hR1.below hBq hR1.lt
  have hT2 := hT1.below hBq
  have hB2 := hB1.trans (hBq.mono hB1.size)
  have hH2 := hH.below hBq
  clear hS hR1 hT1 hB1 hBq hH
  have hS : Row y2 W0.heap.size 29 (blkC b.head v) ∧ TxsOf y2 v b.txs := ⟨hR2, hT2⟩
  refine ⟨_, rfl, mixOn ⟨_, (fun _ h => h), hS, ?_⟩⟩
  go_frame
  refine dLoud ?_
  refine kAppBg _ _ rfl rfl W0.heap.size _ _ (headL b.head) (countL N) hH2 hC.vals rfl rfl (by rw [headL_len hb.1]; omega) hB2.size ?_
  intro vR y3 hO hBq hgr
  have hR3 := row_app hH2 hR2 (by decide) hgr
  have hB3 := hB2.trans hBq
  have hT3 := ht.below hB3
  clear hS hR2 hT2 hB2 hBq hH2 hC hgr
  have hS : Row y3 W0.heap.size 29 (blkC b.head v) ∧ TxsOf y3 v b.txs := ⟨hR3, hT3⟩
  refine mixOn ⟨_, (fun _ h => h), hS, ?_⟩
  go_frame
  refine dY _ hS (yAssign _ vR rfl rfl rfl) ?_; go_frame
  refine dDone ?_
  go_wp2_with (first
    | ((with_reducible change wpList _ _ _ (Oper.mk (some 15) _ _ _ _ _ :: _) _ _); refine kY (yFld blkF1 _ _ 0 68 rfl rfl rfl rfl) ?_; go_frame)
    | ((with_reducible change wpList _ _ _ (Oper.mk (some 16) _ _ _ _ _ :: _) _ _); refine kY (yLoad1 _ _ _ W0.heap.size 68 (blkC b.head v) v _ rfl rfl rfl (fun _ e => by cases e; exact hR3) Tryz.underlying27 rfl (blkC_68 _ _)) ?_; go_frame)
    | ((with_reducible change wpList _ _ _ (Oper.mk (some 17) _ _ _ _ _ :: _) _ _); refine kY (yLenTxs _ v b.txs N (fun _ e => by cases e; exact hT3) hN rfl rfl rfl) ?_; go_frame))
  obtain ⟨A0, hA0⟩ : ∃ A0, headL b.head ++ countL N = A0 := ⟨_, rfl⟩
  have hAl : A0.length ≤ 89 := by rw [← hA0, List.length_append, hhl]; omega
  have hRR : Hid (A0 ++ txsL b.txs = blockL b) := by unfold blockL; rw [← hA0, hN, List.append_assoc]; rfl
  have hO0 := hO
  have hB0 := hB3
  rw [hA0] at hO0
  clear hA0
  go_loopw [18, 3] (fun x y wr => ∃ (k : Nat) (X : List UInt8), k ≤ N ∧ x = .int .i64 k ∧ OwnB wr W0.heap.size y X ∧ X ++ txsL (b.txs.drop k) = blockL b ∧ X.length ≤ 89 + k * 900000 ∧ Below W0.heap.size W0 wr) (fun x _ _ => N - (intOf x).toNat)
  case atStart => exact ⟨0, A0, by omega, rfl, hO0, by rw [List.drop_zero]; exact hRR.out, by omega, hB0⟩
  case round =>
    clear hRR hO0 hB0
    obtain ⟨k, X, hk, rfl, hO, hX, hXl, hB⟩ := hrel
    by_cases hlt : k < N
    · have hd : decide ((k : Int) < (N : Int)) = true := by simp; omega
      obtain ⟨z, hz⟩ : ∃ z, zs[k]? = some z := ⟨_, List.getElem?_eq_getElem (by omega)⟩
      have hik := fst_atT es hz
      have hmem := List.mem_of_getElem? hik
      have htI := hb.2 _ hmem
      have htF := hf.2 _ hmem
      obtain ⟨bd, hbd, hcell⟩ := txs_addr (hT.below hB) hz
      obtain ⟨h1, h2⟩ := hT.2 z (List.mem_of_getElem? hz)
      have hi := h1.below hB
      have ho := h2.below hB
      obtain ⟨⟨t, u1, u2⟩, hze⟩ : ∃ y, y = z := ⟨_, rfl⟩
      subst hze
      dsimp only at hik htI htF h1 h2 hi ho
      clear h1 h2 hz
      rw [txsL_step hik, ← List.append_assoc] at hX
      have htl := txL_len htI htF
      go_wp2_with (first
        | ((with_reducible change wpList _ _ _ (Oper.mk (some 19) _ _ _ _ _ :: _) _ _); refine kLssI _ _ _ _ .i64 (k : Int) (N : Int) true rfl rfl rfl rfl hd ?_; go_frame)
        | ((with_reducible change wpList _ _ _ (Oper.mk (some 20) _ _ _ _ _ :: _) _ _); refine kY (yIndexAt _ _ _ v k bd hbd rfl rfl rfl rfl) ?_; go_frame)
        | ((with_reducible change wpList _ _ _ (Oper.mk (some 21) _ _ _ _ _ :: _) _ _); refine kY (yLoadTxAt _ bd (t, u1, u2) (fun _ e => by cases e; exact hcell) rfl rfl rfl) ?_; clear hcell; dsimp only; go_frame)
        | ((with_reducible change wpList _ _ _ (Oper.mk (some 5) _ _ _ _ _ :: _) _ _); refine kAllocL _ _ rfl rfl zero_TxC ?_; intro w1 hV hz1 hBq; clear hz1; have hg1 : Hid (W0.heap.size ≤ wr.heap.size) := hB.size; go_frame)
        | ((with_reducible change wpList _ _ _ (Oper.mk none (Op.store _ (Operand.tmp 5) _) _ _ _ _ :: _) _ _); refine kStoreTx _ _ _ t.version t.end' u1 u2 _ hV rfl hi.sl.one ho.sl.one rfl rfl rfl rfl ?_; intro w2 hV2 hWq; have hBq2 := hBq.trans (hWq.below (Nat.le_refl _)); have hO2 := hO.below hBq2; clear hO;  have hB2 := hB.trans (hBq2.mono hB.size); have hi2 := hi.below hBq2; have ho2 := ho.below hBq2; clear hBq hWq hB hi ho hV hBq2; go_frame)
        | ((with_reducible change wpList _ _ _ (Oper.mk (some 23) _ _ _ _ _ :: _) _ _); refine kLoadTx _ _ t.version t.end' u1 u2 hV2 rfl rfl rfl ?_; go_frame)
        | (go_at_call 45; refine (yBytes_any _ htI htF hi2 ho2).mono ?_; rintro e w3 ⟨v3, rfl, hO3, hBq⟩; have hO4 := hO2.below hBq; have hB3 := hB2.trans (hBq.mono hB2.size); clear hBq hO2 hB2 hV2 hi2 ho2; go_frame)
        | ((with_reducible change wpList _ _ _ (Oper.mk (some 25) _ _ _ _ _ :: _) _ _); refine kAppB _ _ rfl rfl W0.heap.size _ _ X (txL t) hO4 hO3.vals rfl rfl (by omega) hB3.size ?_; intro v5 w5 hO5 hBq; have hB5 := hB3.trans hBq; clear hBq hO4 hO3 hB3; go_frame)
        | ((with_reducible change wpList _ _ _ (Oper.mk (some 26) _ _ _ _ _ :: _) _ _); refine kAddI _ _ _ _ (k : Int) 1 ((k + 1 : Nat) : Int) (by omega) rfl rfl rfl rfl ?_; go_frame))
      go_roundw
      case rel => exact ⟨k + 1, X ++ txL t, by omega, rfl, hO5, hX, by rw [List.length_append]; omega, hB5⟩
      case measure => simp [intOf]; omega
    · have hd : decide ((k : Int) < (N : Int)) = false := by simp; omega
      have hXX : X = blockL b := by
        rw [← hX, List.drop_eq_nil_of_le (by omega)]; simp [txsL]
      rw [hXX] at hO
      go_wp2_with (first
        | ((with_reducible change wpList _ _ _ (Oper.mk (some 19) _ _ _ _ _ :: _) _ _); refine kLssI _ _ _ _ .i64 (k : Int) (N : Int) false rfl rfl rfl rfl hd ?_; go_frame))
      go_ret
      exact ⟨_, rfl, hO, hB⟩
set_option maxRecDepth 100000 in
set_option maxHeartbeats 8000000 in
theorem blSame_any {b c : BlockP} {v u : Value} (W0 : World) (hb : b.Is) (fb : b.Fits) (hc : c.Is) (fc : c.Fits) (htb : TxsOf W0 v b.txs) (htc : TxsOf W0 u c.txs) : Calls Tryz.prog 23 #[.agg (blkC b.head v), .agg (blkC c.head u)] W0 (BoolPost W0 (blockL b == blockL c)) := by
  go_enter Tryz.func23, Tryz.ntmps23
  have hB00 := Below.refl W0.heap.size W0
  go_wp2_with (first
    | ((with_reducible change wpList _ _ _ (Oper.mk (some 2) _ _ _ _ _ :: _) _ _); refine kBoxL _ _ _ rfl rfl rfl ?_; intro y1 hV2 hzq hBq; clear hzq; have htb_1 := htb.below hBq; have htc_2 := htc.below hBq; have hB_3 := hB00.trans (hBq.mono hB00.size); clear htb htc hB00 hBq; go_frame)
    | ((with_reducible change wpList _ _ _ (Oper.mk (some 3) _ _ _ _ _ :: _) _ _); refine kBoxL _ _ _ rfl rfl rfl ?_; intro y2 hV3 hzq hBq; clear hzq; have htb_4 := htb_1.below hBq; have htc_5 := htc_2.below hBq; have hV2_6 := hV2.below hBq hV2.lt; have hB_7 := hB_3.trans (hBq.mono hB_3.size); clear htb_1 htc_2 hV2 hB_3 hBq; go_frame))
  refine region_mixD [(0, true), (2, true), (1, false), (3, false), (4, false), (5, true)] (fun w => (TxsOf w v b.txs) ∧ (TxsOf w u c.txs) ∧ (Row w W0.heap.size 29 (blkC b.head v)) ∧ (Row w y1.heap.size 29 (blkC c.head u))) (by kernel_rfl) (by kernel_rfl) rfl ?_
  intro z0 hBd hsd
  clear hsd
  have htb_8 := htb_4.below hBd
  have htc_9 := htc_5.below hBd
  have hV2_10 := hV2_6.below hBd hV2_6.lt
  have hV3_11 := hV3.below hBd hV3.lt
  have hB_12 := hB_7.trans (hBd.mono hB_7.size)
  clear htb_4 htc_5 hV2_6 hV3 hB_7 hBd
  simp only [List.map_cons, List.map_nil]
  dsimp only [List.filterMap, List.getElem?_cons_zero, List.getElem?_cons_succ]
  have hS : (TxsOf z0 v b.txs) ∧ (TxsOf z0 u c.txs) ∧ (Row z0 W0.heap.size 29 (blkC b.head v)) ∧ (Row z0 y1.heap.size 29 (blkC c.head u)) := ⟨htb_8, htc_9, hV2_10, hV3_11⟩
  refine dY _ hS (yLoadRowC Tryz.underlying29 rfl _ _ (blkC b.head v) (info_BlkS _ _) (fun _ h => h.2.2.1) rfl rfl rfl) ?_; go_frame
  refine dY _ hS (yLoadRowC Tryz.underlying29 rfl _ _ (blkC c.head u) (info_BlkS _ _) (fun _ h => h.2.2.2) rfl rfl rfl) ?_; go_frame
  refine dLoud ?_
  refine kCall1 20 _ _ _ rfl rfl (by kernel_rfl) rfl ?_
  refine (blBytes_any (b := b) _ hb fb htb_8).mono ?_
  rintro e y3 ⟨v1, rfl, hX1o, hBq⟩
  clear hS
  have htb_13 := htb_8.below hBq
  have htc_14 := htc_9.below hBq
  have hV2_15 := hV2_10.below hBq hV2_10.lt
  have hV3_16 := hV3_11.below hBq hV3_11.lt
  have hB_17 := hB_12.trans (hBq.mono hB_12.size)
  clear htb_8 htc_9 hV2_10 hV3_11 hB_12 hBq
  have hX1 := hX1o.vals
  clear hX1o
  have hS : (TxsOf y3 v b.txs) ∧ (TxsOf y3 u c.txs) ∧ (Row y3 W0.heap.size 29 (blkC b.head v)) ∧ (Row y3 y1.heap.size 29 (blkC c.head u)) ∧ (IsVals y3 v1 ((blockL b).map VB)) := ⟨htb_13, htc_14, hV2_15, hV3_16, hX1⟩
  refine ⟨_, rfl, mixOn ⟨(fun w => (TxsOf w v b.txs) ∧ (TxsOf w u c.txs) ∧ (Row w W0.heap.size 29 (blkC b.head v)) ∧ (Row w y1.heap.size 29 (blkC c.head u)) ∧ (IsVals w v1 ((blockL b).map VB))), (fun _ h => ⟨h.1, h.2.1, h.2.2.1, h.2.2.2.1⟩), hS, ?_⟩⟩
  go_frame
  refine dLoud ?_
  refine kCall1 20 _ _ _ rfl rfl (by kernel_rfl) rfl ?_
  refine (blBytes_any (b := c) _ hc fc htc_14).mono ?_
  rintro e y4 ⟨v2, rfl, hX2o, hBq⟩
  clear hS
  have htb_18 := htb_13.below hBq
  have htc_19 := htc_14.below hBq
  have hV2_20 := hV2_15.below hBq hV2_15.lt
  have hV3_21 := hV3_16.below hBq hV3_16.lt
  have hX1_22 := hX1.below hBq
  have hB_23 := hB_17.trans (hBq.mono hB_17.size)
  clear htb_13 htc_14 hV2_15 hV3_16 hX1 hB_17 hBq
  have hX2 := hX2o.vals
  clear hX2o
  have hS : (TxsOf y4 v b.txs) ∧ (TxsOf y4 u c.txs) ∧ (Row y4 W0.heap.size 29 (blkC b.head v)) ∧ (Row y4 y1.heap.size 29 (blkC c.head u)) ∧ (IsVals y4 v1 ((blockL b).map VB)) ∧ (IsVals y4 v2 ((blockL c).map VB)) := ⟨htb_18, htc_19, hV2_20, hV3_21, hX1_22, hX2⟩
  refine ⟨_, rfl, mixOn ⟨(fun w => (TxsOf w v b.txs) ∧ (TxsOf w u c.txs) ∧ (Row w W0.heap.size 29 (blkC b.head v)) ∧ (Row w y1.heap.size 29 (blkC c.head u)) ∧ (IsVals w v1 ((blockL b).map VB)) ∧ (IsVals w v2 ((blockL c).map VB))), (fun _ h => ⟨h.1, h.2.1, h.2.2.1, h.2.2.2.1, h.2.2.2.2.1⟩), hS, ?_⟩⟩
  go_frame
  refine dLoud ?_
  refine kCall2 46 _ _ _ _ _ rfl rfl (by kernel_rfl) rfl rfl ?_
  refine (cEqual_any _ hX1_22 hX2).mono ?_
  rintro e y4 ⟨rfl, rfl⟩
  refine ⟨_, rfl, mixOn ⟨_, (fun _ h => h), hS, ?_⟩⟩
  go_frame
  refine dY _ hS (yAssign _ (.bool ((blockL b) == (blockL c))) rfl rfl rfl) ?_; go_frame
  refine dDone ?_
  go_wp2
  go_ret
  exact ⟨rfl, hB_23⟩
set_option maxRecDepth 100000 in
set_option maxHeartbeats 8000000 in
theorem xSame_any {b c : BlockP} {v u : Value} (W0 : World) (hb : b.Is) (fb : b.Fits) (hc : c.Is) (fc : c.Fits) (htb : TxsOf W0 v b.txs) (htc : TxsOf W0 u c.txs) : Calls Tryz.prog 24 #[.agg (blkC b.head v), .agg (blkC c.head u)] W0 (BoolPost W0 (blockL b == blockL c)) := by
  go_enter Tryz.func24, Tryz.ntmps24
  have hB00 := Below.refl W0.heap.size W0
  go_wp2_with (first
    | ((with_reducible change wpList _ _ _ (Oper.mk (some 2) _ _ _ _ _ :: _) _ _); refine kBoxL _ _ _ rfl rfl rfl ?_; intro y1 hV2 hzq hBq; clear hzq; have htb_1 := htb.below hBq; have htc_2 := htc.below hBq; have hB_3 := hB00.trans (hBq.mono hB00.size); clear htb htc hB00 hBq; go_frame)
    | ((with_reducible change wpList _ _ _ (Oper.mk (some 3) _ _ _ _ _ :: _) _ _); refine kBoxL _ _ _ rfl rfl rfl ?_; intro y2 hV3 hzq hBq; clear hzq; have htb_4 := htb_1.below hBq; have htc_5 := htc_2.below hBq; have hV2_6 := hV2.below hBq hV2.lt; have hB_7 := hB_3.trans (hBq.mono hB_3.size); clear htb_1 htc_2 hV2 hB_3 hBq; go_frame))
  refine region_mixD [(0, true), (3, true), (1, false), (2, true), (4, false), (5, true), (6, true), (7, true)] (fun w => (TxsOf w v b.txs) ∧ (TxsOf w u c.txs) ∧ (Row w W0.heap.size 29 (blkC b.head v)) ∧ (Row w y1.heap.size 29 (blkC c.head u))) (by kernel_rfl) (by kernel_rfl) rfl ?_
  intro z0 hBd hsd
  clear hsd
  have htb_8 := htb_4.below hBd
  have htc_9 := htc_5.below hBd
  have hV2_10 := hV2_6.below hBd hV2_6.lt
  have hV3_11 := hV3.below hBd hV3.lt
  have hB_12 := hB_7.trans (hBd.mono hB_7.size)
  clear htb_4 htc_5 hV2_6 hV3 hB_7 hBd
  simp only [List.map_cons, List.map_nil]
  dsimp only [List.filterMap, List.getElem?_cons_zero, List.getElem?_cons_succ]
  have hS : (TxsOf z0 v b.txs) ∧ (TxsOf z0 u c.txs) ∧ (Row z0 W0.heap.size 29 (blkC b.head v)) ∧ (Row z0 y1.heap.size 29 (blkC c.head u)) := ⟨htb_8, htc_9, hV2_10, hV3_11⟩
  refine dY _ hS (yLoadRowC Tryz.underlying29 rfl _ _ (blkC b.head v) (info_BlkS _ _) (fun _ h => h.2.2.1) rfl rfl rfl) ?_; go_frame
  refine dY _ hS (yLoadRowC Tryz.underlying29 rfl _ _ (blkC c.head u) (info_BlkS _ _) (fun _ h => h.2.2.2) rfl rfl rfl) ?_; go_frame
  refine dLoud ?_
  refine kCall1 22 _ _ _ rfl rfl (by kernel_rfl) rfl ?_
  refine (xBytes_any (b := b) _ hb fb htb_8).mono ?_
  rintro e y3 ⟨v1, rfl, hX1o, hBq⟩
  clear hS
  have htb_13 := htb_8.below hBq
  have htc_14 := htc_9.below hBq
  have hV2_15 := hV2_10.below hBq hV2_10.lt
  have hV3_16 := hV3_11.below hBq hV3_11.lt
  have hB_17 := hB_12.trans (hBq.mono hB_12.size)
  clear htb_8 htc_9 hV2_10 hV3_11 hB_12 hBq
  have hX1 := hX1o.vals
  clear hX1o
  have hS : (TxsOf y3 v b.txs) ∧ (TxsOf y3 u c.txs) ∧ (Row y3 W0.heap.size 29 (blkC b.head v)) ∧ (Row y3 y1.heap.size 29 (blkC c.head u)) ∧ (IsVals y3 v1 ((blockL b).map VB)) := ⟨htb_13, htc_14, hV2_15, hV3_16, hX1⟩
  refine ⟨_, rfl, mixOn ⟨(fun w => (TxsOf w v b.txs) ∧ (TxsOf w u c.txs) ∧ (Row w W0.heap.size 29 (blkC b.head v)) ∧ (Row w y1.heap.size 29 (blkC c.head u)) ∧ (IsVals w v1 ((blockL b).map VB))), (fun _ h => ⟨h.1, h.2.1, h.2.2.1, h.2.2.2.1⟩), hS, ?_⟩⟩
  go_frame
  refine dY _ hS (yStr _ _ _ _ v1 (blockL b) rfl rfl rfl (fun _ h => h.2.2.2.2) Tryz.underlying38 Tryz.underlying5 Tryz.underlying9) ?_; go_frame
  refine dLoud ?_
  refine kCall1 22 _ _ _ rfl rfl (by kernel_rfl) rfl ?_
  refine (xBytes_any (b := c) _ hc fc htc_14).mono ?_
  rintro e y4 ⟨v2, rfl, hX2o, hBq⟩
  clear hS
  have htb_18 := htb_13.below hBq
  have htc_19 := htc_14.below hBq
  have hV2_20 := hV2_15.below hBq hV2_15.lt
  have hV3_21 := hV3_16.below hBq hV3_16.lt
  have hX1_22 := hX1.below hBq
  have hB_23 := hB_17.trans (hBq.mono hB_17.size)
  clear htb_13 htc_14 hV2_15 hV3_16 hX1 hB_17 hBq
  have hX2 := hX2o.vals
  clear hX2o
  have hS : (TxsOf y4 v b.txs) ∧ (TxsOf y4 u c.txs) ∧ (Row y4 W0.heap.size 29 (blkC b.head v)) ∧ (Row y4 y1.heap.size 29 (blkC c.head u)) ∧ (IsVals y4 v1 ((blockL b).map VB)) ∧ (IsVals y4 v2 ((blockL c).map VB)) := ⟨htb_18, htc_19, hV2_20, hV3_21, hX1_22, hX2⟩
  refine ⟨_, rfl, mixOn ⟨(fun w => (TxsOf w v b.txs) ∧ (TxsOf w u c.txs) ∧ (Row w W0.heap.size 29 (blkC b.head v)) ∧ (Row w y1.heap.size 29 (blkC c.head u)) ∧ (IsVals w v1 ((blockL b).map VB)) ∧ (IsVals w v2 ((blockL c).map VB))), (fun _ h => ⟨h.1, h.2.1, h.2.2.1, h.2.2.2.1, h.2.2.2.2.1⟩), hS, ?_⟩⟩
  go_frame
  refine dY _ hS (yStr _ _ _ _ v2 (blockL c) rfl rfl rfl (fun _ h => h.2.2.2.2.2) Tryz.underlying38 Tryz.underlying5 Tryz.underlying9) ?_; go_frame
  refine dY _ hS (yEqlStr _ _ _ _ (blockL b) (blockL c) (blockL b == blockL c) rfl rfl rfl rfl rfl) ?_; go_frame
  refine dY _ hS (yAssign _ (.bool (blockL b == blockL c)) rfl rfl rfl) ?_; go_frame
  refine dDone ?_
  go_wp2
  go_ret
  exact ⟨rfl, hB_23⟩
set_option maxRecDepth 100000 in
set_option maxHeartbeats 8000000 in
theorem blIds_any {b : BlockP} {v : Value} (W0 : World) (hb : b.Is) (hf : b.Fits) (ht : TxsOf W0 v b.txs) (hK : Keys W0) : Calls Tryz.prog 26 #[.agg (blkC b.head v)] W0 (fun e w' => ∃ u, e = .returned u ∧ OwnHs w' W0.heap.size u (idsL b.txs) ∧ Below W0.heap.size W0 w') := by
  obtain ⟨zs, es, hT⟩ := id ht
  obtain ⟨N, hN⟩ : ∃ N, b.txs.length = N := ⟨_, rfl⟩
  have hzN : zs.length = N := by rw [fst_lenT es, hN]
  have hN2 : N ≤ 100 := by rw [← hN]; exact hf.1
  go_enter Tryz.func26, Tryz.ntmps26
  go_wp2_with (first
    | ((with_reducible change wpList _ _ _ (Oper.mk (some 1) _ _ _ _ _ :: _) _ _); refine kBoxL _ _ _ rfl rfl rfl ?_; intro w1 hR hz1 hB1; clear hz1; have hT1 := ht.below hB1; have hO1 := ownHs_nil w1 W0.heap.size; go_frame)
    | ((with_reducible change wpList _ _ _ (Oper.mk (some 6) _ _ _ _ _ :: _) _ _); refine kY (yFld blkF1 _ _ 0 68 rfl rfl rfl rfl) ?_; go_frame)
    | ((with_reducible change wpList _ _ _ (Oper.mk (some 7) _ _ _ _ _ :: _) _ _); refine kY (yLoad1 _ _ _ W0.heap.size 68 (blkC b.head v) v _ rfl rfl rfl (fun _ e => by cases e; exact hR) Tryz.underlying27 rfl (blkC_68 _ _)) ?_; go_frame)
    | ((with_reducible change wpList _ _ _ (Oper.mk (some 8) _ _ _ _ _ :: _) _ _); refine kY (yLenTxs _ v b.txs N (fun _ e => by cases e; exact hT1) hN rfl rfl rfl) ?_; go_frame))
  go_loopw [9, 3] (fun x y wr => ∃ k : Nat, k ≤ N ∧ x = .int .i64 k ∧ OwnHs wr W0.heap.size y (idsL (b.txs.take k)) ∧ Below W0.heap.size W0 wr) (fun x _ _ => N - (intOf x).toNat)
  case atStart => exact ⟨0, by omega, rfl, hO1, hB1⟩
  case round =>
    clear hO1
    obtain ⟨k, hk, rfl, hO, hB⟩ := hrel
    by_cases hlt : k < N
    · have hd : decide ((k : Int) < (N : Int)) = true := by simp; omega
      obtain ⟨z, hz⟩ : ∃ z, zs[k]? = some z := ⟨_, List.getElem?_eq_getElem (by omega)⟩
      have hik := fst_atT es hz
      have hmem := List.mem_of_getElem? hik
      have htI := hb.2 _ hmem
      have htF := hf.2 _ hmem
      obtain ⟨bd, hbd, hcell⟩ := txs_addr (hT.below hB) hz
      obtain ⟨h1, h2⟩ := hT.2 z (List.mem_of_getElem? hz)
      have hi := h1.below hB
      have ho := h2.below hB
      obtain ⟨⟨t, u1, u2⟩, hze⟩ : ∃ y, y = z := ⟨_, rfl⟩
      subst hze
      dsimp only at hik htI htF h1 h2 hi ho
      clear h1 h2 hz
      have hTk := idsL_take hik
      have hTl : (idsL (b.txs.take k)).length ≤ 100 := by unfold idsL; rw [List.length_map, List.length_take]; omega
      go_wp2_with (first
        | ((with_reducible change wpList _ _ _ (Oper.mk (some 10) _ _ _ _ _ :: _) _ _); refine kLssI _ _ _ _ .i64 (k : Int) (N : Int) true rfl rfl rfl rfl hd ?_; go_frame)
        | ((with_reducible change wpList _ _ _ (Oper.mk (some 11) _ _ _ _ _ :: _) _ _); refine kY (yIndexAt _ _ _ v k bd hbd rfl rfl rfl rfl) ?_; go_frame)
        | ((with_reducible change wpList _ _ _ (Oper.mk (some 12) _ _ _ _ _ :: _) _ _); refine kY (yLoadTxAt _ bd (t, u1, u2) (fun _ e => by cases e; exact hcell) rfl rfl rfl) ?_; clear hcell; dsimp only; go_frame)
        | ((with_reducible change wpList _ _ _ (Oper.mk (some 5) _ _ _ _ _ :: _) _ _); refine kAllocL _ _ rfl rfl zero_TxC ?_; intro w1 hV hz1 hBq; clear hz1; have hg1 : Hid (W0.heap.size ≤ wr.heap.size) := hB.size; go_frame)
        | ((with_reducible change wpList _ _ _ (Oper.mk none (Op.store _ (Operand.tmp 5) _) _ _ _ _ :: _) _ _); refine kStoreTx _ _ _ t.version t.end' u1 u2 _ hV rfl hi.sl.one ho.sl.one rfl rfl rfl rfl ?_; intro w2 hV2 hWq; have hBq2 := hBq.trans (hWq.below (Nat.le_refl _)); have hO2 := hO.below hBq2; clear hO;  have hB2 := hB.trans (hBq2.mono hB.size); have hi2 := hi.below hBq2; have ho2 := ho.below hBq2; clear hBq hWq hB hi ho hV hBq2; go_frame)
        | ((with_reducible change wpList _ _ _ (Oper.mk (some 14) _ _ _ _ _ :: _) _ _); refine kLoadTx _ _ t.version t.end' u1 u2 hV2 rfl rfl rfl ?_; go_frame)
        | (go_at_call 49; refine (tId_any _ htI htF hi2 ho2 (hK.below hB2)).mono ?_; rintro e w3 ⟨rfl, hBq⟩; have hO4 := hO2.below hBq; have hB3 := hB2.trans (hBq.mono hB2.size); clear hBq hO2 hB2 hV2 hi2 ho2; go_frame)
        | ((with_reducible change wpList _ _ _ (Oper.mk (some 16) _ _ _ _ _ :: _) _ _); refine kBuildHs1 _ (idL t) rfl rfl rfl ?_; intro w4 hR4 hz4 hBq; have hO5 := hO4.below hBq; have hB4 := hB3.trans (hBq.mono hB3.size); have hrow : HashesOf w4 (.slice (some ⟨w3.heap.size, 0, none⟩) 1 1) [idL t] := isRows_one hR4 (hashR_len _); clear hBq hO4 hB3 hz4 hR4; go_frame)
        | ((with_reducible change wpList _ _ _ (Oper.mk (some 17) _ _ _ _ _ :: _) _ _); refine kAppHs _ _ rfl rfl W0.heap.size _ _ (idsL (b.txs.take k)) [idL t] rfl hO5 rfl hrow (by simp; omega) hB4.size ?_; intro v5 w5 hO6 hBq hgr; have hB5 := hB4.trans hBq; clear hBq hO5 hB4 hgr hrow; go_frame)
        | ((with_reducible change wpList _ _ _ (Oper.mk (some 18) _ _ _ _ _ :: _) _ _); refine kAddI _ _ _ _ (k : Int) 1 ((k + 1 : Nat) : Int) (by omega) rfl rfl rfl rfl ?_; go_frame))
      go_roundw
      case rel => exact ⟨k + 1, by omega, rfl, by rw [hTk]; exact hO6, hB5⟩
      case measure => simp [intOf]; omega
    · have hd : decide ((k : Int) < (N : Int)) = false := by simp; omega
      rw [List.take_of_length_le (by omega)] at hO
      go_wp2_with (first
        | ((with_reducible change wpList _ _ _ (Oper.mk (some 10) _ _ _ _ _ :: _) _ _); refine kLssI _ _ _ _ .i64 (k : Int) (N : Int) false rfl rfl rfl rfl hd ?_; go_frame))
      go_ret
      exact ⟨_, rfl, hO, hB⟩
end Go.Proofs.YtmfjgehlkbndjaaGreatDoor

/-
  Layer 11: the walks of what reads, the program's: hashes, heads, blocks.
-/
namespace Go.Proofs.YtmfjgehlkbndjaaGreatDoor
open Go Go.RowKit

variable {Lm : Nat}
theorem raw_cases (s : Scn) : (rawS s 32).1.length = 32 ∨ (rawS s 32).1 = [] := by
  unfold rawS
  split
  · exact .inr rfl
  · split
    · exact .inr rfl
    · refine .inl ?_
      show (s.rest.take 32).length = 32
      rw [List.length_take]; omega
theorem hash_put (s : Scn) : (hashS s).1 = put32 (rawS s 32).1 := by
  unfold hashS
  dsimp only
  rcases raw_cases s with h | h
  · rw [if_pos h, put32_id h]
  · rw [h, if_neg (by simp)]; rfl
theorem tab_put (x : List UInt8) : splice (tab 32 fun p => VB (at8 z32 p)) 0 ((x.map VB).take 32) = tab 32 fun p => VB (at8 (put32 x) p) := by
  rw [tab_list z32 32 rfl, tab_list (put32 x) 32 (put32_len x)]
  unfold splice put32 z32
  rw [List.map_append, List.map_take, List.map_replicate, List.map_replicate]
  have hxl : (x.map VB).length = x.length := by simp
  generalize x.map VB = m at *
  have hl : (List.take 32 m).length = min 32 m.length := List.length_take
  rw [hl, ← hxl, Nat.zero_add]
  simp only [List.take_zero, List.nil_append]
  rw [List.drop_replicate, show 32 - min 32 m.length = 32 - m.length by omega]
def HRdPost (Lm : Nat) (T : TypeId) (g : Nat) (w : World) (p : List UInt8 × Scn) (e : Ending) (w' : World) : Prop := e = .returned (HV p.1) ∧ Rd Lm T w' g p.2 ∧ Exc g w w'
def HeadPost (Lm : Nat) (T : TypeId) (g : Nat) (w : World) (p : HeadP × Scn) (e : Ending) (w' : World) : Prop := e = .returned (.agg (headC p.1)) ∧ Rd Lm T w' g p.2 ∧ Exc g w w'
def TxsPost (Lm : Nat) (T : TypeId) (g : Nat) (w : World) (p : List TxP × Scn) (e : Ending) (w' : World) : Prop := ∃ v, e = .returned v ∧ OwnTxs w' w.heap.size v p.1 ∧ Rd Lm T w' g p.2 ∧ Exc g w w'
def BlkParse (w : World) (p : BlockP × Nat) (e : Ending) (w' : World) : Prop := ∃ v, e = .returned (.tuple #[.agg (blkC p.1.head v), .int .i64 (p.2 : Int)]) ∧ OwnTxs w' w.heap.size v p.1.txs ∧ Below w.heap.size w w'
set_option maxRecDepth 100000 in
set_option maxHeartbeats 8000000 in
theorem blHashRead_any {s : Scn} {g : Nat} (W0 : World) (h : Rd Lm 97 W0 g s) (hs : s.rest.length ≤ 1000000) (hLm : Lm ≤ W0.heap.size) : Calls Tryz.prog 56 #[.pointer (some ⟨g, 0, none⟩)] W0 (HRdPost Lm 97 g W0 (hashS s)) := by
  have hgA : W0.heap.size ≠ g := by have := h.lt; omega
  have hrw := fun w (h : Rd Lm 97 w g s) => rdRaw_any (z := 32) w h hs
  have hp1 := hash_put s
  have hp2 : (hashS s).2 = (rawS s 32).2 := rfl
  generalize hashS s = H at *
  generalize rawS s 32 = p at *
  obtain ⟨H1, H2⟩ := H
  dsimp only at hp1 hp2
  subst hp1 hp2
  go_enter Tryz.func56, Tryz.ntmps56
  go_wp2_with (first
    | ((with_reducible change wpList _ _ _ (Oper.mk (some 2) _ _ _ _ _ :: _) _ _); refine kAllocL _ _ rfl rfl zero_Hash ?_; intro w1 hRA hz1 hB1; have h1 := h.below hB1; have hgB : w1.heap.size ≠ g := (by have := h1.lt; omega); have hAB : W0.heap.size ≠ w1.heap.size := Nat.ne_of_lt hz1; have hLB : Lm ≤ w1.heap.size := (by omega); have hle : W0.heap.size ≤ w1.heap.size := (by omega); have hE1 := exc_below g hB1; clear hB1; go_frame)
    | ((with_reducible change wpList _ _ _ (Oper.mk (some 3) _ _ _ _ _ :: _) _ _); refine kAllocL _ _ rfl rfl zero_HashB ?_; intro w2 hRB hz2 hB2; have h2 := h1.below hB2; have hRA2 := hRA.below hB2 hRA.lt; have hE2 := hE1.trans (exc_below g hB2); clear h1 hRA hE1 hB2 hz1 hz2; go_frame))
  refine region_mixD [(0, true), (1, true), (2, false), (3, false)] (fun _ => True) (by kernel_rfl) (by kernel_rfl) rfl ?_
  intro w3 hBd hsd
  have h3 := h2.below hBd
  have hRA3 := hRA2.below hBd hRA2.lt
  have hRB3 := hRB.below hBd hRB.lt
  have hE3 := hE2.trans (exc_below g hBd)
  clear h2 hRA2 hRB hE2 hBd hsd
  simp only [List.map_cons, List.map_nil]
  dsimp only [List.filterMap, List.getElem?_cons_zero, List.getElem?_cons_succ]
  have hS : True := trivial
  refine dY _ hS (ySliceArrC Tryz.underlying24 info_b8P _ _ 0 rfl rfl rfl) ?_; go_frame
  refine dY _ hS (yMove _ (.pointer (some ⟨g, 0, none⟩)) rfl rfl rfl) ?_; go_frame
  refine dLoud ?_
  refine kCall2 92 _ _ _ _ _ rfl rfl (by kernel_rfl) rfl rfl ?_
  refine (hrw _ h3).mono ?_
  rintro e w4 ⟨v4, rfl, hV4, h4, hX4⟩
  have hRA4 := hX4.row hRA3 hgA
  have hRB4 := hX4.row hRB3 hgB
  have hE4 := hE3.trans hX4
  clear hRA3 hRB3 hE3 hX4 h3 hrw
  refine ⟨_, rfl, mixOn ⟨(fun _ => True), (fun _ h => h), hS, ?_⟩⟩
  go_frame
  refine dLoud ?_
  refine kCopy _ _ _ _ _ _ rfl rfl Tryz.underlying38 info_b8P _ 0 32 32 rfl v4 rfl (p.1.map VB) hV4 (vbs_one _) _ hRB4 (by rw [tab_size]; decide) ?_
  intro w5 hRB5 hW5
  rw [tab_put] at hRB5
  have hRA5 := hW5.row hRA4 hAB
  have h5 := h4.wrote hW5 hLB (Ne.symm hgB)
  have hE5 := exc_new hE4 hW5 hle
  clear hRA4 hRB4 h4 hE4 hW5 hV4
  refine mixOn ⟨(fun _ => True), (fun _ h => h), hS, ?_⟩
  go_frame
  refine dDone ?_
  clear hS
  go_wp2_with (first
    | ((with_reducible change wpList _ _ _ (Oper.mk (some 8) _ _ _ _ _ :: _) _ _); refine kLoadHash _ _ (put32 p.1) hRB5 rfl rfl rfl ?_; go_frame)
    | ((with_reducible change wpList _ _ _ (Oper.mk none _ _ _ _ _ :: _) _ _); refine kStoreHash _ _ W0.heap.size (put32 p.1) _ hRA5 (tab_size _ _) rfl rfl rfl rfl ?_; intro w9 hRA9 hW9; have h9 := h5.wrote hW9 hLm (Ne.symm hgA); have hE9 := exc_new hE5 hW9 (Nat.le_refl _); go_frame))
  (try simp only [Exit.inBlock, Exit.then])
  exact result_row rfl rfl hRA9 Tryz.underlying24 rfl info_HashT rfl ⟨rfl, h9, hE9⟩
set_option maxRecDepth 100000 in
set_option maxHeartbeats 8000000 in
theorem blHeadRead_any {s : Scn} {g : Nat} (W0 : World) (h : Rd Lm 97 W0 g s) (hs : s.rest.length ≤ 1000000) (hLm : Lm ≤ W0.heap.size) : Calls Tryz.prog 31 #[.pointer (some ⟨g, 0, none⟩)] W0 (HeadPost Lm 97 g W0 (headS s)) := by
  have hgl := h.lt
  have hgA : W0.heap.size ≠ g := by omega
  obtain ⟨v, hv⟩ : ∃ v, fixedS s 4 = v := ⟨_, rfl⟩
  obtain ⟨p, hp⟩ : ∃ p, hashS v.2 = p := ⟨_, rfl⟩
  obtain ⟨r, hr⟩ : ∃ r, hashS p.2 = r := ⟨_, rfl⟩
  obtain ⟨t, ht⟩ : ∃ t, fixedS r.2 4 = t := ⟨_, rfl⟩
  obtain ⟨b, hb⟩ : ∃ b, fixedS t.2 4 = b := ⟨_, rfl⟩
  obtain ⟨n, hn⟩ : ∃ n, fixedS b.2 4 = n := ⟨_, rfl⟩
  rw [headS_eq hv hp hr ht hb hn]
  have lv : v.1 < 4294967296 := by rw [← hv]; exact fixed4_lt _
  have lt : t.1 < 4294967296 := by rw [← ht]; exact fixed4_lt _
  have lb : b.1 < 4294967296 := by rw [← hb]; exact fixed4_lt _
  have ln : n.1 < 4294967296 := by rw [← hn]; exact fixed4_lt _
  have hvr : v.2.rest.length ≤ 1000000 := by rw [← hv]; exact Nat.le_trans (fixed_restLeC s 4) hs
  have hpr : p.2.rest.length ≤ 1000000 := by rw [← hp]; exact Nat.le_trans (raw_restLeC _ 32) hvr
  go_enter Tryz.func31, Tryz.ntmps31
  go_wp2_with (first
    | ((with_reducible change wpList _ _ _ (Oper.mk (some 2) _ _ _ _ _ :: _) _ _); refine kAllocL _ _ rfl rfl zero_HeadC ?_; intro w1 hRA1 hz1 hB1; have h1 := h.below hB1; have hE1 := exc_below g hB1; have hs1 := Nat.le_of_lt hz1; clear hB1 hz1; go_frame)
    | (go_at_call 55; refine (rdFixed_any (z := 4) _ h1).mono ?_; rintro e w2 ⟨rfl, h2, hX⟩; rw [hv] at h2 ⊢; have hRA2 := hX.row hRA1 hgA; have hE2 := hE1.trans hX; have hs2 := Nat.le_trans hs1 hX.size; clear hX h1 hRA1 hE1 hs1; go_frame)
    | ((with_reducible change wpList _ _ _ (Oper.mk (some 8) _ _ _ _ _ :: _) _ _); refine kY (yConvUW _ v.1 lv rfl rfl rfl) ?_; go_frame)
    | (go_at_call 56; refine (blHashRead_any _ h2 hvr (Nat.le_trans hLm hs2)).mono ?_; rintro e w3 ⟨rfl, h3, hX⟩; rw [hp] at h3 ⊢; have hRA3 := hX.row hRA2 hgA; have hE3 := hE2.trans hX; have hs3 := Nat.le_trans hs2 hX.size; clear hX h2 hRA2 hE2 hs2; go_frame)
    | (go_at_call 56; refine (blHashRead_any _ h3 hpr (Nat.le_trans hLm hs3)).mono ?_; rintro e w4 ⟨rfl, h4, hX⟩; rw [hr] at h4 ⊢; have hRA4 := hX.row hRA3 hgA; have hE4 := hE3.trans hX; have hs4 := Nat.le_trans hs3 hX.size; clear hX h3 hRA3 hE3 hs3; go_frame)
    | (go_at_call 55; refine (rdFixed_any (z := 4) _ h4).mono ?_; rintro e w5 ⟨rfl, h5, hX⟩; rw [ht] at h5 ⊢; have hRA5 := hX.row hRA4 hgA; have hE5 := hE4.trans hX; have hs5 := Nat.le_trans hs4 hX.size; clear hX h4 hRA4 hE4 hs4; go_frame)
    | ((with_reducible change wpList _ _ _ (Oper.mk (some 15) _ _ _ _ _ :: _) _ _); refine kY (yConvUW _ t.1 lt rfl rfl rfl) ?_; go_frame)
    | (go_at_call 55; refine (rdFixed_any (z := 4) _ h5).mono ?_; rintro e w6 ⟨rfl, h6, hX⟩; rw [hb] at h6 ⊢; have hRA6 := hX.row hRA5 hgA; have hE6 := hE5.trans hX; have hs6 := Nat.le_trans hs5 hX.size; clear hX h5 hRA5 hE5 hs5; go_frame)
    | ((with_reducible change wpList _ _ _ (Oper.mk (some 18) _ _ _ _ _ :: _) _ _); refine kY (yConvUW _ b.1 lb rfl rfl rfl) ?_; go_frame)
    | (go_at_call 55; refine (rdFixed_any (z := 4) _ h6).mono ?_; rintro e w7 ⟨rfl, h7, hX⟩; rw [hn] at h7 ⊢; have hRA7 := hX.row hRA6 hgA; have hE7 := hE6.trans hX; have hs7 := Nat.le_trans hs6 hX.size; clear hX h6 hRA6 hE6 hs6; go_frame)
    | ((with_reducible change wpList _ _ _ (Oper.mk (some 21) _ _ _ _ _ :: _) _ _); refine kY (yConvUW _ n.1 ln rfl rfl rfl) ?_; go_frame)
    | ((with_reducible change wpList _ _ _ (Oper.mk (some 22) _ _ _ _ _ :: _) _ _); refine kY (yBuildHead6 _ _ _ _ _ _ v.1 t.1 b.1 n.1 p.1 r.1 rfl rfl rfl rfl rfl rfl rfl rfl) ?_; go_frame)
    | ((with_reducible change wpList _ _ _ (Oper.mk none _ _ _ _ _ :: _) _ _); refine kStoreHead _ _ W0.heap.size ⟨v.1, p.1, r.1, t.1, b.1, n.1⟩ _ hRA7 (headC_size _) rfl rfl rfl rfl ?_; intro w9 hRA9 hW9; have h9 := h7.wrote hW9 hLm (Ne.symm hgA); have hE9 := exc_new hE7 hW9 (Nat.le_refl _); go_frame))
  (try simp only [Exit.inBlock, Exit.then])
  exact result_row rfl rfl hRA9 Tryz.underlying26 rfl (info_HeadS _) rfl ⟨rfl, h9, hE9⟩
def faultN (E n : Nat) : Nat := if E ≠ 0 then E else if 0 < n then 62 else 0
set_option maxRecDepth 100000 in
set_option maxHeartbeats 8000000 in
theorem blFault_any {s : Scn} {g E n : Nat} (w : World) (h : Rd Lm 97 w g s) (hE : s.err = E) (hn : s.rest.length = n) : Calls Tryz.prog 32 #[.pointer (some ⟨g, 0, none⟩)] w fun e w' => e = .returned (.int .i64 (faultN E n : Int)) ∧ w' = w := by
  unfold faultN
  by_cases e0 : E ≠ 0
  · rw [if_pos e0]
    have he : decide ((E : Int) = 0) = false := by simp; exact e0
    go_enter Tryz.func32, Tryz.ntmps32
    go_wp2_with (first
      | (go_at_call 57; refine (rdErr_any (n := E) _ h hE).mono ?_; rintro e w8 ⟨rfl, rfl⟩; go_frame)
      | ((with_reducible change wpList _ _ _ (Oper.mk (some 5) _ _ _ _ _ :: _) _ _); refine kY (yEqlIC _ _ _ _ .i64 (E : Int) 0 false rfl rfl rfl rfl he) ?_; go_frame))
    go_ret
    exact ⟨rfl, rfl⟩
  · rw [if_neg e0]
    have e0' : E = 0 := by omega
    subst e0'
    have he : decide (((0 : Nat) : Int) = 0) = true := by simp
    by_cases n0 : 0 < n
    · rw [if_pos n0]
      have hn0 : decide ((n : Int) > 0) = true := by simp; omega
      go_enter Tryz.func32, Tryz.ntmps32
      go_wp2_with (first
        | (go_at_call 57; refine (rdErr_any (n := 0) _ h hE).mono ?_; rintro e w8 ⟨rfl, rfl⟩; go_frame)
        | ((with_reducible change wpList _ _ _ (Oper.mk (some 5) _ _ _ _ _ :: _) _ _); refine kY (yEqlIC _ _ _ _ .i64 ((0 : Nat) : Int) 0 true rfl rfl rfl rfl he) ?_; go_frame)
        | (go_at_call 58; refine (rdLeft_any (n := n) _ h hn).mono ?_; rintro e w9 ⟨rfl, rfl⟩; go_frame)
        | ((with_reducible change wpList _ _ _ (Oper.mk (some 9) _ _ _ _ _ :: _) _ _); refine kY (yGtrI _ _ _ _ .i64 (n : Int) 0 true rfl rfl rfl rfl hn0) ?_; go_frame))
      go_ret
      exact ⟨rfl, rfl⟩
    · rw [if_neg n0]
      have hn0 : decide ((n : Int) > 0) = false := by simp; omega
      go_enter Tryz.func32, Tryz.ntmps32
      go_wp2_with (first
        | (go_at_call 57; refine (rdErr_any (n := 0) _ h hE).mono ?_; rintro e w8 ⟨rfl, rfl⟩; go_frame)
        | ((with_reducible change wpList _ _ _ (Oper.mk (some 5) _ _ _ _ _ :: _) _ _); refine kY (yEqlIC _ _ _ _ .i64 ((0 : Nat) : Int) 0 true rfl rfl rfl rfl he) ?_; go_frame)
        | (go_at_call 58; refine (rdLeft_any (n := n) _ h hn).mono ?_; rintro e w9 ⟨rfl, rfl⟩; go_frame)
        | ((with_reducible change wpList _ _ _ (Oper.mk (some 9) _ _ _ _ _ :: _) _ _); refine kY (yGtrI _ _ _ _ .i64 (n : Int) 0 false rfl rfl rfl rfl hn0) ?_; go_frame))
      go_ret
      exact ⟨rfl, rfl⟩
theorem ownIns_grownT {n : Nat} {E : TypeId} {w w' : World} {b b' : Nat} {v u : Value} {l : List InP} {L : List (List Value)} (h : OwnIns w b u l) (ho : OwnR n E w b' v L) (hE : E ≠ 62) (hE2 : E ≠ 5) (hg : w.grownBy w' v.ownBlock) : OwnIns w' b u l := by
  obtain ⟨zs, e, h1, h2⟩ := h; exact ⟨zs, e, h1.grownBy ho hE hg, fun z hz => ownB_grown (h2 z hz) ho hE2 hg⟩
theorem ownOuts_grownT {n : Nat} {E : TypeId} {w w' : World} {b b' : Nat} {v u : Value} {l : List (Int × List UInt8)} {L : List (List Value)} (h : OwnOuts w b u l) (ho : OwnR n E w b' v L) (hE : E ≠ 64) (hE2 : E ≠ 5) (hg : w.grownBy w' v.ownBlock) : OwnOuts w' b u l := by
  obtain ⟨zs, e, h1, h2⟩ := h; exact ⟨zs, e, h1.grownBy ho hE hg, fun z hz => ownB_grown (h2 z hz) ho hE2 hg⟩
set_option maxRecDepth 100000 in
set_option maxHeartbeats 8000000 in
theorem blTxs_any {s : Scn} {g : Nat} (W0 : World) (h : Rd Lm 97 W0 g s) (hs : s.rest.length ≤ 1000000) (hLm : Lm ≤ W0.heap.size) : Calls Tryz.prog 43 #[.pointer (some ⟨g, 0, none⟩)] W0 (TxsPost Lm 97 g W0 (txsS s)) := by
  have hgl := h.lt
  unfold txsS
  obtain ⟨p, hp⟩ : ∃ p, countS s 100 = p := ⟨_, rfl⟩
  have hpr : p.2.rest.length ≤ 1000000 := by rw [← hp]; exact Nat.le_trans (count_restLe s 100) hs
  have hN : p.1 ≤ 100 := by rw [← hp]; exact count_le s 100
  rw [hp]
  obtain ⟨N, s1⟩ := p
  dsimp only at hpr hN ⊢
  obtain ⟨P, hP⟩ : ∃ P, listS readS N s1 = P := ⟨_, rfl⟩
  rw [hP]
  go_enter Tryz.func43, Tryz.ntmps43
  go_wp2_with (first
    | (go_at_call 75; refine (rdCount_any (most := 100) _ h).mono ?_; rintro e w1 ⟨rfl, h1, hX1⟩; rw [hp] at h1 ⊢; clear hp; go_frame))
  go_loopw [6, 3] (fun x y wr => ∃ (k : Nat) (zs : List TxZ) (s : Scn), k ≤ N ∧ x = .int .u64 (k : Int) ∧ OwnR 4 34 wr W0.heap.size y (zs.map txR) ∧ (∀ z ∈ zs, OwnIns wr W0.heap.size z.2.1 z.1.ins ∧ OwnOuts wr W0.heap.size z.2.2 z.1.outs) ∧ zs.length = k ∧ Rd Lm 97 wr g s ∧ s.rest.length ≤ 1000000 ∧ (zs.map Prod.fst ++ (listS readS (N - k) s).1, (listS readS (N - k) s).2) = P ∧ Exc g W0 wr) (fun x _ _ => N - (intOf x).toNat)
  case atStart => exact ⟨0, [], s1, by omega, rfl, ownR_nil _ _ _ _, (fun z hz => by cases hz), rfl, h1, hpr, by rw [← hP]; rfl, hX1⟩
  case round =>
    clear hP h1 hX1 hpr h
    obtain ⟨k, zs, s, hk, rfl, hO, hU, hzl, hr, hsr, hPP, hX⟩ := hrel
    by_cases hlt : k < N
    · have hd : decide ((k : Int) < (N : Int)) = true := by simp; omega
      have hL := Nat.le_trans hLm hX.size
      have hPP2 : (zs.map Prod.fst ++ ((readS s).1 :: (listS readS (N - (k + 1)) (readS s).2).1), (listS readS (N - (k + 1)) (readS s).2).2) = P := by
        rw [show N - k = (N - (k + 1)) + 1 by omega] at hPP; exact hPP
      clear hPP
      have hsr2 : (readS s).2.rest.length ≤ 1000000 := Nat.le_trans (read_restLe s) hsr
      obtain ⟨⟨t, s2⟩, hp⟩ : ∃ p, readS s = p := ⟨_, rfl⟩
      rw [hp] at hPP2 hsr2
      dsimp only at hPP2 hsr2
      go_wp2_with (first
        | ((with_reducible change wpList _ _ _ (Oper.mk (some 7) _ _ _ _ _ :: _) _ _); refine kLssI _ _ _ _ .u64 (k : Int) (N : Int) true rfl rfl rfl rfl hd ?_; go_frame)
        | (go_at_call 76; refine (tRead_any _ hr hsr hL).mono ?_; rintro e w2 ⟨a, b, rfl, hoa, hob, hr2, hX2⟩; rw [hp] at hr2 hoa hob ⊢; have hO2 := hO.over (over_exc hX2 hgl); have hU2 := fun z hz => (⟨(hU z hz).1.over (over_exc hX2 hgl), (hU z hz).2.over (over_exc hX2 hgl)⟩ : OwnIns w2 W0.heap.size z.2.1 z.1.ins ∧ OwnOuts w2 W0.heap.size z.2.2 z.1.outs); have hE2 := hX.trans hX2; have hoa2 := hoa.less hX.size; have hob2 := hob.less hX.size; clear hO hU hX2 hr hX hoa hob; go_frame)
        | ((with_reducible change wpList _ _ _ (Oper.mk (some 11) _ _ _ _ _ :: _) _ _); refine kBuildTxs1 _ t.version t.end' a b hoa2.of.sl hob2.of.sl rfl rfl rfl ?_; intro w3 hR3 hz3 hB3; have hO3 := hO2.below hB3; have hU3 := fun z hz => (⟨(hU2 z hz).1.below hB3, (hU2 z hz).2.below hB3⟩ : OwnIns w3 W0.heap.size z.2.1 z.1.ins ∧ OwnOuts w3 W0.heap.size z.2.2 z.1.outs); have hoa3 := hoa2.below hB3; have hob3 := hob2.below hB3; have hr3 := hr2.below hB3; have hE3 := hE2.trans (exc_below g hB3); have hrow : IsRows 4 w3 (.slice (some ⟨w2.heap.size, 0, none⟩) 1 1) ([(t, a, b)].map txR) := isRows_one hR3 (txR_len _); clear hO2 hU2 hoa2 hob2 hr2 hE2 hB3 hz3 hR3; go_frame)
        | ((with_reducible change wpList _ _ _ (Oper.mk (some 12) _ _ _ _ _ :: _) _ _); refine kAppTxs _ _ rfl rfl W0.heap.size _ _ zs [(t, a, b)] rfl hO3 rfl hrow (by intro z hz; simp at hz; subst hz; exact ⟨hoa3.of.sl.one, hob3.of.sl.one⟩) (by simp; omega) hE3.size ?_; intro v4 w4 hO4 hB4 hg4; have hU4 := fun z (hz : z ∈ zs) => (⟨ownIns_grownT (hU3 z hz).1 hO3 (by decide) (by decide) hg4, ownOuts_grownT (hU3 z hz).2 hO3 (by decide) (by decide) hg4⟩ : OwnIns w4 W0.heap.size z.2.1 z.1.ins ∧ OwnOuts w4 W0.heap.size z.2.2 z.1.outs); have hoa4 := ownIns_grownT hoa3 hO3 (by decide) (by decide) hg4; have hob4 := ownOuts_grownT hob3 hO3 (by decide) (by decide) hg4; have hr4 := hr3.under hB4 hgl hLm; have hE4 := exc_then hE3 hB4; clear hO3 hU3 hoa3 hob3 hr3 hE3 hg4 hB4 hrow; go_frame)
        | ((with_reducible change wpList _ _ _ (Oper.mk (some 13) _ _ _ _ _ :: _) _ _); refine kAddUP _ _ _ _ k 1 (k + 1) (by omega) rfl rfl rfl rfl ?_; go_frame))
      go_roundw
      case rel =>
        refine ⟨k + 1, zs ++ [(t, a, b)], s2, by omega, rfl, hO4, fun z hz => ?_, by simp; omega, hr4, hsr2, by rw [← hPP2]; simp, hE4⟩
        rcases List.mem_append.1 hz with hz | hz
        · exact hU4 z hz
        · simp at hz; subst hz; exact ⟨hoa4, hob4⟩
      case measure => simp [intOf]; omega
    · have hd : decide ((k : Int) < (N : Int)) = false := by simp; omega
      rw [show N - k = 0 by omega] at hPP
      have hPP2 : (zs.map Prod.fst ++ [], s) = P := hPP
      rw [List.append_nil] at hPP2
      subst hPP2
      go_wp2_with (first
        | ((with_reducible change wpList _ _ _ (Oper.mk (some 7) _ _ _ _ _ :: _) _ _); refine kLssI _ _ _ _ .u64 (k : Int) (N : Int) false rfl rfl rfl rfl hd ?_; go_frame))
      go_ret
      exact ⟨_, rfl, ⟨zs, rfl, hO, hU⟩, hr, hX⟩
set_option maxRecDepth 100000 in
set_option maxHeartbeats 8000000 in
theorem blHeadParse_any {l : List UInt8} {v : Value} (W0 : World) (hv : IsVals W0 v (l.map VB)) (hl : l.length ≤ 1000000) : Calls Tryz.prog 10 #[v] W0 (fun e w' => e = .returned (.tuple #[.agg (headC (headParse l).1), .int .i64 ((headParse l).2 : Int)]) ∧ Below W0.heap.size W0 w') := by
  obtain ⟨R, hR⟩ : ∃ R, headParse l = R := ⟨_, rfl⟩
  rw [hR]
  unfold headParse at hR
  obtain ⟨p, hp⟩ : ∃ p, headS ⟨l, 0⟩ = p := ⟨_, rfl⟩
  rw [hp] at hR
  obtain ⟨E, hE⟩ : ∃ E, p.2.err = E := ⟨_, rfl⟩
  obtain ⟨n, hn⟩ : ∃ n, p.2.rest.length = n := ⟨_, rfl⟩
  rw [hE, hn] at hR
  by_cases e0 : E ≠ 0
  · rw [if_pos e0] at hR
    subst hR
    have hF : faultN E n = E := by unfold faultN; rw [if_pos e0]
    have he : (!decide ((E : Int) = 0)) = true := by simp; exact e0
    clear e0
    go_enter Tryz.func10, Tryz.ntmps10
    go_wp2_with (first
      | ((with_reducible change wpList _ _ _ (Oper.mk (some 2) _ _ _ _ _ :: _) _ _); refine kAllocL _ _ rfl rfl zero_HeadC ?_; intro w1 hRA hz1 hB1; have hv1 := hv.below hB1; go_frame)
      | (go_at_call 30; refine (pcNew_any _ hv1 hl).mono ?_; rintro e w2 ⟨g, rfl, hg2, h2, hB2⟩; have hRA2 := hRA.below hB2 hRA.lt; have hgA : W0.heap.size ≠ g := (by omega); have hge : Hid (W0.heap.size ≤ g) := (by show W0.heap.size ≤ g; omega); have hB3 := hB1.trans (hB2.mono hB1.size); have hz2 : Hid (W0.heap.size < w2.heap.size) := Nat.lt_of_lt_of_le hz1 hB2.size; have hg2l : Hid (g < w2.heap.size) := h2.lt; clear hRA hB1 hB2 hv1 hz1 hg2; go_frame)
      | (go_at_call 31; refine (blHeadRead_any _ h2 hl (Nat.le_refl _)).mono ?_; rintro e w3 ⟨rfl, h3, hX3⟩; rw [hp] at h3 ⊢; have hRA3 := hX3.row hRA2 hgA; have hB4 := hB3.trans (hX3.below hge.out hB3.size); have hLs : w2.heap.size ≤ w3.heap.size := hX3.size; clear hRA2 hB3 hX3 h2; go_frame)
      | ((with_reducible change wpList _ _ _ (Oper.mk (some 5) _ _ _ _ _ :: _) _ _); refine kAllocL _ _ rfl rfl zero_HeadC ?_; intro w5 hRB hz5 hBq; have hRA5 := hRA3.below hBq hRA3.lt; have hAB : Hid (W0.heap.size ≠ w3.heap.size) := Nat.ne_of_lt hRA3.lt; clear hz5; go_frame)
      | ((with_reducible change wpList _ _ _ (Oper.mk none _ _ _ _ _ :: _) _ _); refine kStoreHead _ _ w3.heap.size p.1 _ hRB (headC_size _) rfl rfl rfl rfl ?_; intro w7 hRB7 hW7; have hB7 := hBq.trans (hW7.below (Nat.le_refl _)); have h7 := h3.below hB7; have hRA7 := hW7.row hRA5 hAB.out; have hB8 := hB4.trans (hB7.mono hB4.size); clear hRB hBq hW7 hB7 h3 hRA3 hRA5 hB4 ; go_frame)
      | (go_at_call 32; refine (blFault_any (E := E) (n := n) _ h7 hE hn).mono ?_; rintro e w8 ⟨rfl, rfl⟩; rw [hF]; go_frame)
      | ((with_reducible change wpList _ _ _ (Oper.mk (some 14) _ _ _ _ _ :: _) _ _); refine kNeqI _ _ _ _ .i64 (E : Int) 0 true rfl rfl rfl rfl he ?_; go_frame)
      | ((with_reducible change wpList _ _ _ (Oper.mk (some 15) _ _ _ _ _ :: _) _ _); refine kY (yBuildHead0 rfl rfl) ?_; go_frame)
      | ((with_reducible change wpList _ _ _ (Oper.mk none _ _ _ _ _ :: _) _ _); refine kStoreHead _ _ W0.heap.size noHead _ hRA7 (headC_size _) rfl rfl rfl rfl ?_; intro w9 hRA9 hW9; have hB9 := hB8.trans (hW9.below (Nat.le_refl _)); go_frame))
    (try simp only [Exit.inBlock, Exit.then])
    exact result_row_tmp rfl rfl rfl hRA9 Tryz.underlying26 rfl (info_HeadS _) rfl ⟨rfl, hB9⟩
  rw [if_neg e0] at hR
  by_cases n0 : 0 < n
  · rw [if_pos n0] at hR
    subst hR
    have hF : faultN E n = 62 := by unfold faultN; rw [if_neg e0, if_pos n0]
    clear n0 e0
    go_enter Tryz.func10, Tryz.ntmps10
    go_wp2_with (first
      | ((with_reducible change wpList _ _ _ (Oper.mk (some 2) _ _ _ _ _ :: _) _ _); refine kAllocL _ _ rfl rfl zero_HeadC ?_; intro w1 hRA hz1 hB1; have hv1 := hv.below hB1; go_frame)
      | (go_at_call 30; refine (pcNew_any _ hv1 hl).mono ?_; rintro e w2 ⟨g, rfl, hg2, h2, hB2⟩; have hRA2 := hRA.below hB2 hRA.lt; have hgA : W0.heap.size ≠ g := (by omega); have hge : Hid (W0.heap.size ≤ g) := (by show W0.heap.size ≤ g; omega); have hB3 := hB1.trans (hB2.mono hB1.size); have hz2 : Hid (W0.heap.size < w2.heap.size) := Nat.lt_of_lt_of_le hz1 hB2.size; have hg2l : Hid (g < w2.heap.size) := h2.lt; clear hRA hB1 hB2 hv1 hz1 hg2; go_frame)
      | (go_at_call 31; refine (blHeadRead_any _ h2 hl (Nat.le_refl _)).mono ?_; rintro e w3 ⟨rfl, h3, hX3⟩; rw [hp] at h3 ⊢; have hRA3 := hX3.row hRA2 hgA; have hB4 := hB3.trans (hX3.below hge.out hB3.size); have hLs : w2.heap.size ≤ w3.heap.size := hX3.size; clear hRA2 hB3 hX3 h2; go_frame)
      | ((with_reducible change wpList _ _ _ (Oper.mk (some 5) _ _ _ _ _ :: _) _ _); refine kAllocL _ _ rfl rfl zero_HeadC ?_; intro w5 hRB hz5 hBq; have hRA5 := hRA3.below hBq hRA3.lt; have hAB : Hid (W0.heap.size ≠ w3.heap.size) := Nat.ne_of_lt hRA3.lt; clear hz5; go_frame)
      | ((with_reducible change wpList _ _ _ (Oper.mk none _ _ _ _ _ :: _) _ _); refine kStoreHead _ _ w3.heap.size p.1 _ hRB (headC_size _) rfl rfl rfl rfl ?_; intro w7 hRB7 hW7; have hB7 := hBq.trans (hW7.below (Nat.le_refl _)); have h7 := h3.below hB7; have hRA7 := hW7.row hRA5 hAB.out; have hB8 := hB4.trans (hB7.mono hB4.size); clear hRB hBq hW7 hB7 h3 hRA3 hRA5 hB4 ; go_frame)
      | (go_at_call 32; refine (blFault_any (E := E) (n := n) _ h7 hE hn).mono ?_; rintro e w8 ⟨rfl, rfl⟩; rw [hF]; go_frame)
      | ((with_reducible change wpList _ _ _ (Oper.mk (some 14) _ _ _ _ _ :: _) _ _); refine kNeqI _ _ _ _ .i64 ((62 : Nat) : Int) 0 true rfl rfl rfl rfl (by decide) ?_; go_frame)
      | ((with_reducible change wpList _ _ _ (Oper.mk (some 15) _ _ _ _ _ :: _) _ _); refine kY (yBuildHead0 rfl rfl) ?_; go_frame)
      | ((with_reducible change wpList _ _ _ (Oper.mk none _ _ _ _ _ :: _) _ _); refine kStoreHead _ _ W0.heap.size noHead _ hRA7 (headC_size _) rfl rfl rfl rfl ?_; intro w9 hRA9 hW9; have hB9 := hB8.trans (hW9.below (Nat.le_refl _)); go_frame))
    (try simp only [Exit.inBlock, Exit.then])
    exact result_row_tmp rfl rfl rfl hRA9 Tryz.underlying26 rfl (info_HeadS _) rfl ⟨rfl, hB9⟩
  · rw [if_neg n0] at hR
    subst hR
    have hF : faultN E n = 0 := by unfold faultN; rw [if_neg e0, if_neg n0]
    clear n0 e0
    go_enter Tryz.func10, Tryz.ntmps10
    go_wp2_with (first
      | ((with_reducible change wpList _ _ _ (Oper.mk (some 2) _ _ _ _ _ :: _) _ _); refine kAllocL _ _ rfl rfl zero_HeadC ?_; intro w1 hRA hz1 hB1; have hv1 := hv.below hB1; go_frame)
      | (go_at_call 30; refine (pcNew_any _ hv1 hl).mono ?_; rintro e w2 ⟨g, rfl, hg2, h2, hB2⟩; have hRA2 := hRA.below hB2 hRA.lt; have hgA : W0.heap.size ≠ g := (by omega); have hge : Hid (W0.heap.size ≤ g) := (by show W0.heap.size ≤ g; omega); have hB3 := hB1.trans (hB2.mono hB1.size); have hz2 : Hid (W0.heap.size < w2.heap.size) := Nat.lt_of_lt_of_le hz1 hB2.size; have hg2l : Hid (g < w2.heap.size) := h2.lt; clear hRA hB1 hB2 hv1 hz1 hg2; go_frame)
      | (go_at_call 31; refine (blHeadRead_any _ h2 hl (Nat.le_refl _)).mono ?_; rintro e w3 ⟨rfl, h3, hX3⟩; rw [hp] at h3 ⊢; have hRA3 := hX3.row hRA2 hgA; have hB4 := hB3.trans (hX3.below hge.out hB3.size); have hLs : w2.heap.size ≤ w3.heap.size := hX3.size; clear hRA2 hB3 hX3 h2; go_frame)
      | ((with_reducible change wpList _ _ _ (Oper.mk (some 5) _ _ _ _ _ :: _) _ _); refine kAllocL _ _ rfl rfl zero_HeadC ?_; intro w5 hRB hz5 hBq; have hRA5 := hRA3.below hBq hRA3.lt; have hAB : Hid (W0.heap.size ≠ w3.heap.size) := Nat.ne_of_lt hRA3.lt; clear hz5; go_frame)
      | ((with_reducible change wpList _ _ _ (Oper.mk none _ _ _ _ _ :: _) _ _); refine kStoreHead _ _ w3.heap.size p.1 _ hRB (headC_size _) rfl rfl rfl rfl ?_; intro w7 hRB7 hW7; have hB7 := hBq.trans (hW7.below (Nat.le_refl _)); have h7 := h3.below hB7; have hRA7 := hW7.row hRA5 hAB.out; have hB8 := hB4.trans (hB7.mono hB4.size); clear hRB hBq hW7 hB7 h3 hRA3 hRA5 hB4 ; go_frame)
      | (go_at_call 32; refine (blFault_any (E := E) (n := n) _ h7 hE hn).mono ?_; rintro e w8 ⟨rfl, rfl⟩; rw [hF]; go_frame)
      | ((with_reducible change wpList _ _ _ (Oper.mk (some 14) _ _ _ _ _ :: _) _ _); refine kNeqI _ _ _ _ .i64 ((0 : Nat) : Int) 0 false rfl rfl rfl rfl (by decide) ?_; go_frame)
      | ((with_reducible change wpList _ _ _ (Oper.mk (some 17) _ _ _ _ _ :: _) _ _); refine kLoadHead _ _ p.1 hRB7 rfl rfl rfl ?_; go_frame)
      | ((with_reducible change wpList _ _ _ (Oper.mk none _ _ _ _ _ :: _) _ _); refine kStoreHead _ _ W0.heap.size p.1 _ hRA7 (headC_size _) rfl rfl rfl rfl ?_; intro w9 hRA9 hW9; have hB9 := hB8.trans (hW9.below (Nat.le_refl _)); go_frame))
    (try simp only [Exit.inBlock, Exit.then])
    exact result_row_tmp rfl rfl rfl hRA9 Tryz.underlying26 rfl (info_HeadS _) rfl ⟨rfl, hB9⟩
set_option maxRecDepth 100000 in
set_option maxHeartbeats 8000000 in
theorem blParse_any {l : List UInt8} {v : Value} (W0 : World) (hv : IsVals W0 v (l.map VB)) (hl : l.length ≤ 1000000) : Calls Tryz.prog 21 #[v] W0 (BlkParse W0 (parseB l)) := by
  obtain ⟨R, hR⟩ : ∃ R, parseB l = R := ⟨_, rfl⟩
  rw [hR]
  unfold parseB at hR
  obtain ⟨p, hp⟩ : ∃ p, headS ⟨l, 0⟩ = p := ⟨_, rfl⟩
  obtain ⟨q, hq⟩ : ∃ q, txsS p.2 = q := ⟨_, rfl⟩
  rw [rawB_eq hp hq] at hR
  have hpr : p.2.rest.length ≤ 1000000 := by rw [← hp]; exact Nat.le_trans (head_restLe _) hl
  obtain ⟨E, hE⟩ : ∃ E, q.2.err = E := ⟨_, rfl⟩
  obtain ⟨n, hn⟩ : ∃ n, q.2.rest.length = n := ⟨_, rfl⟩
  dsimp only at hR
  rw [hE, hn] at hR
  by_cases e0 : E ≠ 0
  · rw [if_pos e0] at hR
    subst hR
    have hF : faultN E n = E := by unfold faultN; rw [if_pos e0]
    have he : (!decide ((E : Int) = 0)) = true := by simp; exact e0
    clear e0
    go_enter Tryz.func21, Tryz.ntmps21
    go_wp2_with (first
      | ((with_reducible change wpList _ _ _ (Oper.mk (some 2) _ _ _ _ _ :: _) _ _); refine kAllocL _ _ rfl rfl zero_BlkC ?_; intro w1 hRA hz1 hB1; have hv1 := hv.below hB1; go_frame)
      | (go_at_call 30; refine (pcNew_any _ hv1 hl).mono ?_; rintro e w2 ⟨g, rfl, hg2, h2, hB2⟩; have hRA2 := hRA.below hB2 hRA.lt; have hgA : W0.heap.size ≠ g := (by omega); have hge : Hid (W0.heap.size ≤ g) := (by show W0.heap.size ≤ g; omega); have hB3 := hB1.trans (hB2.mono hB1.size); have hz2 : Hid (W0.heap.size < w2.heap.size) := Nat.lt_of_lt_of_le hz1 hB2.size; have hg2l : Hid (g < w2.heap.size) := h2.lt; clear hRA hB1 hB2 hv1 hz1 hg2; go_frame)
      | (go_at_call 31; refine (blHeadRead_any _ h2 hl (Nat.le_refl _)).mono ?_; rintro e w3 ⟨rfl, h3, hX3⟩; rw [hp] at h3 ⊢; have hRA3 := hX3.row hRA2 hgA; have hB4 := hB3.trans (hX3.below hge.out hB3.size); have hLs : w2.heap.size ≤ w3.heap.size := hX3.size; clear hRA2 hB3 hX3 h2; go_frame)
      | (go_at_call 43; refine (blTxs_any _ h3 hpr hLs).mono ?_; rintro e w4 ⟨u, rfl, hU, h4, hX4⟩; rw [hq] at h4 hU; have hRA4 := hX4.row hRA3 hgA; have hB5 := hB4.trans (hX4.below hge.out hB4.size); have hU4 := hU.less hLs; clear hRA3 hB4 hX4 h3 hLs hU; go_frame)
      | ((with_reducible change wpList _ _ _ (Oper.mk (some 13) _ _ _ _ _ :: _) _ _); refine kY (yBuildBlk2 _ _ p.1 u hU4.of.sl rfl rfl rfl rfl) ?_; go_frame)
      | ((with_reducible change wpList _ _ _ (Oper.mk (some 5) _ _ _ _ _ :: _) _ _); refine kAllocL _ _ rfl rfl zero_BlkC ?_; intro w5 hRB hz5 hBq; have hRA5 := hRA4.below hBq hRA4.lt; have hAB : Hid (W0.heap.size ≠ w4.heap.size) := Nat.ne_of_lt hRA4.lt; clear hz5; go_frame)
      | ((with_reducible change wpList _ _ _ (Oper.mk none _ _ _ _ _ :: _) _ _); refine kStoreBlk _ _ w4.heap.size p.1 u _ hRB (blkC_size _ _) hU4.of.sl.one rfl rfl rfl rfl ?_; intro w7 hRB7 hW7; have hB7 := hBq.trans (hW7.below (Nat.le_refl _)); have hU7 := hU4.below hB7; have h7 := h4.below hB7; have hRA7 := hW7.row hRA5 hAB.out; have hB8 := hB5.trans (hB7.mono hB5.size); clear hRB hBq hW7 hB7 h4 hRA4 hRA5 hB5 hU4; go_frame)
      | (go_at_call 32; refine (blFault_any (E := E) (n := n) _ h7 hE hn).mono ?_; rintro e w8 ⟨rfl, rfl⟩; rw [hF]; go_frame)
      | ((with_reducible change wpList _ _ _ (Oper.mk (some 17) _ _ _ _ _ :: _) _ _); refine kNeqI _ _ _ _ .i64 (E : Int) 0 true rfl rfl rfl rfl he ?_; go_frame)
      | ((with_reducible change wpList _ _ _ (Oper.mk (some 18) _ _ _ _ _ :: _) _ _); refine kY (yBuildBlk0 rfl rfl) ?_; go_frame)
      | ((with_reducible change wpList _ _ _ (Oper.mk none _ _ _ _ _ :: _) _ _); refine kStoreBlk _ _ W0.heap.size noHead (.slice none 0 0) _ hRA7 (blkC_size _ _) rfl rfl rfl rfl rfl ?_; intro w9 hRA9 hW9; have hB9 := hB8.trans (hW9.below (Nat.le_refl _)); go_frame))
    (try simp only [Exit.inBlock, Exit.then])
    exact result_row_tmp rfl rfl rfl hRA9 Tryz.underlying29 rfl (info_BlkS _ _) rfl ⟨_, rfl, ownTxs_nil _ _, hB9⟩
  rw [if_neg e0] at hR
  by_cases n0 : 0 < n
  · rw [if_pos n0] at hR
    subst hR
    have hF : faultN E n = 62 := by unfold faultN; rw [if_neg e0, if_pos n0]
    clear n0 e0
    go_enter Tryz.func21, Tryz.ntmps21
    go_wp2_with (first
      | ((with_reducible change wpList _ _ _ (Oper.mk (some 2) _ _ _ _ _ :: _) _ _); refine kAllocL _ _ rfl rfl zero_BlkC ?_; intro w1 hRA hz1 hB1; have hv1 := hv.below hB1; go_frame)
      | (go_at_call 30; refine (pcNew_any _ hv1 hl).mono ?_; rintro e w2 ⟨g, rfl, hg2, h2, hB2⟩; have hRA2 := hRA.below hB2 hRA.lt; have hgA : W0.heap.size ≠ g := (by omega); have hge : Hid (W0.heap.size ≤ g) := (by show W0.heap.size ≤ g; omega); have hB3 := hB1.trans (hB2.mono hB1.size); have hz2 : Hid (W0.heap.size < w2.heap.size) := Nat.lt_of_lt_of_le hz1 hB2.size; have hg2l : Hid (g < w2.heap.size) := h2.lt; clear hRA hB1 hB2 hv1 hz1 hg2; go_frame)
      | (go_at_call 31; refine (blHeadRead_any _ h2 hl (Nat.le_refl _)).mono ?_; rintro e w3 ⟨rfl, h3, hX3⟩; rw [hp] at h3 ⊢; have hRA3 := hX3.row hRA2 hgA; have hB4 := hB3.trans (hX3.below hge.out hB3.size); have hLs : w2.heap.size ≤ w3.heap.size := hX3.size; clear hRA2 hB3 hX3 h2; go_frame)
      | (go_at_call 43; refine (blTxs_any _ h3 hpr hLs).mono ?_; rintro e w4 ⟨u, rfl, hU, h4, hX4⟩; rw [hq] at h4 hU; have hRA4 := hX4.row hRA3 hgA; have hB5 := hB4.trans (hX4.below hge.out hB4.size); have hU4 := hU.less hLs; clear hRA3 hB4 hX4 h3 hLs hU; go_frame)
      | ((with_reducible change wpList _ _ _ (Oper.mk (some 13) _ _ _ _ _ :: _) _ _); refine kY (yBuildBlk2 _ _ p.1 u hU4.of.sl rfl rfl rfl rfl) ?_; go_frame)
      | ((with_reducible change wpList _ _ _ (Oper.mk (some 5) _ _ _ _ _ :: _) _ _); refine kAllocL _ _ rfl rfl zero_BlkC ?_; intro w5 hRB hz5 hBq; have hRA5 := hRA4.below hBq hRA4.lt; have hAB : Hid (W0.heap.size ≠ w4.heap.size) := Nat.ne_of_lt hRA4.lt; clear hz5; go_frame)
      | ((with_reducible change wpList _ _ _ (Oper.mk none _ _ _ _ _ :: _) _ _); refine kStoreBlk _ _ w4.heap.size p.1 u _ hRB (blkC_size _ _) hU4.of.sl.one rfl rfl rfl rfl ?_; intro w7 hRB7 hW7; have hB7 := hBq.trans (hW7.below (Nat.le_refl _)); have hU7 := hU4.below hB7; have h7 := h4.below hB7; have hRA7 := hW7.row hRA5 hAB.out; have hB8 := hB5.trans (hB7.mono hB5.size); clear hRB hBq hW7 hB7 h4 hRA4 hRA5 hB5 hU4; go_frame)
      | (go_at_call 32; refine (blFault_any (E := E) (n := n) _ h7 hE hn).mono ?_; rintro e w8 ⟨rfl, rfl⟩; rw [hF]; go_frame)
      | ((with_reducible change wpList _ _ _ (Oper.mk (some 17) _ _ _ _ _ :: _) _ _); refine kNeqI _ _ _ _ .i64 ((62 : Nat) : Int) 0 true rfl rfl rfl rfl (by decide) ?_; go_frame)
      | ((with_reducible change wpList _ _ _ (Oper.mk (some 18) _ _ _ _ _ :: _) _ _); refine kY (yBuildBlk0 rfl rfl) ?_; go_frame)
      | ((with_reducible change wpList _ _ _ (Oper.mk none _ _ _ _ _ :: _) _ _); refine kStoreBlk _ _ W0.heap.size noHead (.slice none 0 0) _ hRA7 (blkC_size _ _) rfl rfl rfl rfl rfl ?_; intro w9 hRA9 hW9; have hB9 := hB8.trans (hW9.below (Nat.le_refl _)); go_frame))
    (try simp only [Exit.inBlock, Exit.then])
    exact result_row_tmp rfl rfl rfl hRA9 Tryz.underlying29 rfl (info_BlkS _ _) rfl ⟨_, rfl, ownTxs_nil _ _, hB9⟩
  · rw [if_neg n0] at hR
    subst hR
    have hF : faultN E n = 0 := by unfold faultN; rw [if_neg e0, if_neg n0]
    clear n0 e0
    go_enter Tryz.func21, Tryz.ntmps21
    go_wp2_with (first
      | ((with_reducible change wpList _ _ _ (Oper.mk (some 2) _ _ _ _ _ :: _) _ _); refine kAllocL _ _ rfl rfl zero_BlkC ?_; intro w1 hRA hz1 hB1; have hv1 := hv.below hB1; go_frame)
      | (go_at_call 30; refine (pcNew_any _ hv1 hl).mono ?_; rintro e w2 ⟨g, rfl, hg2, h2, hB2⟩; have hRA2 := hRA.below hB2 hRA.lt; have hgA : W0.heap.size ≠ g := (by omega); have hge : Hid (W0.heap.size ≤ g) := (by show W0.heap.size ≤ g; omega); have hB3 := hB1.trans (hB2.mono hB1.size); have hz2 : Hid (W0.heap.size < w2.heap.size) := Nat.lt_of_lt_of_le hz1 hB2.size; have hg2l : Hid (g < w2.heap.size) := h2.lt; clear hRA hB1 hB2 hv1 hz1 hg2; go_frame)
      | (go_at_call 31; refine (blHeadRead_any _ h2 hl (Nat.le_refl _)).mono ?_; rintro e w3 ⟨rfl, h3, hX3⟩; rw [hp] at h3 ⊢; have hRA3 := hX3.row hRA2 hgA; have hB4 := hB3.trans (hX3.below hge.out hB3.size); have hLs : w2.heap.size ≤ w3.heap.size := hX3.size; clear hRA2 hB3 hX3 h2; go_frame)
      | (go_at_call 43; refine (blTxs_any _ h3 hpr hLs).mono ?_; rintro e w4 ⟨u, rfl, hU, h4, hX4⟩; rw [hq] at h4 hU; have hRA4 := hX4.row hRA3 hgA; have hB5 := hB4.trans (hX4.below hge.out hB4.size); have hU4 := hU.less hLs; clear hRA3 hB4 hX4 h3 hLs hU; go_frame)
      | ((with_reducible change wpList _ _ _ (Oper.mk (some 13) _ _ _ _ _ :: _) _ _); refine kY (yBuildBlk2 _ _ p.1 u hU4.of.sl rfl rfl rfl rfl) ?_; go_frame)
      | ((with_reducible change wpList _ _ _ (Oper.mk (some 5) _ _ _ _ _ :: _) _ _); refine kAllocL _ _ rfl rfl zero_BlkC ?_; intro w5 hRB hz5 hBq; have hRA5 := hRA4.below hBq hRA4.lt; have hAB : Hid (W0.heap.size ≠ w4.heap.size) := Nat.ne_of_lt hRA4.lt; clear hz5; go_frame)
      | ((with_reducible change wpList _ _ _ (Oper.mk none _ _ _ _ _ :: _) _ _); refine kStoreBlk _ _ w4.heap.size p.1 u _ hRB (blkC_size _ _) hU4.of.sl.one rfl rfl rfl rfl ?_; intro w7 hRB7 hW7; have hB7 := hBq.trans (hW7.below (Nat.le_refl _)); have hU7 := hU4.below hB7; have h7 := h4.below hB7; have hRA7 := hW7.row hRA5 hAB.out; have hB8 := hB5.trans (hB7.mono hB5.size); clear hRB hBq hW7 hB7 h4 hRA4 hRA5 hB5 hU4; go_frame)
      | (go_at_call 32; refine (blFault_any (E := E) (n := n) _ h7 hE hn).mono ?_; rintro e w8 ⟨rfl, rfl⟩; rw [hF]; go_frame)
      | ((with_reducible change wpList _ _ _ (Oper.mk (some 17) _ _ _ _ _ :: _) _ _); refine kNeqI _ _ _ _ .i64 ((0 : Nat) : Int) 0 false rfl rfl rfl rfl (by decide) ?_; go_frame)
      | ((with_reducible change wpList _ _ _ (Oper.mk (some 20) _ _ _ _ _ :: _) _ _); refine kLoadBlk _ _ p.1 u hRB7 rfl rfl rfl ?_; go_frame)
      | ((with_reducible change wpList _ _ _ (Oper.mk none _ _ _ _ _ :: _) _ _); refine kStoreBlk _ _ W0.heap.size p.1 u _ hRA7 (blkC_size _ _) hU7.of.sl.one rfl rfl rfl rfl ?_; intro w9 hRA9 hW9; have hB9 := hB8.trans (hW9.below (Nat.le_refl _)); have hU9 := (hU7.over (over_wrote hW9 hz2.out)).less (Nat.le_of_lt hz2.out); go_frame))
    (try simp only [Exit.inBlock, Exit.then])
    exact result_row_tmp rfl rfl rfl hRA9 Tryz.underlying29 rfl (info_BlkS _ _) rfl ⟨_, rfl, hU9, hB9⟩
end Go.Proofs.YtmfjgehlkbndjaaGreatDoor
