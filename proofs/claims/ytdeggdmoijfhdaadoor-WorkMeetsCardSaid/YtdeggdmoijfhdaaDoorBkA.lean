/-
  Joined: BkPlain, BkCells, BkKit, BkWrite, BkBytes, BkRead.
-/
import Derived.Test.YtdeggdmoijfhdaaDoorTxChAll
import Derived.Test.YtdeggdmoijfhdaaDoorTxReAll
import Derived.Test.YtdeggdmoijfhdaaDoorTxBase
import Derived.Test.YtdeggdmoijfhdaaDoorLawStruct
/-
  Layer 11, plain: heads and blocks as bytes, read again as they were written; what stands for all hashes; whether a block can be.
-/
namespace Go.Proofs.YtdeggdmoijfhdaaDoor
open Go Go.RowKit

/-! ### what was read is what is written -/
def Exact {α : Type} (f : Scn → α × Scn) (e : α → List UInt8) : Prop := ∀ s, (f s).2.err = 0 → s.err = 0 ∧ e (f s).1 ++ (f s).2.rest = s.rest
theorem exact_fixed {k : Nat} (hk : k ≤ 8) : Exact (fun s => fixedS s (k : Int)) (fun n => fixedL n k) := fun _ h => ⟨fixed_ok h, (fixed_alone hk h).1⟩
theorem exact_text {m : Nat} : Exact (fun s => textS s (m : Int)) textL := fun _ h => ⟨text_ok h, (text_alone h).1⟩
theorem exact_count (m : Nat) : Exact (fun s => countS s m) countL := fun s h => by
  have h0 := count_ok h
  obtain ⟨b, k⟩ := s
  dsimp only at h0
  subst h0
  exact ⟨rfl, (count_alone (b := b) (most := m) (n := (countS ⟨b, 0⟩ m).1) (s := (countS ⟨b, 0⟩ m).2) rfl h).2.2⟩
theorem exact_raw {n : Nat} (hn : 1 ≤ n) : Exact (fun s => rawS s (n : Int)) (fun l => l) := fun s h => by
  have h' : (rawS s (n : Int)).2.err = 0 := h
  show s.err = 0 ∧ (rawS s (n : Int)).1 ++ (rawS s (n : Int)).2.rest = s.rest
  unfold rawS at h' ⊢
  split at h'
  · rename_i hc; rw [if_pos hc]; rcases hc with hc | hc
    · exact absurd h' hc
    · omega
  · rename_i hc
    rw [if_neg hc]
    split at h'
    · cases h'
    · rename_i hd
      rw [if_neg hd]
      refine ⟨by omega, ?_⟩
      simp
theorem listS_len {α : Type} (f : Scn → α × Scn) : ∀ (n : Nat) (s : Scn), (listS f n s).1.length = n
  | 0, _ => rfl
  | n + 1, s => by show ((listS f n (f s).2).1.length + 1) = n + 1; rw [listS_len f n]
theorem exact_list {α : Type} {f : Scn → α × Scn} {e : α → List UInt8} (hf : Exact f e) : ∀ n, Exact (listS f n) (fun l => (l.map e).flatten)
  | 0, s, h => ⟨h, rfl⟩
  | n + 1, s, h => by
    have h1 := exact_list hf n (f s).2 h
    have h2 := hf s h1.1
    refine ⟨h2.1, ?_⟩
    show ((f s).1 :: (listS f n (f s).2).1 |>.map e).flatten ++ (listS f n (f s).2).2.rest = s.rest
    rw [List.map_cons, List.flatten_cons, List.append_assoc, h1.2, h2.2]
theorem exact_ref : Exact refS (fun p => refL p.1 p.2) := fun s h => by
  unfold refS at h ⊢
  split at h
  · rename_i hc; exact absurd h hc
  · rename_i hc
    rw [if_neg hc]
    have h1 := exact_fixed (k := 4) (by decide) (rawS s 32).2 h
    have h2 := exact_raw (n := 32) (by decide) s h1.1
    refine ⟨h2.1, ?_⟩
    show refL (rawS s 32).1 (fixedS (rawS s 32).2 4).1 ++ (fixedS (rawS s 32).2 4).2.rest = s.rest
    unfold refL
    rw [List.append_assoc]
    exact (congrArg _ h1.2).trans h2.2
theorem exact_out : Exact outS outPL := fun s h => by
  unfold outS at h ⊢
  split at h
  · rename_i hc; exact absurd h hc
  · rename_i hc
    rw [if_neg hc]
    have h1 := exact_text (m := 2000) (fixedS s 8).2 h
    have h2 := exact_fixed (k := 8) (by decide) s h1.1
    have h3 := (fixed_alone (s := s) (k := 8) (by decide) h1.1).2
    refine ⟨h2.1, ?_⟩
    show outL (i64Z (fixedS s 8).1) (textS (fixedS s 8).2 2000).1 ++ (textS (fixedS s 8).2 2000).2.rest = s.rest
    unfold outL
    rw [u64_back (by have e : (256 : Nat) ^ 8 = 18446744073709551616 := by decide
                     rw [e] at h3; exact h3), List.append_assoc]
    exact (congrArg _ h1.2).trans h2.2
theorem exact_in : Exact inS inL := fun s h => by
  have h1 := exact_fixed (k := 4) (by decide) (textS (refS s).2 2000).2 h
  have h2 := exact_text (m := 2000) (refS s).2 h1.1
  have h3 := exact_ref s h2.1
  refine ⟨h3.1, ?_⟩
  show refL (refS s).1.1 (refS s).1.2 ++ (textL (textS (refS s).2 2000).1 ++ fixedL (fixedS (textS (refS s).2 2000).2 4).1 4) ++ (fixedS (textS (refS s).2 2000).2 4).2.rest = s.rest
  rw [List.append_assoc, List.append_assoc]
  exact (congrArg _ ((congrArg _ h1.2).trans h2.2)).trans h3.2
theorem exact_rawTx : Exact rawTx txL := fun s h => by
  rw [rawTx_eq] at h ⊢
  have h1 := exact_fixed (k := 4) (by decide) (outsS (insS (fixedS s 4).2).2).2 h
  have h2 := exact_list exact_out _ _ h1.1
  have h3 := exact_count 200 _ h2.1
  have h4 := exact_list exact_in _ _ h3.1
  have h5 := exact_count 200 _ h4.1
  have h6 := exact_fixed (k := 4) (by decide) s h5.1
  refine ⟨h6.1, ?_⟩
  have e1 : (insS (fixedS s 4).2).1.length = (countS (fixedS s 4).2 200).1 := listS_len _ _ _
  have e2 : (outsS (insS (fixedS s 4).2).2).1.length = (countS (insS (fixedS s 4).2).2 200).1 := listS_len _ _ _
  show txL _ ++ (fixedS (outsS (insS (fixedS s 4).2).2).2 4).2.rest = s.rest
  unfold txL
  dsimp only
  rw [e1, e2]
  simp only [List.append_assoc]
  exact (congrArg _ ((congrArg _ ((congrArg _ ((congrArg _ ((congrArg _ h1.2).trans h2.2)).trans h3.2)).trans h4.2)).trans h5.2)).trans h6.2
theorem exact_read : Exact readS txL := fun s h => by
  unfold readS at h ⊢
  split at h
  · rename_i hc; exact absurd h hc
  · rename_i hc; rw [if_neg hc]; exact exact_rawTx s h
/-! ### what is read can be -/
theorem text_le2000K (s : Scn) : (textS s 2000).1.length ≤ 2000 := by
  have h := count_le s 2000
  unfold textS
  split
  · simp
  · split
    · simp
    · rw [List.length_take]; exact Nat.le_trans (Nat.min_le_left _ _) h
theorem out_goodK (s : Scn) : outOk (outS s).1 ∧ (outS s).1.2.length ≤ 2000 := by
  unfold outS
  split
  · exact ⟨⟨by show (-9223372036854775808 : Int) ≤ 0; decide, by show (0 : Int) < 9223372036854775808; decide⟩, Nat.zero_le _⟩
  · exact ⟨i64_bounds _, text_le2000K _⟩
theorem ref_at_ltK (s : Scn) : (refS s).1.2 < 4294967296 := by
  unfold refS
  split
  · exact (by decide : (0 : Nat) < 4294967296)
  · exact fixed4_lt _
theorem list_allK {α : Type} {f : Scn → α × Scn} {P : α → Prop} (hf : ∀ s, P (f s).1) : ∀ (n : Nat) (s : Scn), ∀ x ∈ (listS f n s).1, P x
  | 0, _, x, h => by cases h
  | n + 1, s, x, h => by
    rcases List.mem_cons.1 h with rfl | h
    · exact hf s
    · exact list_allK hf n _ x h
theorem noTx_isK : noTx.Is := ⟨by decide, by decide, (fun i hi => by cases hi), (fun x hx => by cases hx)⟩
theorem noTx_fitsK : noTx.Fits := ⟨by decide, by decide, (fun i hi => by cases hi), (fun x hx => by cases hx)⟩
theorem raw_goodK (s : Scn) : (rawTx s).1.Is ∧ (rawTx s).1.Fits := by
  rw [rawTx_eq]
  refine ⟨⟨fixed4_lt _, fixed4_lt _, ?_, ?_⟩, ⟨?_, ?_, ?_, ?_⟩⟩
  · exact list_allK (P := InP.Is) (fun s => ⟨refS_len _, ref_at_ltK _, fixed4_lt _⟩) _ _
  · exact list_allK (P := outOk) (fun s => (out_goodK s).1) _ _
  · show (listS inS _ _).1.length ≤ 200
    rw [listS_len]; exact count_le _ _
  · show (listS outS _ _).1.length ≤ 200
    rw [listS_len]; exact count_le _ _
  · exact list_allK (P := fun i : InP => i.unlock.length ≤ 2000) (fun s => text_le2000K _) _ _
  · exact list_allK (P := fun i : Int × List UInt8 => i.2.length ≤ 2000) (fun s => (out_goodK s).2) _ _
theorem read_goodK (s : Scn) : (readS s).1.Is ∧ (readS s).1.Fits := by
  unfold readS
  split
  · exact ⟨noTx_isK, noTx_fitsK⟩
  · exact raw_goodK s
theorem raw_tx_bad {s : Scn} (hs : s.err ≠ 0) : (rawTx s).2 = s := by
  have e : ∀ n (s : Scn), s.err ≠ 0 → (listS inS n s).2 = s := listS_bad in_bad
  have e' : ∀ n (s : Scn), s.err ≠ 0 → (listS outS n s).2 = s := listS_bad out_bad
  rw [rawTx_eq]
  have h1 : (fixedS s 4).2 = s := by rw [fixed_bad hs]
  have h2 : (insS s).2 = s := by show (listS inS _ (countS s 200).2).2 = s; rw [cnt_bad s hs]; exact e _ s hs
  have h3 : (outsS s).2 = s := by show (listS outS _ (countS s 200).2).2 = s; rw [cnt_bad s hs]; exact e' _ s hs
  dsimp only
  rw [h1, h2, h3, h1]
theorem read_bad (s : Scn) (hs : s.err ≠ 0) : (readS s).2 = s := by
  unfold readS
  rw [raw_tx_bad hs, if_pos hs]
theorem good_read {t : TxP} (h : t.Is) (hf : t.Fits) : Good readS (txL t) t := ⟨tx_back h hf, fun _ hk => (tx_cut h hf hk).1, read_bad⟩

/-! ### heads -/
structure HeadP where
  version : Nat
  prev : List UInt8
  root : List UInt8
  time : Nat
  bits : Nat
  nonce : Nat
def HeadP.Is (h : HeadP) : Prop := h.version < 4294967296 ∧ h.prev.length = 32 ∧ h.root.length = 32 ∧ h.time < 4294967296 ∧ h.bits < 4294967296 ∧ h.nonce < 4294967296
def noHead : HeadP := ⟨0, z32, z32, 0, 0, 0⟩
theorem noHead_is : noHead.Is := by unfold noHead HeadP.Is; decide
def headL (h : HeadP) : List UInt8 := fixedL h.version 4 ++ (h.prev ++ (h.root ++ (fixedL h.time 4 ++ (fixedL h.bits 4 ++ fixedL h.nonce 4))))
theorem headL_len {h : HeadP} (hh : h.Is) : (headL h).length = 80 := by
  unfold headL
  simp only [List.length_append, fixedL_len, hh.2.1, hh.2.2.1]
/-- thirty-two bytes that are read: noughts, where they are missing -/
def hashS (s : Scn) : List UInt8 × Scn := (if (rawS s 32).1.length = 32 then (rawS s 32).1 else z32, (rawS s 32).2)
theorem hashS_len (s : Scn) : (hashS s).1.length = 32 := by unfold hashS; dsimp only; split <;> first | assumption | rfl
theorem hashS_bad (s : Scn) (hs : s.err ≠ 0) : (hashS s).2 = s := by unfold hashS; rw [raw_bad hs]
theorem good_hash {x : List UInt8} (hx : x.length = 32) : Good hashS x x := by
  have h := good_raw (x := x) (n := 32) hx
  refine ⟨fun r => ?_, fun k hk => h.cut k hk, hashS_bad⟩
  have h' : rawS ⟨x ++ r, 0⟩ 32 = (x, ⟨r, 0⟩) := h.back r
  unfold hashS
  rw [h']
  dsimp only
  rw [if_pos hx]
theorem exact_hash : Exact hashS (fun l => l) := fun s h => by
  have h1 := exact_raw (n := 32) (by decide) s h
  have h2 := raw_len (s := s) (n := 32) h
  refine ⟨h1.1, ?_⟩
  unfold hashS
  dsimp only
  have h2' : (rawS s 32).1.length = 32 := h2
  rw [if_pos h2']
  exact h1.2
def head0 : Scn → (Nat × List UInt8 × List UInt8 × Nat × Nat × Nat) × Scn := thenS (fun s => fixedS s 4) (thenS hashS (thenS hashS (thenS (fun s => fixedS s 4) (thenS (fun s => fixedS s 4) (fun s => fixedS s 4)))))
def toHead (q : Nat × List UInt8 × List UInt8 × Nat × Nat × Nat) : HeadP := ⟨q.1, q.2.1, q.2.2.1, q.2.2.2.1, q.2.2.2.2.1, q.2.2.2.2.2⟩
def headS (s : Scn) : HeadP × Scn := (toHead (head0 s).1, (head0 s).2)
/-- step by step -/
theorem headS_eq {s : Scn} {v : Nat × Scn} {p r : List UInt8 × Scn} {t b n : Nat × Scn} (hv : fixedS s 4 = v) (hp : hashS v.2 = p) (hr : hashS p.2 = r) (ht : fixedS r.2 4 = t) (hb : fixedS t.2 4 = b) (hn : fixedS b.2 4 = n) : headS s = (⟨v.1, p.1, r.1, t.1, b.1, n.1⟩, n.2) := by
  subst hv hp hr ht hb hn; rfl
theorem headS_is (s : Scn) : (headS s).1.Is := by
  rw [headS_eq rfl rfl rfl rfl rfl rfl]
  exact ⟨fixed4_lt _, hashS_len _, hashS_len _, fixed4_lt _, fixed4_lt _, fixed4_lt _⟩
theorem headS_bad (s : Scn) (hs : s.err ≠ 0) : (headS s).2 = s := by
  have h1 : fixedS s 4 = (0, s) := fixed_bad hs 4
  have h2 : hashS s = ((hashS s).1, s) := Prod.ext rfl (hashS_bad s hs)
  rw [headS_eq h1 h2 h2 h1 h1 h1]
theorem good_head {h : HeadP} (hh : h.Is) : Good headS (headL h) h := by
  have f : ∀ {n : Nat}, n < 4294967296 → Good (fun s => fixedS s 4) (fixedL n 4) n := fun hn => good_fixed (k := 4) (by decide) (by rw [e4]; exact hn)
  obtain ⟨v, p, r, t, b, n⟩ := h
  obtain ⟨h1, h2, h3, h4, h5, h6⟩ := hh
  have g : Good head0 _ _ := (f h1).then ((good_hash h2).then ((good_hash h3).then ((f h4).then ((f h5).then (f h6)))))
  exact g.map toHead
theorem exact_head : Exact headS headL := fun s h => by
  obtain ⟨v, hv⟩ : ∃ v, fixedS s 4 = v := ⟨_, rfl⟩
  obtain ⟨p, hp⟩ : ∃ p, hashS v.2 = p := ⟨_, rfl⟩
  obtain ⟨r, hr⟩ : ∃ r, hashS p.2 = r := ⟨_, rfl⟩
  obtain ⟨t, ht⟩ : ∃ t, fixedS r.2 4 = t := ⟨_, rfl⟩
  obtain ⟨b, hb⟩ : ∃ b, fixedS t.2 4 = b := ⟨_, rfl⟩
  obtain ⟨n, hn⟩ : ∃ n, fixedS b.2 4 = n := ⟨_, rfl⟩
  rw [headS_eq hv hp hr ht hb hn] at h ⊢
  have k4 := exact_fixed (k := 4) (by decide)
  have h1 := k4 b.2 (by show (fixedS b.2 4).2.err = 0; rw [hn]; exact h)
  have h2 := k4 t.2 (by show (fixedS t.2 4).2.err = 0; rw [hb]; exact h1.1)
  have h3 := k4 r.2 (by show (fixedS r.2 4).2.err = 0; rw [ht]; exact h2.1)
  have h4 := exact_hash p.2 (by rw [hr]; exact h3.1)
  have h5 := exact_hash v.2 (by rw [hp]; exact h4.1)
  have h6 := k4 s (by show (fixedS s 4).2.err = 0; rw [hv]; exact h5.1)
  refine ⟨h6.1, ?_⟩
  have e1 : fixedL n.1 4 ++ n.2.rest = b.2.rest := by have := h1.2; rw [← hn]; exact this
  have e2 : fixedL b.1 4 ++ b.2.rest = t.2.rest := by have := h2.2; rw [← hb]; exact this
  have e3 : fixedL t.1 4 ++ t.2.rest = r.2.rest := by have := h3.2; rw [← ht]; exact this
  have e4 : r.1 ++ r.2.rest = p.2.rest := by have := h4.2; rw [← hr]; exact this
  have e5 : p.1 ++ p.2.rest = v.2.rest := by have := h5.2; rw [← hp]; exact this
  have e6 : fixedL v.1 4 ++ v.2.rest = s.rest := by have := h6.2; rw [← hv]; exact this
  unfold headL
  dsimp only
  simp only [List.append_assoc]
  rw [e1, e2, e3, e4, e5, e6]
def headParse (b : List UInt8) : HeadP × Nat :=
  if (headS ⟨b, 0⟩).2.err ≠ 0 then (noHead, (headS ⟨b, 0⟩).2.err) else if 0 < (headS ⟨b, 0⟩).2.rest.length then (noHead, 62) else ((headS ⟨b, 0⟩).1, 0)
theorem headParse_back {h : HeadP} (hh : h.Is) : headParse (headL h) = (h, 0) := by
  have e := (good_head hh).back []
  rw [List.append_nil] at e
  unfold headParse
  rw [e, if_neg (by simp), if_neg (by simp)]
theorem headL_zero : headL noHead = List.replicate 80 0 := by decide
theorem headParse_80 : headParse (List.replicate 80 0) = (noHead, 0) := by rw [← headL_zero]; exact headParse_back noHead_is
theorem headParse_79 : headParse (List.replicate 79 0) = (noHead, 61) := by
  have e := (good_head noHead_is).cut 79 (by rw [headL_len noHead_is]; decide)
  rw [headL_zero, List.take_replicate] at e
  have e' : (headS ⟨List.replicate 79 0, 0⟩).2.err = 61 := e
  unfold headParse
  rw [e', if_pos (by decide)]
theorem headParse_81 : headParse (List.replicate 81 0) = (noHead, 62) := by
  have e := (good_head noHead_is).back [0]
  rw [headL_zero, show List.replicate 80 (0 : UInt8) ++ [0] = List.replicate 81 0 by decide] at e
  unfold headParse
  rw [e, if_neg (by simp), if_pos (by simp)]
theorem headParse_is (b : List UInt8) : (headParse b).1.Is := by
  unfold headParse
  split
  · exact noHead_is
  · split
    · exact noHead_is
    · exact headS_is _
theorem head_restLe (s : Scn) : (headS s).2.rest.length ≤ s.rest.length := by
  rw [headS_eq rfl rfl rfl rfl rfl rfl]
  exact Nat.le_trans (fixed_restLeC _ 4) (Nat.le_trans (fixed_restLeC _ 4) (Nat.le_trans (fixed_restLeC _ 4) (Nat.le_trans (raw_restLeC _ 32) (Nat.le_trans (raw_restLeC _ 32) (fixed_restLeC s 4)))))

/-! ### blocks -/
structure BlockP where
  head : HeadP
  txs : List TxP
def noBlock : BlockP := ⟨noHead, []⟩
def BlockP.Is (b : BlockP) : Prop := b.head.Is ∧ ∀ t ∈ b.txs, t.Is
def BlockP.Fits (b : BlockP) : Prop := b.txs.length ≤ 100 ∧ ∀ t ∈ b.txs, t.Fits
def txsL (l : List TxP) : List UInt8 := (l.map txL).flatten
def blockL (b : BlockP) : List UInt8 := headL b.head ++ (countL b.txs.length ++ txsL b.txs)
theorem txsL_len {l : List TxP} (h : ∀ t ∈ l, t.Is) (hf : ∀ t ∈ l, t.Fits) : (txsL l).length ≤ l.length * 900000 := by
  induction l with
  | nil => simp [txsL]
  | cons t l ih =>
    have h1 := ih (fun x hx => h x (by simp [hx])) (fun x hx => hf x (by simp [hx]))
    have h2 := txL_len (h t (by simp)) (hf t (by simp))
    show ((txL t) ++ txsL l).length ≤ (l.length + 1) * 900000
    rw [List.length_append]; omega
theorem txsL_step {l : List TxP} {k : Nat} {t : TxP} (h : l[k]? = some t) : txsL (l.drop k) = txL t ++ txsL (l.drop (k + 1)) := by
  obtain ⟨hk, rfl⟩ := List.getElem?_eq_some_iff.1 h
  rw [List.drop_eq_getElem_cons hk]; unfold txsL; rw [List.map_cons, List.flatten_cons]
theorem blockL_len {b : BlockP} (h : b.Is) (hf : b.Fits) : (blockL b).length ≤ 90000089 := by
  have h1 := txsL_len h.2 hf.2
  have h2 := headL_len h.1
  have h3 := countL_le b.txs.length
  have h4 := hf.1
  unfold blockL
  rw [List.length_append, List.length_append]; omega
def txsS (s : Scn) : List TxP × Scn := listS readS (countS s 100).1 (countS s 100).2
def toBlock (q : HeadP × List TxP) : BlockP := ⟨q.1, q.2⟩
def rawB (s : Scn) : BlockP × Scn := (toBlock (thenS headS txsS s).1, (thenS headS txsS s).2)
theorem rawB_eq {s : Scn} {h : HeadP × Scn} {t : List TxP × Scn} (hh : headS s = h) (ht : txsS h.2 = t) : rawB s = (⟨h.1, t.1⟩, t.2) := by
  unfold rawB thenS toBlock; rw [hh]; dsimp only; rw [ht]
def parseB (b : List UInt8) : BlockP × Nat :=
  if (rawB ⟨b, 0⟩).2.err ≠ 0 then (noBlock, (rawB ⟨b, 0⟩).2.err) else if 0 < (rawB ⟨b, 0⟩).2.rest.length then (noBlock, 62) else ((rawB ⟨b, 0⟩).1, 0)
theorem txsS_bad (s : Scn) (hs : s.err ≠ 0) : (txsS s).2 = s := by unfold txsS; rw [count_bad hs]; exact listS_bad read_bad _ s hs
theorem good_txs {l : List TxP} (h : ∀ t ∈ l, t.Is) (hf : ∀ t ∈ l, t.Fits) (hl : l.length ≤ 100) : Good txsS (countL l.length ++ txsL l) l := by
  have h1 := good_count (n := l.length) (most := 100) (by omega) hl
  have h2 : Good (listS readS l.length) (txsL l) l := good_list read_bad l fun t ht => good_read (h t ht) (hf t ht)
  exact (h1.bind (fun n s hs => listS_bad read_bad n s hs) h2)
theorem good_block {b : BlockP} (h : b.Is) (hf : b.Fits) : Good rawB (blockL b) b :=
  ((good_head h.1).then (good_txs h.2 hf.2 hf.1)).map toBlock
theorem parse_blockL {b : BlockP} (h : b.Is) (hf : b.Fits) : parseB (blockL b) = (b, 0) := by
  have e := (good_block h hf).back []
  rw [List.append_nil] at e
  unfold parseB
  rw [e, if_neg (by simp), if_neg (by simp)]
theorem parseB_right {l : List UInt8} (h : (parseB l).2 = 0) : blockL (parseB l).1 = l := by
  obtain ⟨p, hp⟩ : ∃ p, headS ⟨l, 0⟩ = p := ⟨_, rfl⟩
  obtain ⟨q, hq⟩ : ∃ q, txsS p.2 = q := ⟨_, rfl⟩
  unfold parseB at h ⊢
  rw [rawB_eq hp hq] at h ⊢
  dsimp only at h ⊢
  split at h
  · rename_i hc; exact absurd h hc
  · rename_i hc
    rw [if_neg hc]
    split at h
    · cases h
    · rename_i hd
      rw [if_neg hd]
      have hc' : q.2.err = 0 := by omega
      have hd' : q.2.rest = [] := List.eq_nil_of_length_eq_zero (by omega)
      have h1 := exact_list exact_read (countS p.2 100).1 (countS p.2 100).2 (by show (txsS p.2).2.err = 0; rw [hq]; exact hc')
      have h2 := exact_count 100 p.2 h1.1
      have h3 := exact_head ⟨l, 0⟩ (by rw [hp]; exact h2.1)
      have e0 : (txsS p.2).1.length = (countS p.2 100).1 := listS_len _ _ _
      have e1 : txsL (txsS p.2).1 ++ (txsS p.2).2.rest = (countS p.2 100).2.rest := h1.2
      have e2 : countL (countS p.2 100).1 ++ (countS p.2 100).2.rest = p.2.rest := h2.2
      have e3 : headL (headS ⟨l, 0⟩).1 ++ (headS ⟨l, 0⟩).2.rest = l := h3.2
      rw [hp] at e3
      rw [hq, hd', List.append_nil] at e1
      rw [hq] at e0
      unfold blockL
      dsimp only
      rw [e0, e1, e2, e3]
theorem noBlock_is : noBlock.Is := ⟨noHead_is, fun t ht => by cases ht⟩
theorem noBlock_fits : noBlock.Fits := ⟨by decide, fun t ht => by cases ht⟩
theorem txsS_good (s : Scn) : (∀ t ∈ (txsS s).1, t.Is) ∧ (∀ t ∈ (txsS s).1, t.Fits) ∧ (txsS s).1.length ≤ 100 := by
  unfold txsS
  exact ⟨list_allK (P := TxP.Is) (fun s => (read_goodK s).1) _ _, list_allK (P := TxP.Fits) (fun s => (read_goodK s).2) _ _, by rw [listS_len]; exact count_le _ _⟩
theorem rawB_good (s : Scn) : (rawB s).1.Is ∧ (rawB s).1.Fits := by
  have h1 := headS_is s
  obtain ⟨p, hp⟩ : ∃ p, headS s = p := ⟨_, rfl⟩
  rw [hp] at h1
  obtain ⟨h2, h3, h4⟩ := txsS_good p.2
  obtain ⟨q, hq⟩ : ∃ q, txsS p.2 = q := ⟨_, rfl⟩
  rw [hq] at h2 h3 h4
  rw [rawB_eq hp hq]
  exact ⟨⟨h1, h2⟩, h4, h3⟩
theorem parseB_good (l : List UInt8) : (parseB l).1.Is ∧ (parseB l).1.Fits := by
  have h := rawB_good ⟨l, 0⟩
  unfold parseB
  generalize rawB ⟨l, 0⟩ = p at *
  split
  · exact ⟨noBlock_is, noBlock_fits⟩
  · split
    · exact ⟨noBlock_is, noBlock_fits⟩
    · exact h
theorem txs_restLe (s : Scn) : (txsS s).2.rest.length ≤ s.rest.length := Nat.le_trans (list_restLe read_restLe _ _) (count_restLe s 100)

/-! ### what stands for all hashes -/
def pairL (a b : List UInt8) : List UInt8 := sha (sha (a ++ b))
theorem pairL_len (a b : List UInt8) : (pairL a b).length = 32 := sha_len _
def joinL : List (List UInt8) → List (List UInt8) × Bool
  | [] => ([], false)
  | [a] => ([pairL a a], false)
  | a :: b :: r => (pairL a b :: (joinL r).1, decide (a = b) || (joinL r).2)
theorem joinL_len : ∀ l : List (List UInt8), (joinL l).1.length = (l.length + 1) / 2
  | [] => rfl
  | [a] => by simp [joinL]
  | a :: b :: r => by show (joinL r).1.length + 1 = (r.length + 1 + 1 + 1) / 2; rw [joinL_len r]; omega
theorem joinL_32 : ∀ (l : List (List UInt8)), ∀ x ∈ (joinL l).1, x.length = 32
  | [], x, h => by cases h
  | [a], x, h => by have e : x = pairL a a := by simpa [joinL] using h
                    rw [e]; exact pairL_len _ _
  | a :: b :: r, x, h => by
    rcases List.mem_cons.1 h with rfl | h
    · exact pairL_len _ _
    · exact joinL_32 r x h
def rootF : Nat → List (List UInt8) → List UInt8 × Bool
  | 0, _ => (z32, false)
  | _ + 1, [] => (z32, false)
  | _ + 1, [a] => (a, false)
  | n + 1, a :: b :: r => ((rootF n (joinL (a :: b :: r)).1).1, (joinL (a :: b :: r)).2 || (rootF n (joinL (a :: b :: r)).1).2)
theorem rootF_more : ∀ (n m : Nat) (l : List (List UInt8)), l.length ≤ n → l.length ≤ m → rootF n l = rootF m l
  | 0, 0, _, _, _ => rfl
  | 0, m + 1, l, h, _ => by obtain rfl : l = [] := List.eq_nil_of_length_eq_zero (by omega); rfl
  | n + 1, 0, l, _, h => by obtain rfl : l = [] := List.eq_nil_of_length_eq_zero (by omega); rfl
  | n + 1, m + 1, [], _, _ => rfl
  | n + 1, m + 1, [a], _, _ => rfl
  | n + 1, m + 1, a :: b :: r, h, k => by
    have e := joinL_len (a :: b :: r)
    simp only [List.length_cons] at e h k
    have h1 := rootF_more n m (joinL (a :: b :: r)).1 (by omega) (by omega)
    show ((rootF n _).1, _ || (rootF n _).2) = ((rootF m _).1, _ || (rootF m _).2)
    rw [h1]
def rootL (l : List (List UInt8)) : List UInt8 × Bool := rootF l.length l
theorem rootL_nil : rootL [] = (z32, false) := rfl
theorem rootL_one (a : List UInt8) : rootL [a] = (a, false) := rfl
theorem rootL_step {l : List (List UInt8)} (h : 2 ≤ l.length) : rootL l = ((rootL (joinL l).1).1, (joinL l).2 || (rootL (joinL l).1).2) := by
  have e := joinL_len l
  match l, h, e with
  | a :: b :: r, h, e =>
    simp only [List.length_cons] at e
    have h1 := rootF_more (r.length + 1) (joinL (a :: b :: r)).1.length (joinL (a :: b :: r)).1 (by omega) (by omega)
    show ((rootF (r.length + 1) _).1, _ || (rootF (r.length + 1) _).2) = _
    rw [h1]; rfl
theorem rootL_len {l : List (List UInt8)} (h : ∀ x ∈ l, x.length = 32) : (rootL l).1.length = 32 := by
  have key : ∀ (n : Nat) (l : List (List UInt8)), (∀ x ∈ l, x.length = 32) → (rootF n l).1.length = 32 := by
    intro n
    induction n with
    | zero => intro _ _; rfl
    | succ n ih =>
      intro l h
      match l, h with
      | [], _ => rfl
      | [a], h => exact h a (by simp)
      | a :: b :: r, h => exact ih _ (joinL_32 _)
  exact key _ _ h

/-! ### can it be? -/
def idsL (l : List TxP) : List (List UInt8) := l.map idL
theorem idsL_32 (l : List TxP) : ∀ x ∈ idsL l, x.length = 32 := fun x hx => by obtain ⟨t, -, rfl⟩ := List.mem_map.1 hx; exact idL_len t
def onceB : List TxP → Bool
  | [] => false
  | t :: l => baseB t.ins && !(l.any fun t => baseB t.ins)
def firstE : List TxP → Int
  | [] => 0
  | t :: l => if checkN t ≠ 0 then checkN t else firstE l
def checkB (b : BlockP) : Int :=
  if b.txs = [] then 111 else if 20000 < (blockL b).length then 111 else if onceB b.txs = false then 111 else if firstE b.txs ≠ 0 then firstE b.txs
  else if (rootL (idsL b.txs)).1 ≠ b.head.root ∨ (rootL (idsL b.txs)).2 = true then 111 else 0
def hidL (h : HeadP) : List UInt8 := sha (sha (headL h))
theorem hidL_len (h : HeadP) : (hidL h).length = 32 := sha_len _
end Go.Proofs.YtdeggdmoijfhdaaDoor

/-
  Layer 11: heads and blocks as cells; slices of hashes and of transactions.
-/
namespace Go.Proofs.YtdeggdmoijfhdaaDoor
open Go Go.RowKit

/-! ### any quiet operation in a plain region -/
section
variable {P : Program} {ops : Array Oper} {Q : Exit → Act → World → Prop} {rest : List Oper} {o : Oper} {a : Act} {w : World}
theorem kY {v : Value} (hy : YieldsIf P ops (fun w' => w' = w) o v a) (h : wpList P ops Q rest (a.put o.dst v) w) : wpList P ops Q (o :: rest) a w := by
  rcases hy with ⟨hg, hv⟩ | ⟨hg, rfl⟩
  · refine BigFrame.wpList_want hg fun K hK => ?_
    unfold Oper.wp
    rw [hv w rfl]
    exact hK _ _ h
  · simp only [wpList, hg]
    exact h
end
/-! ### cells -/
def headR (h : HeadP) : List Value := Value.int .u32 (h.version : Int) :: ((List.range 32).map (fun p => VB (at8 h.prev p)) ++ ((List.range 32).map (fun p => VB (at8 h.root p)) ++ [Value.int .u32 (h.time : Int), .int .u32 (h.bits : Int), .int .u32 (h.nonce : Int)]))
def headC (h : HeadP) : Array Value := (headR h).toArray
def blkR (h : HeadP) (v : Value) : List Value := headR h ++ [v]
def blkC (h : HeadP) (v : Value) : Array Value := (blkR h v).toArray
theorem headR_len (h : HeadP) : (headR h).length = 68 := by simp [headR]
theorem headC_size (h : HeadP) : (headC h).size = 68 := by simp [headC, headR]
theorem blkC_size (h : HeadP) (v : Value) : (blkC h v).size = 69 := by simp [blkC, blkR, headR]
theorem info_HeadC : (Tryd.prog.info? 26).map (·.size) = some 68 := by kernel_rfl
theorem info_u32B : (Tryd.prog.info? 22).map (·.size) = some 1 := by kernel_rfl
theorem info_HeadS (h : HeadP) : (Tryd.prog.info? 26).map (·.size) = some (headC h).size := by rw [headC_size]; exact info_HeadC
theorem range32_z : (List.range 32).map (fun p => VB (at8 z32 p)) = (List.range 32).map (fun _ => VB 0) := List.map_congr_left fun j hj => by rw [at_z32 j (List.mem_range.1 hj)]
theorem headR_z : headR noHead = Value.int .u32 0 :: ((List.range 32).map (fun _ => VB 0) ++ ((List.range 32).map (fun _ => VB 0) ++ [Value.int .u32 0, .int .u32 0, .int .u32 0])) := by
  unfold headR noHead
  dsimp only
  rw [range32_z]; rfl
theorem zero_Head0 : ((Tryd.prog.info? 26).bind (·.zero)).map Value.cells = some (Value.int .u32 0 :: ((List.range 32).map (fun _ => VB 0) ++ ((List.range 32).map (fun _ => VB 0) ++ [Value.int .u32 0, .int .u32 0, .int .u32 0]))).toArray := by kernel_rfl
theorem zero_HeadC : ((Tryd.prog.info? 26).bind (·.zero)).map Value.cells = some (headC noHead) := by unfold headC; rw [headR_z]; exact zero_Head0
theorem zero_HashB : ((Tryd.prog.info? 24).bind (·.zero)).map Value.cells = some (tab 32 fun p => VB (at8 z32 p)) := by
  have e : (tab 32 fun p => VB (at8 z32 p)) = tab 32 fun _ => VB 0 := by unfold tab; rw [range32_z]
  rw [e]; exact zero_Hash
theorem built_Head0z : Tryd.prog.built 26 [] = some (Value.int .u32 0 :: ((List.range 32).map (fun _ => VB 0) ++ ((List.range 32).map (fun _ => VB 0) ++ [Value.int .u32 0, .int .u32 0, .int .u32 0]))).toArray := by kernel_rfl
theorem built_Head0 : Tryd.prog.built 26 [] = some (headC noHead) := by unfold headC; rw [headR_z]; exact built_Head0z
theorem built_Head6 (v t b n : Nat) (p r : List UInt8) : Tryd.prog.built 26 [(0, .int .u32 (v : Int)), (1, .agg (tab 32 fun q => VB (at8 p q))), (2, .agg (tab 32 fun q => VB (at8 r q))), (3, .int .u32 (t : Int)), (4, .int .u32 (b : Int)), (5, .int .u32 (n : Int))] = some (headC ⟨v, p, r, t, b, n⟩) := by kernel_rfl
theorem built_Head4z (v t b n : Nat) : Tryd.prog.built 26 [(0, .int .u32 (v : Int)), (3, .int .u32 (t : Int)), (4, .int .u32 (b : Int)), (5, .int .u32 (n : Int))] = some (Value.int .u32 (v : Int) :: ((List.range 32).map (fun _ => VB 0) ++ ((List.range 32).map (fun _ => VB 0) ++ [Value.int .u32 (t : Int), .int .u32 (b : Int), .int .u32 (n : Int)]))).toArray := by kernel_rfl
theorem built_Head4 (v t b n : Nat) : Tryd.prog.built 26 [(0, .int .u32 (v : Int)), (3, .int .u32 (t : Int)), (4, .int .u32 (b : Int)), (5, .int .u32 (n : Int))] = some (headC ⟨v, z32, z32, t, b, n⟩) := by
  rw [built_Head4z]; unfold headC headR; dsimp only; rw [range32_z]
theorem built_Head2z (r : List UInt8) (t : Nat) : Tryd.prog.built 26 [(2, .agg (tab 32 fun q => VB (at8 r q))), (3, .int .u32 (t : Int))] = some (Value.int .u32 0 :: ((List.range 32).map (fun _ => VB 0) ++ ((List.range 32).map (fun p => VB (at8 r p)) ++ [Value.int .u32 (t : Int), .int .u32 0, .int .u32 0]))).toArray := by kernel_rfl
theorem built_Head2 (r : List UInt8) (t : Nat) : Tryd.prog.built 26 [(2, .agg (tab 32 fun q => VB (at8 r q))), (3, .int .u32 (t : Int))] = some (headC ⟨0, z32, r, t, 0, 0⟩) := by
  rw [built_Head2z]; unfold headC headR; dsimp only; rw [range32_z]; rfl
theorem headF0 : ∃ f fs, Tryd.prog.underlying 26 = some (.struct fs) ∧ fs[0]? = some f ∧ f.offset = 0 ∧ (Tryd.prog.info? f.type).map (·.size) = some (0 + 1) := ⟨_, _, Tryd.underlying26, rfl, rfl, by kernel_rfl⟩
theorem headF1 : ∃ f fs, Tryd.prog.underlying 26 = some (.struct fs) ∧ fs[1]? = some f ∧ f.offset = 1 ∧ (Tryd.prog.info? f.type).map (·.size) = some (31 + 1) := ⟨_, _, Tryd.underlying26, rfl, rfl, by kernel_rfl⟩
theorem headF2 : ∃ f fs, Tryd.prog.underlying 26 = some (.struct fs) ∧ fs[2]? = some f ∧ f.offset = 33 ∧ (Tryd.prog.info? f.type).map (·.size) = some (31 + 1) := ⟨_, _, Tryd.underlying26, rfl, rfl, by kernel_rfl⟩
theorem headF3 : ∃ f fs, Tryd.prog.underlying 26 = some (.struct fs) ∧ fs[3]? = some f ∧ f.offset = 65 ∧ (Tryd.prog.info? f.type).map (·.size) = some (0 + 1) := ⟨_, _, Tryd.underlying26, rfl, rfl, by kernel_rfl⟩
theorem headF4 : ∃ f fs, Tryd.prog.underlying 26 = some (.struct fs) ∧ fs[4]? = some f ∧ f.offset = 66 ∧ (Tryd.prog.info? f.type).map (·.size) = some (0 + 1) := ⟨_, _, Tryd.underlying26, rfl, rfl, by kernel_rfl⟩
theorem headF5 : ∃ f fs, Tryd.prog.underlying 26 = some (.struct fs) ∧ fs[5]? = some f ∧ f.offset = 67 ∧ (Tryd.prog.info? f.type).map (·.size) = some (0 + 1) := ⟨_, _, Tryd.underlying26, rfl, rfl, by kernel_rfl⟩
theorem headC_prev (h : HeadP) : (headC h).extract 1 (1 + 32) = tab 32 fun p => VB (at8 h.prev p) := by kernel_rfl
theorem headC_root (h : HeadP) : (headC h).extract 33 (33 + 32) = tab 32 fun p => VB (at8 h.root p) := by kernel_rfl
theorem headC_0 (h : HeadP) : (headC h)[0]? = some (.int .u32 (h.version : Int)) := by kernel_rfl
theorem headC_65 (h : HeadP) : (headC h)[65]? = some (.int .u32 (h.time : Int)) := by kernel_rfl
theorem headC_66 (h : HeadP) : (headC h)[66]? = some (.int .u32 (h.bits : Int)) := by kernel_rfl
theorem headC_67 (h : HeadP) : (headC h)[67]? = some (.int .u32 (h.nonce : Int)) := by kernel_rfl
theorem headC_nonce (h : HeadP) (n : Nat) : (headC h).setIfInBounds 67 (.int .u32 (n : Int)) = headC ⟨h.version, h.prev, h.root, h.time, h.bits, n⟩ := by kernel_rfl
theorem blkC_head (h : HeadP) (v : Value) : (blkC h v).extract 0 (0 + 68) = headC h := by kernel_rfl
theorem blkC_root (h : HeadP) (v : Value) : (blkC h v).extract 33 (33 + 32) = tab 32 fun p => VB (at8 h.root p) := by kernel_rfl
theorem blkC_68 (h : HeadP) (v : Value) : (blkC h v)[68]? = some v := by kernel_rfl
theorem blkC_33 (h : HeadP) (v : Value) : (blkC h v)[33]? = some (VB (at8 h.root 0)) := by kernel_rfl
theorem blkC_set (h : HeadP) (u v : Value) : (blkC h u).setIfInBounds 68 v = blkC h v := by kernel_rfl
theorem blkC_splice (h g : HeadP) (u : Value) : splice (blkC g u) 0 (headC h).toList = blkC h u := by kernel_rfl
theorem headC_one (h : HeadP) : ∀ v ∈ headC h, v.oneCell' = true := by
  intro v hv
  simp only [headC, headR, List.mem_toArray, List.mem_append, List.mem_map, List.mem_cons, List.not_mem_nil, or_false] at hv
  rcases hv with rfl | ⟨j, -, rfl⟩ | ⟨j, -, rfl⟩ | rfl | rfl | rfl <;> rfl
theorem blkC_one (h : HeadP) {u : Value} (hu : u.oneCell' = true) : ∀ v ∈ blkC h u, v.oneCell' = true := by
  intro v hv
  simp only [blkC, blkR, List.mem_toArray, List.mem_append, List.mem_cons, List.not_mem_nil, or_false] at hv
  rcases hv with hv | rfl
  · exact headC_one h v (by unfold headC; simpa using hv)
  · exact hu
/-- the bytes of a head's two hashes, where they lie -/
theorem sub_vals {w : World} {g off : Nat} {T : TypeId} {cs : Array Value} {l : List UInt8} (hr : Row w g T cs) (hn : off + 32 ≤ cs.size) (hl : l.length = 32) (he : cs.extract off (off + 32) = tab 32 fun p => VB (at8 l p)) : IsVals w (.slice (some ⟨g, off, none⟩) 32 32) (l.map VB) := by
  refine ⟨some ⟨g, off, none⟩, 32, by rw [List.length_map, hl], by simp [hl], fun h => by simp at h, fun j u hu => ⟨_, rfl, ?_⟩⟩
  have hj : j < 32 := by have := (List.getElem?_eq_some_iff.1 hu).1; simpa [hl] using this
  have h1 : cs[off + j]? = (cs.extract off (off + 32))[j]? := by rw [Array.getElem?_extract]; simp [Nat.min_eq_left hn, hj]
  rw [add_none, hr.cell, h1, he, tab_list l 32 hl]
  simpa using hu

/-! ### slices of hashes, of transactions -/
def hashR (l : List UInt8) : List Value := (List.range 32).map fun p => VB (at8 l p)
theorem hashR_len (l : List UInt8) : (hashR l).length = 32 := by simp [hashR]
theorem hashR_agg (l : List UInt8) : Value.agg (hashR l).toArray = HV l := rfl
def HashesOf (w : World) (v : Value) (l : List (List UInt8)) : Prop := IsRows 32 w v (l.map hashR)
def OwnHs (w : World) (b : Nat) (v : Value) (l : List (List UInt8)) : Prop := OwnR 32 24 w b v (l.map hashR)
theorem HashesOf.below {w w' : World} {v : Value} {l : List (List UInt8)} (h : HashesOf w v l) (hb : Below w.heap.size w w') : HashesOf w' v l := IsRows.below h hb
theorem HashesOf.sl {w : World} {v : Value} {l : List (List UInt8)} (h : HashesOf w v l) : SliceV v := IsRows.sl h
theorem OwnHs.of {w : World} {b : Nat} {v : Value} {l : List (List UInt8)} (h : OwnHs w b v l) : HashesOf w v l := OwnR.rows h
theorem OwnHs.below {w w' : World} {b : Nat} {v : Value} {l : List (List UInt8)} (h : OwnHs w b v l) (hb : Below w.heap.size w w') : OwnHs w' b v l := OwnR.below h hb
theorem OwnHs.less {w : World} {b b' : Nat} {v : Value} {l : List (List UInt8)} (hb : b' ≤ b) (h : OwnHs w b v l) : OwnHs w b' v l := OwnR.less hb h
theorem ownHs_nil (w : World) (b : Nat) : OwnHs w b (.slice none 0 0) [] := ownR_nil _ _ _ _
theorem hashesOf_nil (w : World) : HashesOf w (.slice none 0 0) [] := isRows_nil _ _
/-- a transaction and its two slices -/
abbrev TxZ := TxP × Value × Value
def txR (z : TxZ) : List Value := [Value.int .u32 (z.1.version : Int), z.2.1, z.2.2, .int .u32 (z.1.end' : Int)]
theorem txR_len (z : TxZ) : (txR z).length = 4 := rfl
def AreTxs (w : World) (v : Value) (zs : List TxZ) : Prop := IsRows 4 w v (zs.map txR) ∧ ∀ z ∈ zs, InsOf w z.2.1 z.1.ins ∧ OutsOf w z.2.2 z.1.outs
def TxsOf (w : World) (v : Value) (l : List TxP) : Prop := ∃ zs : List TxZ, zs.map Prod.fst = l ∧ AreTxs w v zs
theorem AreTxs.below {w w' : World} {v : Value} {zs : List TxZ} (h : AreTxs w v zs) (hb : Below w.heap.size w w') : AreTxs w' v zs := ⟨h.1.below hb, fun z hz => ⟨(h.2 z hz).1.below hb, (h.2 z hz).2.below hb⟩⟩
theorem TxsOf.below {w w' : World} {v : Value} {l : List TxP} (h : TxsOf w v l) (hb : Below w.heap.size w w') : TxsOf w' v l := by obtain ⟨zs, e, h⟩ := h; exact ⟨zs, e, h.below hb⟩
theorem TxsOf.sl {w : World} {v : Value} {l : List TxP} (h : TxsOf w v l) : SliceV v := by obtain ⟨zs, e, h⟩ := h; exact h.1.sl
theorem txsOf_nil (w : World) : TxsOf w (.slice none 0 0) [] := ⟨[], rfl, isRows_nil _ _, fun z hz => by cases hz⟩
theorem fst_atT {zs : List TxZ} {l : List TxP} (h : zs.map Prod.fst = l) {k : Nat} {z : TxZ} (hz : zs[k]? = some z) : l[k]? = some z.1 := by rw [← h, List.getElem?_map, hz]; rfl
theorem fst_lenT {zs : List TxZ} {l : List TxP} (h : zs.map Prod.fst = l) : zs.length = l.length := by rw [← h, List.length_map]
/-- rows of one kind, where a row of another kind has grown -/
theorem OwnR.grownBy {n m : Nat} {E F : TypeId} {w w' : World} {b b' : Nat} {v u : Value} {L M : List (List Value)} (h : OwnR m F w b u M) (ho : OwnR n E w b' v L) (hE : E ≠ F) (hg : w.grownBy w' v.ownBlock) : OwnR m F w' b u M := ⟨ownsRow_grown h.1 ho hE hg, h.2⟩

/-! ### rows: an element's address, a part of a slice -/
theorem rows_addr {P : Program} {T E : TypeId} {n : Nat} (ht : P.underlying T = some (.slice E)) (hi : (P.info? E).map (·.size) = some n) {w : World} {v : Value} {L : List (List Value)} {k : Nat} {r : List Value} (h : IsRows n w v L) (hr : L[k]? = some r) :
    ∃ b : Addr, (∀ w' : World, (Instr.indexAt T v (.int .i64 (k : Int))).run P w' = .ok (.pointer (some b)) w') ∧ ∀ (j : Nat) (u : Value), r[j]? = some u → w.cell? (b.add j) = some u := by
  obtain ⟨⟨ao, c, rfl, hc, hn, hj⟩, hl⟩ := h
  obtain ⟨ad, rfl, h2⟩ := hj k r hr
  have hk : k < L.length := (List.getElem?_eq_some_iff.1 hr).1
  refine ⟨ad.add (k * n), fun w' => ?_, h2⟩
  cases hq : P.info? E with
  | none => simp [hq] at hi
  | some t =>
    have hs' : t.size = n := by simpa [hq] using hi
    simp [Instr.indexAt, asIntOf, run_underlying ht, sizeOf, typeInfo, hq, hs', hk]
theorem rows_cut {n : Nat} {w : World} {ao : Option Addr} {c : Nat} {L : List (List Value)} (h : IsRows n w (.slice ao L.length c) L) {l q m : Nat} (h1 : l ≤ q) (h2 : q ≤ L.length) (h3 : q ≤ m) (h4 : m ≤ c) : IsRows n w (sliced ao l q m n) ((L.take q).drop l) := by
  obtain ⟨⟨ao', c', e, hc, hn, hj⟩, hl⟩ := h
  cases e
  have hlen : ((L.take q).drop l).length = q - l := by rw [List.length_drop, List.length_take]; omega
  refine ⟨⟨if m = l then ao else ao.map (·.add (l * n)), m - l, by unfold sliced; rw [hlen], by rw [hlen]; omega, fun h => ?_, fun k x hx => ?_⟩, fun x hx => hl x (List.mem_of_mem_take (List.mem_of_mem_drop hx))⟩
  · by_cases hm : m = l
    · omega
    · rw [if_neg hm] at h
      have e : ao = none := by cases ao <;> simp_all
      have e0 := hn e
      omega
  · rw [List.getElem?_drop, List.getElem?_take] at hx
    split at hx
    · rename_i hlt
      obtain ⟨a, rfl, hcell⟩ := hj _ x hx
      rw [if_neg (by omega)]
      refine ⟨a.add (l * n), rfl, fun j u hu => ?_⟩
      have h := hcell j u hu
      rw [Nat.add_mul, ← addr_add] at h
      exact h
    · cases hx
theorem run_slicedL {P : Program} {T E : TypeId} {n : Nat} (ht : P.underlying T = some (.slice E)) (hi : (P.info? E).map (·.size) = some n) {ao : Option Addr} {len c l : Nat} (hl : l ≤ len) (w : World) : (Instr.sliceAt T (.slice ao len c) (some (.int .i64 (l : Int))) none none).run P w = .ok (sliced ao l len c n) w := by
  have he : P.elem T = E := by unfold Program.elem; rw [ht]
  have ht' : P.underlying T = some (.slice (P.elem T)) := by rw [he]; exact ht
  rw [run_sliceAt_slice _ _ _ _ _ _ ht', run_slice_l _ _ _ _ _ ht' .i64 (l : Int) (by omega) (by omega), he]
  cases hq : P.info? E with
  | none => simp [hq] at hi
  | some t =>
    have hs' : t.size = n := by simpa [hq] using hi
    simp [sizeOf, typeInfo, hq, hs']
theorem run_slicedLHM {P : Program} {T E : TypeId} {n : Nat} (ht : P.underlying T = some (.slice E)) (hi : (P.info? E).map (·.size) = some n) {ao : Option Addr} {len c l q m : Nat} (hl : l ≤ q) (hq : q ≤ m) (hm : m ≤ c) (w : World) : (Instr.sliceAt T (.slice ao len c) (some (.int .i64 (l : Int))) (some (.int .i64 (q : Int))) (some (.int .i64 (m : Int)))).run P w = .ok (sliced ao l q m n) w := by
  have he : P.elem T = E := by unfold Program.elem; rw [ht]
  have ht' : P.underlying T = some (.slice (P.elem T)) := by rw [he]; exact ht
  rw [run_sliceAt_slice _ _ _ _ _ _ ht', run_slice_lhm _ _ _ _ _ ht' .i64 .i64 .i64 (l : Int) (q : Int) (m : Int) (by omega) (by omega) (by omega) (by omega), he]
  cases hq : P.info? E with
  | none => simp [hq] at hi
  | some t =>
    have hs' : t.size = n := by simpa [hq] using hi
    simp [sizeOf, typeInfo, hq, hs']
section
variable {P : Program} {ops : Array Oper} {o : Oper} {a : Act} {S : World → Prop}
theorem yIndexAt (T : TypeId) (x y : Operand) (v : Value) (k : Nat) (b : Addr) (hr : ∀ w' : World, (Instr.indexAt T v (.int .i64 (k : Int))).run P w' = .ok (.pointer (some b)) w') (ho : o.op = .indexAddr T x y) (hg : Region.wanted o (yielded ops a.tmps) = true) (hx : a.eval x = v) (hy : a.eval y = .int .i64 (k : Int)) : YieldsIf P ops S o (.pointer (some b)) a :=
  yOf hg fun w _ => by unfold execOp; simp only [ho, hx, hy, Sem.run_bind, hr w, Result.andThen_ok, Sem.run_pure]
theorem yLoadAt {E : TypeId} {d : TypeDesc} {n : Nat} (hu : P.underlying E = some d) (hd : aggDesc d = true) (hi : (P.info? E).map (·.size) = some n) (x : Operand) (b : Addr) (r : List Value) (hl : r.length = n) (hb : ∀ w, S w → ∀ (j : Nat) (u : Value), r[j]? = some u → w.cell? (b.add j) = some u) (ho : o.op = .load E x) (hg : Region.wanted o (yielded ops a.tmps) = true) (hx : a.eval x = .pointer (some b)) : YieldsIf P ops S o (.agg r.toArray) a := by
  subst hl
  refine yOf hg fun w hS => ?_
  have hl := run_loadCells_list (P := P) w b r (hb w hS)
  have hrun : (loadVar E b).run P w = .ok (.agg r.toArray) w := by
    cases hq : P.info? E with
    | none => simp [hq] at hi
    | some t =>
      have hs' : t.size = r.length := by simpa [hq] using hi
      simp [loadVar, Sem.run_bind, run_isAgg hu, hd, sizeOf, typeInfo, hq, hs', hl]
  unfold execOp
  simp only [ho, hx, Instr.loadAt, Instr.sureAddr, Sem.run_bind, Sem.run_pure, Result.andThen_ok, hrun]
theorem yLenRows {T E : TypeId} {n : Nat} (ht : P.underlying T = some (.slice E)) (x : Operand) (v : Value) (L : List (List Value)) (m : Nat) (hv : ∀ w, S w → IsRows n w v L) (hm : L.length = m) (ho : o.op = .call { callee := .builtin .len, args := #[x], argTypes := #[T] }) (hg : Region.wanted o (yielded ops a.tmps) = true) (hx : a.eval x = v) : YieldsIf P ops S o (.int .i64 (m : Int)) a :=
  yOf hg fun w hS => by
    obtain ⟨⟨ao, c, rfl, _⟩, _⟩ := hv w hS
    subst hm
    simp [execOp, ho, resolve, invoke, builtin, hx, Builtin.len_, run_underlying ht, goInt]
theorem ySliceL {T E : TypeId} {n : Nat} (ht : P.underlying T = some (.slice E)) (hi : (P.info? E).map (·.size) = some n) (x y : Operand) (ao : Option Addr) (len c l : Nat) (hl : l ≤ len) (ho : o.op = .slice T x (some y) none none) (hg : Region.wanted o (yielded ops a.tmps) = true) (hx : a.eval x = .slice ao len c) (hy : a.eval y = .int .i64 (l : Int)) : YieldsIf P ops S o (sliced ao l len c n) a :=
  yOf hg fun w _ => by
    unfold execOp
    simp only [ho, hx, hy, Option.map_some, Option.map_none, Sem.run_bind, run_slicedL ht hi hl, Result.andThen_ok, Sem.run_pure]
theorem ySliceLHM {T E : TypeId} {n : Nat} (ht : P.underlying T = some (.slice E)) (hi : (P.info? E).map (·.size) = some n) (x y z t : Operand) (ao : Option Addr) (len c l q m : Nat) (hl : l ≤ q) (hq : q ≤ m) (hm : m ≤ c) (ho : o.op = .slice T x (some y) (some z) (some t)) (hg : Region.wanted o (yielded ops a.tmps) = true) (hx : a.eval x = .slice ao len c) (hy : a.eval y = .int .i64 (l : Int)) (hz : a.eval z = .int .i64 (q : Int)) (htt : a.eval t = .int .i64 (m : Int)) : YieldsIf P ops S o (sliced ao l q m n) a :=
  yOf hg fun w _ => by
    unfold execOp
    simp only [ho, hx, hy, hz, htt, Option.map_some, Sem.run_bind, run_slicedLHM ht hi hl hq hm, Result.andThen_ok, Sem.run_pure]
end
theorem hashInfo0 : (Tryd.prog.info? 24).map (fun i => (i.zero.map Value.cells, i.size, i.bytes)) = some (some ((List.range 32).map (fun _ => VB 0)).toArray, 32, 32) := by kernel_rfl
section
variable {ops : Array Oper} {Q : Exit → Act → World → Prop} {rest : List Oper} {o : Oper} {a : Act} {w : World}
theorem hashR_one (l : List UInt8) : ∀ u ∈ hashR l, u.oneCell' = true := by
  intro u hu
  simp only [hashR, List.mem_map] at hu
  obtain ⟨j, -, rfl⟩ := hu
  rfl
theorem kLoadHead (x : Operand) (g : Nat) (h0 : HeadP) (hr : Row w g 26 (headC h0)) (ho : o.op = .load 26 x) (hg : Region.wanted o (yielded ops a.tmps) = true) (hx : a.eval x = .pointer (some ⟨g, 0, none⟩)) (h : wpList Tryd.prog ops Q rest (a.put o.dst (.agg (headC h0))) w) : wpList Tryd.prog ops Q (o :: rest) a w :=
  kLoadRow _ _ _ g _ _ ho hg hx hr Tryd.underlying26 rfl (info_HeadS _) h
theorem kStoreHead (x y : Operand) (g : Nat) (h0 : HeadP) (cs : Array Value) (hr : Row w g 26 cs) (hc : cs.size = 68) (ho : o.op = .store 26 x y) (hg : Region.wanted o (yielded ops a.tmps) = true) (hx : a.eval x = .pointer (some ⟨g, 0, none⟩)) (hy : a.eval y = .agg (headC h0)) (h : ∀ w1, Row w1 g 26 (headC h0) → Wrote g w w1 → wpList Tryd.prog ops Q rest (a.put o.dst undef) w1) : wpList Tryd.prog ops Q (o :: rest) a w :=
  kStoreRow _ _ _ _ g _ _ ho hg hx hy hr (info_HeadS _) (by rw [hc, headC_size]) (headC_one h0) h
theorem kStoreHash (x y : Operand) (g : Nat) (l : List UInt8) (cs : Array Value) (hr : Row w g 24 cs) (hc : cs.size = 32) (ho : o.op = .store 24 x y) (hg : Region.wanted o (yielded ops a.tmps) = true) (hx : a.eval x = .pointer (some ⟨g, 0, none⟩)) (hy : a.eval y = HV l) (h : ∀ w1, Row w1 g 24 (tab 32 fun p => VB (at8 l p)) → Wrote g w w1 → wpList Tryd.prog ops Q rest (a.put o.dst undef) w1) : wpList Tryd.prog ops Q (o :: rest) a w :=
  kStoreRow _ _ _ _ g _ _ ho hg hx hy hr info_HashT (by rw [tab_size, hc]) (tab_one _ _ fun _ _ => rfl) h
theorem kLoadHash (x : Operand) (g : Nat) (l : List UInt8) (hr : Row w g 24 (tab 32 fun p => VB (at8 l p))) (ho : o.op = .load 24 x) (hg : Region.wanted o (yielded ops a.tmps) = true) (hx : a.eval x = .pointer (some ⟨g, 0, none⟩)) (h : wpList Tryd.prog ops Q rest (a.put o.dst (HV l)) w) : wpList Tryd.prog ops Q (o :: rest) a w :=
  kLoadRow _ _ _ g _ _ ho hg hx hr Tryd.underlying24 rfl info_HashT h
/-- a function's variable is laid and written at once: a row of its own -/
theorem hash_result {w : World} {g : Nat} {l : List UInt8} (h : Row w g 24 (tab 32 fun p => VB (at8 l p))) : Row w g 24 (hashR l).toArray := h
end
end Go.Proofs.YtdeggdmoijfhdaaDoor

/-
  Layer 11: laws of single operations that were missing: lists of byte slices, lengths, comparisons, heads held against each other, append of noughts.
-/
namespace Go.Proofs.YtdeggdmoijfhdaaDoor
open Go Go.RowKit

section
variable {ops : Array Oper} {Q : Exit → Act → World → Prop} {rest : List Oper} {o : Oper} {a : Act} {w : World} {S : World → Prop} {P : Program}
theorem areLists_1 {w : World} {g : Nat} {E : TypeId} {v0 : Value} {l0 : List UInt8} (h : Row w g E #[v0]) (h0 : IsVals w v0 (l0.map VB)) : AreLists w (.slice (some ⟨g, 0, none⟩) 1 1) [l0] :=
  ⟨[v0], rfl, isVals_lit (l := [v0]) h, fun i u L p1 p2 => by
    match i, p1, p2 with
    | 0, p1, p2 => simp at p1 p2; subst p1; subst p2; exact h0
    | i + 1, p1, p2 => simp at p1⟩
theorem kBuildLists1 {v0 : Value} {l0 : List UInt8} (x0 : Operand) (ho : o.op = .buildSlice 71 1 #[(0, x0)]) (hg : Region.wanted o (yielded ops a.tmps) = true) (e0 : a.eval x0 = v0) (h0 : IsVals w v0 (l0.map VB))
    (h : ∀ w1, AreLists w1 (.slice (some ⟨w.heap.size, 0, none⟩) 1 1) [l0] → Below w.heap.size w w1 → wpList Tryd.prog ops Q rest (a.put o.dst (.slice (some ⟨w.heap.size, 0, none⟩) 1 1)) w1) : wpList Tryd.prog ops Q (o :: rest) a w := by
  obtain ⟨i, hi, hz, hsize⟩ := bysInfoC
  refine BigFrame.wpList_want hg fun K hK => ?_
  unfold Oper.wp execOp
  have hrun : (Instr.buildSlice 71 1 #[(0, v0)]).run Tryd.prog w = .ok (.slice (some ⟨w.heap.size, 0, none⟩) 1 1) (w.alloc (.cells #[v0] 57)) := by
    simp [Instr.buildSlice, run_underlying Tryd.underlying71, sizeOf, typeInfo, hi, hsize, zeroValue, hz, Instr.fill, cells_one h0.sl.one, newRow, newObj, Sem.run]
    rw [map_range]; rfl
  simp only [ho, List.map_toArray, List.map_cons, List.map_nil, e0, Sem.run_bind, hrun, Result.andThen_ok, Sem.run_pure]
  have hB : Below w.heap.size w (w.alloc (.cells #[v0] 57)) := (Below.refl _ _).alloc (Nat.le_refl _) _
  exact hK _ _ (h _ (areLists_1 (heap_alloc_new w _) (h0.below hB)) hB)
theorem areLists_2 {w : World} {g : Nat} {E : TypeId} {v0 v1 : Value} {l0 l1 : List UInt8} (h : Row w g E #[v0, v1]) (h0 : IsVals w v0 (l0.map VB)) (h1 : IsVals w v1 (l1.map VB)) : AreLists w (.slice (some ⟨g, 0, none⟩) 2 2) [l0, l1] :=
  ⟨[v0, v1], rfl, isVals_lit (l := [v0, v1]) h, fun i u L p1 p2 => by
    match i, p1, p2 with
    | 0, p1, p2 => simp at p1 p2; subst p1; subst p2; exact h0
    | 1, p1, p2 => simp at p1 p2; subst p1; subst p2; exact h1
    | i + 2, p1, p2 => simp at p1⟩
theorem kBuildLists2 {v0 v1 : Value} {l0 l1 : List UInt8} (x0 x1 : Operand) (ho : o.op = .buildSlice 71 2 #[(0, x0), (1, x1)]) (hg : Region.wanted o (yielded ops a.tmps) = true) (e0 : a.eval x0 = v0) (e1 : a.eval x1 = v1) (h0 : IsVals w v0 (l0.map VB)) (h1 : IsVals w v1 (l1.map VB))
    (h : ∀ w1, AreLists w1 (.slice (some ⟨w.heap.size, 0, none⟩) 2 2) [l0, l1] → Below w.heap.size w w1 → wpList Tryd.prog ops Q rest (a.put o.dst (.slice (some ⟨w.heap.size, 0, none⟩) 2 2)) w1) : wpList Tryd.prog ops Q (o :: rest) a w := by
  obtain ⟨i, hi, hz, hsize⟩ := bysInfoC
  refine BigFrame.wpList_want hg fun K hK => ?_
  unfold Oper.wp execOp
  have hrun : (Instr.buildSlice 71 2 #[(0, v0), (1, v1)]).run Tryd.prog w = .ok (.slice (some ⟨w.heap.size, 0, none⟩) 2 2) (w.alloc (.cells #[v0, v1] 57)) := by
    simp [Instr.buildSlice, run_underlying Tryd.underlying71, sizeOf, typeInfo, hi, hsize, zeroValue, hz, Instr.fill, cells_one h0.sl.one, cells_one h1.sl.one, newRow, newObj, Sem.run]
    rw [map_range]; rfl
  simp only [ho, List.map_toArray, List.map_cons, List.map_nil, e0, e1, Sem.run_bind, hrun, Result.andThen_ok, Sem.run_pure]
  have hB : Below w.heap.size w (w.alloc (.cells #[v0, v1] 57)) := (Below.refl _ _).alloc (Nat.le_refl _) _
  exact hK _ _ (h _ (areLists_2 (heap_alloc_new w _) (h0.below hB) (h1.below hB)) hB)
theorem areLists_6 {w : World} {g : Nat} {E : TypeId} {v0 v1 v2 v3 v4 v5 : Value} {l0 l1 l2 l3 l4 l5 : List UInt8} (h : Row w g E #[v0, v1, v2, v3, v4, v5]) (h0 : IsVals w v0 (l0.map VB)) (h1 : IsVals w v1 (l1.map VB)) (h2 : IsVals w v2 (l2.map VB)) (h3 : IsVals w v3 (l3.map VB)) (h4 : IsVals w v4 (l4.map VB)) (h5 : IsVals w v5 (l5.map VB)) : AreLists w (.slice (some ⟨g, 0, none⟩) 6 6) [l0, l1, l2, l3, l4, l5] :=
  ⟨[v0, v1, v2, v3, v4, v5], rfl, isVals_lit (l := [v0, v1, v2, v3, v4, v5]) h, fun i u L p1 p2 => by
    match i, p1, p2 with
    | 0, p1, p2 => simp at p1 p2; subst p1; subst p2; exact h0
    | 1, p1, p2 => simp at p1 p2; subst p1; subst p2; exact h1
    | 2, p1, p2 => simp at p1 p2; subst p1; subst p2; exact h2
    | 3, p1, p2 => simp at p1 p2; subst p1; subst p2; exact h3
    | 4, p1, p2 => simp at p1 p2; subst p1; subst p2; exact h4
    | 5, p1, p2 => simp at p1 p2; subst p1; subst p2; exact h5
    | i + 6, p1, p2 => simp at p1⟩
theorem kBuildLists6 {v0 v1 v2 v3 v4 v5 : Value} {l0 l1 l2 l3 l4 l5 : List UInt8} (x0 x1 x2 x3 x4 x5 : Operand) (ho : o.op = .buildSlice 71 6 #[(0, x0), (1, x1), (2, x2), (3, x3), (4, x4), (5, x5)]) (hg : Region.wanted o (yielded ops a.tmps) = true) (e0 : a.eval x0 = v0) (e1 : a.eval x1 = v1) (e2 : a.eval x2 = v2) (e3 : a.eval x3 = v3) (e4 : a.eval x4 = v4) (e5 : a.eval x5 = v5) (h0 : IsVals w v0 (l0.map VB)) (h1 : IsVals w v1 (l1.map VB)) (h2 : IsVals w v2 (l2.map VB)) (h3 : IsVals w v3 (l3.map VB)) (h4 : IsVals w v4 (l4.map VB)) (h5 : IsVals w v5 (l5.map VB))
    (h : ∀ w1, AreLists w1 (.slice (some ⟨w.heap.size, 0, none⟩) 6 6) [l0, l1, l2, l3, l4, l5] → Below w.heap.size w w1 → wpList Tryd.prog ops Q rest (a.put o.dst (.slice (some ⟨w.heap.size, 0, none⟩) 6 6)) w1) : wpList Tryd.prog ops Q (o :: rest) a w := by
  obtain ⟨i, hi, hz, hsize⟩ := bysInfoC
  refine BigFrame.wpList_want hg fun K hK => ?_
  unfold Oper.wp execOp
  have hrun : (Instr.buildSlice 71 6 #[(0, v0), (1, v1), (2, v2), (3, v3), (4, v4), (5, v5)]).run Tryd.prog w = .ok (.slice (some ⟨w.heap.size, 0, none⟩) 6 6) (w.alloc (.cells #[v0, v1, v2, v3, v4, v5] 57)) := by
    simp [Instr.buildSlice, run_underlying Tryd.underlying71, sizeOf, typeInfo, hi, hsize, zeroValue, hz, Instr.fill, cells_one h0.sl.one, cells_one h1.sl.one, cells_one h2.sl.one, cells_one h3.sl.one, cells_one h4.sl.one, cells_one h5.sl.one, newRow, newObj, Sem.run]
    rw [map_range]; rfl
  simp only [ho, List.map_toArray, List.map_cons, List.map_nil, e0, e1, e2, e3, e4, e5, Sem.run_bind, hrun, Result.andThen_ok, Sem.run_pure]
  have hB : Below w.heap.size w (w.alloc (.cells #[v0, v1, v2, v3, v4, v5] 57)) := (Below.refl _ _).alloc (Nat.le_refl _) _
  exact hK _ _ (h _ (areLists_6 (heap_alloc_new w _) (h0.below hB) (h1.below hB) (h2.below hB) (h3.below hB) (h4.below hB) (h5.below hB)) hB)
theorem yLssI (T T2 : TypeId) (x y : Operand) (k : IntKind) (m n : Int) (b : Bool) (ho : o.op = .binOp .lss T x y T2) (hg : Region.wanted o (yielded ops a.tmps) = true) (hx : a.eval x = .int k m) (hy : a.eval y = .int k n) (hb : decide (m < n) = b) : YieldsIf P ops S o (.bool b) a := by
  subst hb
  refine yOf hg fun w _ => ?_
  unfold execOp
  simp only [ho, hx, hy]
  simp [eqGuard, binOp, Op.intCmp]
theorem yGtrI (T T2 : TypeId) (x y : Operand) (k : IntKind) (m n : Int) (b : Bool) (ho : o.op = .binOp .gtr T x y T2) (hg : Region.wanted o (yielded ops a.tmps) = true) (hx : a.eval x = .int k m) (hy : a.eval y = .int k n) (hb : decide (m > n) = b) : YieldsIf P ops S o (.bool b) a := by
  subst hb
  refine yOf hg fun w _ => ?_
  unfold execOp
  simp only [ho, hx, hy]
  simp [eqGuard, binOp, Op.intCmp]
theorem yGeqIB (T T2 : TypeId) (x y : Operand) (k : IntKind) (m n : Int) (b : Bool) (ho : o.op = .binOp .geq T x y T2) (hg : Region.wanted o (yielded ops a.tmps) = true) (hx : a.eval x = .int k m) (hy : a.eval y = .int k n) (hb : decide (m ≥ n) = b) : YieldsIf P ops S o (.bool b) a := by
  subst hb
  refine yOf hg fun w _ => ?_
  unfold execOp
  simp only [ho, hx, hy]
  simp [eqGuard, binOp, Op.intCmp]
theorem yConvWU (x : Operand) (k : Nat) (hk : k < 4294967296) (ho : o.op = .convert 22 29 x) (hg : Region.wanted o (yielded ops a.tmps) = true) (hx : a.eval x = .int .u32 (k : Int)) : YieldsIf Tryd.prog ops S o (.int .u64 (k : Int)) a := by
  refine yOf hg fun w _ => ?_
  unfold execOp
  have e : IntKind.u64.wrap (k : Int) = (k : Int) := by rw [IntKind.wrap_u64]; omega
  simp [ho, hx, convert, run_underlying Tryd.underlying29, run_underlying Tryd.underlying22, e, Conv.intToInt]
theorem yConvUW (x : Operand) (n : Nat) (hn : n < 4294967296) (ho : o.op = .convert 29 22 x) (hg : Region.wanted o (yielded ops a.tmps) = true) (hx : a.eval x = .int .u64 (n : Int)) : YieldsIf Tryd.prog ops S o (.int .u32 (n : Int)) a := by
  refine yOf hg fun w _ => ?_
  unfold execOp
  have e : IntKind.u32.wrap (n : Int) = (n : Int) := by rw [IntKind.wrap_u32]; omega
  simp [ho, hx, convert, run_underlying Tryd.underlying29, run_underlying Tryd.underlying22, e, Conv.intToInt]
theorem yConvIU (x : Operand) (n : Nat) (hn : n < 18446744073709551616) (ho : o.op = .convert 3 29 x) (hg : Region.wanted o (yielded ops a.tmps) = true) (hx : a.eval x = .int .i64 (n : Int)) : YieldsIf Tryd.prog ops S o (.int .u64 (n : Int)) a := by
  refine yOf hg fun w _ => ?_
  unfold execOp
  have e : IntKind.u64.wrap (n : Int) = (n : Int) := by rw [IntKind.wrap_u64]; omega
  simp [ho, hx, convert, run_underlying Tryd.underlying29, run_underlying Tryd.underlying3, e, Conv.intToInt]
/-! heads held against each other -/
theorem eqGuard_Head : Tryd.prog.eqGuardType Tryd.prog.depth 26 = false := by kernel_rfl
theorem stood_Head : Tryd.prog.stoodInHeld 26 = false := by kernel_rfl
theorem fields_Head : Tryd.prog.underlying 26 = some (.struct (Tryd.prog.fieldsOf 26)) := by kernel_rfl
theorem listed_Head : (Tryd.prog.fieldsOf 26).toList.map (fun f => (f.type, f.offset, decide (f.name = "_"))) = [(22, 0, false), (24, 1, false), (24, 33, false), (22, 65, false), (22, 66, false), (22, 67, false)] := by kernel_rfl
theorem headP_ext {h g : HeadP} : (decide (h.version = g.version) && (decide (h.prev = g.prev) && (decide (h.root = g.root) && (decide (h.time = g.time) && (decide (h.bits = g.bits) && decide (h.nonce = g.nonce)))))) = true ↔ h = g := by
  obtain ⟨a, b, c, d, e, f⟩ := h; obtain ⟨a', b', c', d', e', f'⟩ := g
  simp
noncomputable instance : DecidableEq HeadP := fun _ _ => decidable_of_iff _ headP_ext
theorem run_equalHead {h g : HeadP} (hh : h.Is) (hg : g.Is) (w : World) : (Op.equalIn 10000 26 (.agg (headC h)) (.agg (headC g))).run Tryd.prog w = .ok (decide (h = g)) w := by
  have k := run_eqStruct (P := Tryd.prog) (w := w) (xs := headC h) (ys := headC g) _ [decide ((h.version : Int) = g.version), decide (h.prev = g.prev), decide (h.root = g.root), decide ((h.time : Int) = g.time), decide ((h.bits : Int) = g.bits), decide ((h.nonce : Int) = g.nonce)] fields_Head stood_Head listed_Head
    ⟨rfl, ⟨_, _, part1 Tryd.underlying22 rfl _ _ _ (headC_0 h) w, part1 Tryd.underlying22 rfl _ _ _ (headC_0 g) w, run_equalZ Tryd.underlying22 9998 _ _ w⟩,
     rfl, ⟨_, _, partA Tryd.underlying24 rfl info_HashCo _ _ _ (headC_prev h) w, partA Tryd.underlying24 rfl info_HashCo _ _ _ (headC_prev g) w, run_equalBytes Tryd.underlying24 Tryd.underlying5 info_b8P 9997 hh.2.1 hg.2.1⟩,
     rfl, ⟨_, _, partA Tryd.underlying24 rfl info_HashCo _ _ _ (headC_root h) w, partA Tryd.underlying24 rfl info_HashCo _ _ _ (headC_root g) w, run_equalBytes Tryd.underlying24 Tryd.underlying5 info_b8P 9997 hh.2.2.1 hg.2.2.1⟩,
     rfl, ⟨_, _, part1 Tryd.underlying22 rfl _ _ _ (headC_65 h) w, part1 Tryd.underlying22 rfl _ _ _ (headC_65 g) w, run_equalZ Tryd.underlying22 9998 _ _ w⟩,
     rfl, ⟨_, _, part1 Tryd.underlying22 rfl _ _ _ (headC_66 h) w, part1 Tryd.underlying22 rfl _ _ _ (headC_66 g) w, run_equalZ Tryd.underlying22 9998 _ _ w⟩,
     rfl, ⟨_, _, part1 Tryd.underlying22 rfl _ _ _ (headC_67 h) w, part1 Tryd.underlying22 rfl _ _ _ (headC_67 g) w, run_equalZ Tryd.underlying22 9998 _ _ w⟩, trivial⟩
  have e : [decide ((h.version : Int) = g.version), decide (h.prev = g.prev), decide (h.root = g.root), decide ((h.time : Int) = g.time), decide ((h.bits : Int) = g.bits), decide ((h.nonce : Int) = g.nonce)].all id = decide (h = g) := by
    have c : ∀ a b : Nat, ((a : Int) = (b : Int)) = (a = b) := fun a b => propext ⟨fun h => by omega, fun h => by omega⟩
    rw [Bool.eq_iff_iff, decide_eq_true_iff, ← headP_ext]
    simp only [c]
    simp
  rw [e] at k
  exact k
theorem yEqlHead (T2 : TypeId) (x y : Operand) {h g : HeadP} (hh : h.Is) (hg' : g.Is) (b : Bool) (ho : o.op = .binOp .eql 26 x y T2) (hg : Region.wanted o (yielded ops a.tmps) = true) (hx : a.eval x = .agg (headC h)) (hy : a.eval y = .agg (headC g)) (hb : decide (h = g) = b) : YieldsIf Tryd.prog ops S o (.bool b) a := by
  subst hb; exact yEqlSt T2 x y _ eqGuard_Head (fun w => run_equalHead hh hg' w) ho hg hx hy
/-! heads and blocks that are built -/
theorem yBuildHead6 (x0 x1 x2 x3 x4 x5 : Operand) (v t b n : Nat) (p r : List UInt8) (ho : o.op = .build 26 #[(0, x0), (1, x1), (2, x2), (3, x3), (4, x4), (5, x5)]) (hg : Region.wanted o (yielded ops a.tmps) = true) (h0 : a.eval x0 = .int .u32 (v : Int)) (h1 : a.eval x1 = HV p) (h2 : a.eval x2 = HV r) (h3 : a.eval x3 = .int .u32 (t : Int)) (h4 : a.eval x4 = .int .u32 (b : Int)) (h5 : a.eval x5 = .int .u32 (n : Int)) : YieldsIf Tryd.prog ops S o (.agg (headC ⟨v, p, r, t, b, n⟩)) a :=
  yBuildAny _ _ #[(0, .int .u32 (v : Int)), (1, HV p), (2, HV r), (3, .int .u32 (t : Int)), (4, .int .u32 (b : Int)), (5, .int .u32 (n : Int))] _ ho hg (by simp [h0, h1, h2, h3, h4, h5]) (built_Head6 _ _ _ _ _ _)
theorem yBuildHead4 (x0 x3 x4 x5 : Operand) (v t b n : Nat) (ho : o.op = .build 26 #[(0, x0), (3, x3), (4, x4), (5, x5)]) (hg : Region.wanted o (yielded ops a.tmps) = true) (h0 : a.eval x0 = .int .u32 (v : Int)) (h3 : a.eval x3 = .int .u32 (t : Int)) (h4 : a.eval x4 = .int .u32 (b : Int)) (h5 : a.eval x5 = .int .u32 (n : Int)) : YieldsIf Tryd.prog ops S o (.agg (headC ⟨v, z32, z32, t, b, n⟩)) a :=
  yBuildAny _ _ #[(0, .int .u32 (v : Int)), (3, .int .u32 (t : Int)), (4, .int .u32 (b : Int)), (5, .int .u32 (n : Int))] _ ho hg (by simp [h0, h3, h4, h5]) (built_Head4 _ _ _ _)
theorem yBuildHead2 (x2 x3 : Operand) (r : List UInt8) (t : Nat) (ho : o.op = .build 26 #[(2, x2), (3, x3)]) (hg : Region.wanted o (yielded ops a.tmps) = true) (h2 : a.eval x2 = HV r) (h3 : a.eval x3 = .int .u32 (t : Int)) : YieldsIf Tryd.prog ops S o (.agg (headC ⟨0, z32, r, t, 0, 0⟩)) a :=
  yBuildAny _ _ #[(2, HV r), (3, .int .u32 (t : Int))] _ ho hg (by simp [h2, h3]) (built_Head2 _ _)
theorem yBuildHead0 (ho : o.op = .build 26 #[]) (hg : Region.wanted o (yielded ops a.tmps) = true) : YieldsIf Tryd.prog ops S o (.agg (headC noHead)) a := yBuildAny _ #[] #[] _ ho hg (by simp) built_Head0
/-! append of noughts to nothing -/
theorem run_append_make {k : IntKind} (t u ty e : TypeId) (i : TypeInfo) (z : Value) (ht : P.underlying t = some (.slice e)) (hu : P.underlying u = some (.int k)) (hi : P.info? e = some i) (hz : i.zero = some z) (n : Nat) (h0 : 0 < n) (hn : n ≤ 1000000000) (hby : i.bytes = 1) (hs : i.size = 1) (w : World) :
    (Builtin.append_ #[t, u] ty #[.slice none 0 0, .int .i64 (n : Int)]).run P w =
      .ok (.slice (some ⟨w.heap.size, 0, none⟩) n (grownCap w n 0 e)) (w.drew.alloc (.cells (Builtin.zeroCells z.cells n ++ Builtin.zeroCells z.cells (grownCap w n 0 e - n)) e)) := by
  have hn0 : n ≠ 0 := by omega
  have hwr : IntKind.i64.wrap (n : Int) = (n : Int) := by rw [IntKind.wrap_i64]; omega
  have e1 : ¬ ((n : Int) < 0) := by omega
  have e2 : ¬ (281474976710656 < (n : Int)) := by omega
  have e3 : ¬ (9223372036854775807 < (n : Int)) := by omega
  have e4 : ¬ (281474976710656 < Builtin.nextslicecap n 0) := by rw [nextslicecap_zero h0]; omega
  simp [Builtin.append_, run_underlying ht, run_underlying hu, sizeOf, typeInfo, zeroValue, hi, hz, hby, hs, Builtin.firstCells, hn0, hwr, e1, e2, e3, e4, Question.forced, newRow, grownCap, asInt, asIntOf]
end
end Go.Proofs.YtdeggdmoijfhdaaDoor

/-
  Layer 11: slices.Grow and Concat of bytes; heads as bytes, and their names.
-/
namespace Go.Proofs.YtdeggdmoijfhdaaDoor
open Go Go.RowKit

section
variable {ops : Array Oper} {Q : Exit → Act → World → Prop} {rest : List Oper} {o : Oper} {a : Act} {w : World}
theorem kAppMake (s x : Operand) (n : Nat) (h0 : 0 < n) (hn : n ≤ 1000000000) (ho : o.op = .call { callee := .builtin .append, args := #[s, x], argTypes := #[57, 3] }) (hg : Region.wanted o (yielded ops a.tmps) = true) (hs : a.eval s = .slice none 0 0) (hx : a.eval x = .int .i64 (n : Int))
    (h : ∀ (c : Nat) (cur : Array Value) (w1 : World), Row w1 w.heap.size 5 cur → cur.size = c → c ≤ maxLen → Below w.heap.size w w1 → wpList Tryd.prog ops Q rest (a.put o.dst (.slice (some ⟨w.heap.size, 0, none⟩) n c)) w1) : wpList Tryd.prog ops Q (o :: rest) a w := by
  obtain ⟨i, hi, hz, hsz, hby⟩ := b8Info
  have hr := run_append_make (P := Tryd.prog) 57 3 o.type 5 i _ Tryd.underlying57 Tryd.underlying3 hi hz n h0 hn hby hsz w
  refine BigFrame.wpList_want hg fun K hK => ?_
  have hge := grownCap_ge w n 0 5
  have hle : grownCap w n 0 5 ≤ maxLen := grownCap_le_maxLen w n 0 _ (by simp [maxLen]; omega)
  unfold Oper.wp execOp
  simp only [ho, resolve, invoke, builtin, List.map_toArray, List.map_cons, List.map_nil, hs, hx, Sem.run_bind, Sem.run_pure, Result.andThen_ok, hr]
  refine hK _ _ (h _ _ _ (heap_alloc_new w.drew _) ?_ hle ?_)
  · simp only [Array.size_append, size_zeroCells]
    simp [Value.cells]; omega
  · exact ⟨rfl, rfl, rfl, by simp, fun k hk => heap_alloc_old w.drew _ hk⟩
theorem kSliceTo0 (x y : Operand) (ad : Addr) (n c : Nat) (ho : o.op = .slice 57 x none (some y) none) (hg : Region.wanted o (yielded ops a.tmps) = true) (hx : a.eval x = .slice (some ad) n c) (hy : a.eval y = .int .i64 0) (h : wpList Tryd.prog ops Q rest (a.put o.dst (.slice (some ad) 0 c)) w) : wpList Tryd.prog ops Q (o :: rest) a w := by
  refine kPure _ hg ?_ h
  have he : Tryd.prog.elem 57 = 5 := by unfold Program.elem; rw [Tryd.underlying57]
  have ht : Tryd.prog.underlying 57 = some (.slice (Tryd.prog.elem 57)) := by rw [he]; exact Tryd.underlying57
  have hrun : (Instr.sliceAt 57 (.slice (some ad) n c) none (some (.int .i64 0)) none).run Tryd.prog w = .ok (.slice (some ad) 0 c) w := by
    rw [run_sliceAt_slice _ _ _ _ _ _ ht, run_slice_h _ _ _ _ _ ht .i64 0 (by omega) (by omega), he]
    have hi := info_b8P
    cases hq : Tryd.prog.info? 5 with
    | none => simp [hq] at hi
    | some t => simp [sizeOf, typeInfo, hq, sliced, Addr.add_zero']
  unfold execOp
  simp only [ho, hx, hy, Option.map_some, Option.map_none, Sem.run_bind, hrun, Result.andThen_ok, Sem.run_pure]
theorem own_room {w : World} {g c base : Nat} {cur : Array Value} (hb : base ≤ g) (hc : c ≤ maxLen) (hs : cur.size = c) (h : Row w g 5 cur) : OwnB w base (.slice (some ⟨g, 0, none⟩) 0 c) [] :=
  ⟨by simp, .inr ⟨g, c, cur, rfl, hb, h, Nat.zero_le _, hc, by rw [hs, Nat.mul_one], by simp⟩⟩
end
set_option maxRecDepth 100000 in
set_option maxHeartbeats 8000000 in
theorem bGrow_any {n : Nat} (hn : n ≤ 1000000) (w : World) : Calls Tryd.prog 52 #[.slice none 0 0, .int .i64 (n : Int)] w (POwnPost w []) := by
  have d6 : decide ((n : Int) < 0) = false := by simp
  by_cases h0 : 0 < n
  · have d16 : decide ((n : Int) > 0) = true := by simp; omega
    go_enter Tryd.func52, Tryd.ntmps52
    go_wp2_with (first
      | ((with_reducible change wpList _ _ _ (Oper.mk (some 6) _ _ _ _ _ :: _) _ _); refine kLssI _ _ _ _ .i64 (n : Int) 0 false rfl rfl rfl rfl d6 ?_; go_frame)
      | ((with_reducible change wpList _ _ _ (Oper.mk (some 13) _ _ _ _ _ :: _) _ _); refine kSubC _ _ _ _ 0 0 0 (by omega) rfl rfl rfl rfl ?_; go_frame)
      | ((with_reducible change wpList _ _ _ (Oper.mk (some 14) _ _ _ _ _ :: _) _ _); refine kSubC _ _ _ _ (n : Int) 0 (n : Int) (by omega) rfl rfl rfl rfl ?_; go_frame)
      | ((with_reducible change wpList _ _ _ (Oper.mk (some 16) _ _ _ _ _ :: _) _ _); refine kGtrI _ _ _ _ .i64 (n : Int) 0 true rfl rfl rfl rfl d16 ?_; go_frame)
      | ((with_reducible change wpList _ _ _ (Oper.mk (some 22) _ _ _ _ _ :: _) _ _); refine kAppMake _ _ n h0 (by omega) rfl rfl rfl rfl ?_; intro c cur w1 hR hs hc hB; go_frame)
      | ((with_reducible change wpList _ _ _ (Oper.mk (some 25) _ _ _ _ _ :: _) _ _); refine kSliceTo0 _ _ ⟨w.heap.size, 0, none⟩ n c rfl rfl rfl rfl ?_; go_frame))
    go_ret
    exact ⟨_, rfl, own_room (Nat.le_refl _) hc hs hR, hB⟩
  · have d16 : decide ((n : Int) > 0) = false := by simp; omega
    go_enter Tryd.func52, Tryd.ntmps52
    go_wp2_with (first
      | ((with_reducible change wpList _ _ _ (Oper.mk (some 6) _ _ _ _ _ :: _) _ _); refine kLssI _ _ _ _ .i64 (n : Int) 0 false rfl rfl rfl rfl d6 ?_; go_frame)
      | ((with_reducible change wpList _ _ _ (Oper.mk (some 13) _ _ _ _ _ :: _) _ _); refine kSubC _ _ _ _ 0 0 0 (by omega) rfl rfl rfl rfl ?_; go_frame)
      | ((with_reducible change wpList _ _ _ (Oper.mk (some 14) _ _ _ _ _ :: _) _ _); refine kSubC _ _ _ _ (n : Int) 0 (n : Int) (by omega) rfl rfl rfl rfl ?_; go_frame)
      | ((with_reducible change wpList _ _ _ (Oper.mk (some 16) _ _ _ _ _ :: _) _ _); refine kGtrI _ _ _ _ .i64 (n : Int) 0 false rfl rfl rfl rfl d16 ?_; go_frame))
    go_ret
    exact ⟨_, rfl, ownB_nil _ _, Below.refl _ _⟩
theorem flat_take {Ls : List (List UInt8)} {k : Nat} (hk : k < Ls.length) : (Ls.take (k + 1)).flatten = (Ls.take k).flatten ++ Ls[k] := by rw [List.take_succ_eq_append_getElem hk, List.flatten_append]; simp
theorem flat_le {Ls : List (List UInt8)} (k : Nat) : (Ls.take k).flatten.length ≤ Ls.flatten.length := by
  have e : Ls.flatten = (Ls.take k).flatten ++ (Ls.drop k).flatten := by rw [← List.flatten_append, List.take_append_drop]
  rw [e, List.length_append]; omega
set_option maxRecDepth 100000 in
set_option maxHeartbeats 8000000 in
theorem bConcat_any {u : Value} {Ls : List (List UInt8)} (w : World) (hu : AreLists w u Ls) (hn : Ls.flatten.length ≤ 1000000) (hn2 : Ls.length ≤ 1000000) : Calls Tryd.prog 43 #[u] w (POwnPost w Ls.flatten) := by
  obtain ⟨N, hN⟩ : ∃ N, Ls.length = N := ⟨_, rfl⟩
  obtain ⟨F, hF⟩ : ∃ F, Ls.flatten.length = F := ⟨_, rfl⟩
  have hL0 := hu.len
  obtain ⟨vs0, hvs0, hV0⟩ := hL0
  go_enter Tryd.func43, Tryd.ntmps43
  go_wp2_with (first
    | ((with_reducible change wpList _ _ _ (Oper.mk (some 10) _ _ _ _ _ :: _) _ _); refine kLenN _ _ _ u _ N rfl rfl rfl hV0 (hvs0.trans hN) Tryd.underlying71 ?_; go_frame))
  go_loopw [11, 3] (fun i t wr => ∃ k : Nat, k ≤ N ∧ i = .int .i64 k ∧ t = .int .i64 (((Ls.take k).flatten.length : Nat) : Int) ∧ Below w.heap.size w wr) (fun i _ _ => N - (intOf i).toNat)
  case atStart => exact ⟨0, by omega, rfl, rfl, Below.refl _ _⟩
  case round =>
    obtain ⟨k, hk, rfl, rfl, hB⟩ := hrel
    by_cases hlt : k < N
    · have hd : decide ((k : Int) < (N : Int)) = true := by simp; omega
      have hkl : k < Ls.length := by omega
      obtain ⟨vs, x, hvs, hV0, hxk, hX0⟩ := hu.at hkl
      have hV := hV0.below hB
      have hX := hX0.below hB
      have hsz := hB.size
      have hTk := flat_take hkl
      have hTl := flat_le (Ls := Ls) (k + 1)
      obtain ⟨X, hXe⟩ : ∃ X, Ls[k] = X := ⟨_, rfl⟩
      rw [hXe] at hX hX0 hTk
      obtain ⟨m, hme⟩ : ∃ m, X.length = m := ⟨_, rfl⟩
      rw [hTk, List.length_append, hme] at hTl
      clear hV0
      obtain ⟨t, ht⟩ : ∃ t, (Ls.take k).flatten.length = t := ⟨_, rfl⟩
      rw [ht] at hTl ⊢
      have hd20 : decide (((t + m : Nat) : Int) < 0) = false := by simp; omega
      go_wp2_with (first
        | ((with_reducible change wpList _ _ _ (Oper.mk (some 12) _ _ _ _ _ :: _) _ _); refine kLssI _ _ _ _ .i64 (k : Int) (N : Int) true rfl rfl rfl rfl hd ?_; go_frame)
        | ((with_reducible change wpList _ _ _ (Oper.mk (some 13) _ _ _ _ _ :: _) _ _); refine kIndexAddrV _ _ _ _ .i64 u vs (k : Int) k x rfl rfl rfl hV rfl Tryd.underlying71 info_bytesP rfl hxk ?_; intro b hb; go_frame)
        | ((with_reducible change wpList _ _ _ (Oper.mk (some 14) _ _ _ _ _ :: _) _ _); refine kLoadCell _ _ b x _ rfl rfl rfl hb Tryd.underlying57 rfl ?_; clear hb hV; go_frame)
        | ((with_reducible change wpList _ _ _ (Oper.mk (some 17) _ _ _ _ _ :: _) _ _); refine kLenN _ _ _ x _ m rfl rfl rfl hX (by rw [List.length_map, hme]) Tryd.underlying57 ?_; go_frame)
        | ((with_reducible change wpList _ _ _ (Oper.mk (some 18) _ _ _ _ _ :: _) _ _); refine kAddI _ _ _ _ (t : Int) (m : Int) ((t + m : Nat) : Int) (by omega) rfl rfl rfl rfl ?_; go_frame)
        | ((with_reducible change wpList _ _ _ (Oper.mk (some 20) _ _ _ _ _ :: _) _ _); refine kLssI _ _ _ _ .i64 ((t + m : Nat) : Int) 0 false rfl rfl rfl rfl hd20 ?_; go_frame)
        | ((with_reducible change wpList _ _ _ (Oper.mk (some 22) _ _ _ _ _ :: _) _ _); refine kAddI _ _ _ _ (k : Int) 1 ((k + 1 : Nat) : Int) (by omega) rfl rfl rfl rfl ?_; go_frame))
      go_roundw
      case rel => exact ⟨k + 1, by omega, rfl, by rw [hTk, List.length_append, ht, hme], hB⟩
      case measure => simp [intOf]; omega
    · have hd : decide ((k : Int) < (N : Int)) = false := by simp; omega
      have hT : (Ls.take k).flatten.length = F := by rw [List.take_of_length_le (by omega), hF]
      rw [hT]
      have hV1 := hV0.below hB
      go_wp2_with (first
        | ((with_reducible change wpList _ _ _ (Oper.mk (some 12) _ _ _ _ _ :: _) _ _); refine kLssI _ _ _ _ .i64 (k : Int) (N : Int) false rfl rfl rfl rfl hd ?_; go_frame)
        | (go_at_call 52; refine (bGrow_any (n := F) (by omega) _).mono ?_; rintro e w2 ⟨v2, rfl, hO2, hBq⟩; have hO3 := own_less hB.size hO2; have hB3 := hB.trans (hBq.mono hB.size); have hV2 := hV1.below hBq; clear hB hBq hO2 hV1; go_frame)
        | ((with_reducible change wpList _ _ _ (Oper.mk (some 26) _ _ _ _ _ :: _) _ _); refine kLenN _ _ _ u _ N rfl rfl rfl hV2 (hvs0.trans hN) Tryd.underlying71 ?_; go_frame))
      clear hk hlt hd hT
      go_loopw [27, 6] (fun i t wr => ∃ k : Nat, k ≤ N ∧ i = .int .i64 k ∧ OwnB wr w.heap.size t (Ls.take k).flatten ∧ Below w.heap.size w wr) (fun i _ _ => N - (intOf i).toNat)
      case atStart => exact ⟨0, by omega, rfl, hO3, hB3⟩
      case round =>
        clear hO3 hB3
        obtain ⟨k, hk, rfl, hO, hB⟩ := hrel
        by_cases hlt : k < N
        · have hd : decide ((k : Int) < (N : Int)) = true := by simp; omega
          have hkl : k < Ls.length := by omega
          obtain ⟨vs, x, hvs, hV0, hxk, hX0⟩ := hu.at hkl
          have hV := hV0.below hB
          have hX := hX0.below hB
          have hsz := hB.size
          have hTk := flat_take hkl
          have hTl := flat_le (Ls := Ls) (k + 1)
          obtain ⟨X, hXe⟩ : ∃ X, Ls[k] = X := ⟨_, rfl⟩
          rw [hXe] at hX hX0 hTk
          obtain ⟨m, hme⟩ : ∃ m, X.length = m := ⟨_, rfl⟩
          rw [hTk, List.length_append, hme] at hTl
          clear hV0
          go_wp2_with (first
            | ((with_reducible change wpList _ _ _ (Oper.mk (some 28) _ _ _ _ _ :: _) _ _); refine kLssI _ _ _ _ .i64 (k : Int) (N : Int) true rfl rfl rfl rfl hd ?_; go_frame)
            | ((with_reducible change wpList _ _ _ (Oper.mk (some 29) _ _ _ _ _ :: _) _ _); refine kIndexAddrV _ _ _ _ .i64 u vs (k : Int) k x rfl rfl rfl hV rfl Tryd.underlying71 info_bytesP rfl hxk ?_; intro b hb; go_frame)
            | ((with_reducible change wpList _ _ _ (Oper.mk (some 30) _ _ _ _ _ :: _) _ _); refine kLoadCell _ _ b x _ rfl rfl rfl hb Tryd.underlying57 rfl ?_; clear hb hV; go_frame)
            | ((with_reducible change wpList _ _ _ (Oper.mk (some 33) _ _ _ _ _ :: _) _ _); refine kAppB _ _ rfl rfl w.heap.size _ _ (Ls.take k).flatten X hO hX rfl rfl (by omega) hsz ?_; intro v6 w6 hO6 hB6; have hB7 := hB.trans hB6; clear hO hX hB hB6; go_frame)
            | ((with_reducible change wpList _ _ _ (Oper.mk (some 34) _ _ _ _ _ :: _) _ _); refine kAddI _ _ _ _ (k : Int) 1 ((k + 1 : Nat) : Int) (by omega) rfl rfl rfl rfl ?_; go_frame))
          go_roundw
          case rel => exact ⟨k + 1, by omega, rfl, by rw [hTk]; exact hO6, hB7⟩
          case measure => simp [intOf]; omega
        · have hd : decide ((k : Int) < (N : Int)) = false := by simp; omega
          have hT : (Ls.take k).flatten = Ls.flatten := by rw [List.take_of_length_le (by omega)]
          rw [hT] at hO
          go_wp2_with (first
            | ((with_reducible change wpList _ _ _ (Oper.mk (some 28) _ _ _ _ _ :: _) _ _); refine kLssI _ _ _ _ .i64 (k : Int) (N : Int) false rfl rfl rfl rfl hd ?_; go_frame))
          go_ret
          exact ⟨_, rfl, hO, hB⟩
set_option maxRecDepth 100000 in
set_option maxHeartbeats 8000000 in
theorem blWord_any {n : Nat} (hn : n < 4294967296) (W0 : World) : Calls Tryd.prog 44 #[.int .u32 (n : Int)] W0 (POwnPost W0 (fixedL n 4)) := by
  go_enter Tryd.func44, Tryd.ntmps44
  go_wp2_with (first
    | ((with_reducible change wpList _ _ _ (Oper.mk (some 4) _ _ _ _ _ :: _) _ _); refine kConvWU _ n hn rfl rfl rfl ?_; go_frame)
    | (go_at_call 53; refine (pcFixed_any (l := []) n 4 _ (isVals_nil _) (by simp)).mono ?_; rintro e w5 ⟨v5, rfl, hO5, hB5⟩; go_frame))
  go_ret
  rw [clamp4, List.nil_append] at hO5
  exact ⟨_, rfl, hO5, hB5⟩
theorem head_cat (h : HeadP) : [fixedL h.version 4, h.prev, h.root, fixedL h.time 4, fixedL h.bits 4, fixedL h.nonce 4].flatten = headL h := by simp [headL]
theorem own_at {b : Nat} {w w' : World} {l : List UInt8} {e : Ending} (hb : b ≤ w.heap.size) (h : POwnPost w l e w') : ∃ v, e = .returned v ∧ OwnB w' b v l ∧ Below w.heap.size w w' := by
  obtain ⟨v, he, hO, hB⟩ := h; exact ⟨v, he, own_less hb hO, hB⟩
set_option maxRecDepth 100000 in
set_option maxHeartbeats 8000000 in
theorem blHeadBytes_any {h : HeadP} (W0 : World) (hh : h.Is) : Calls Tryd.prog 38 #[.agg (headC h)] W0 (POwnPost W0 (headL h)) := by
  have hcat : ([fixedL h.version 4, h.prev, h.root, fixedL h.time 4, fixedL h.bits 4, fixedL h.nonce 4] : List (List UInt8)).flatten = headL h := head_cat h
  go_enter Tryd.func38, Tryd.ntmps38
  have hB00 := Below.refl W0.heap.size W0
  go_wp2_with (first
    | ((with_reducible change wpList _ _ _ (Oper.mk (some 1) _ _ _ _ _ :: _) _ _); refine kBoxL _ _ _ rfl rfl rfl ?_; intro y1 hV1 hzq hBq; clear hzq; have hB_1 := hB00.trans (hBq.mono hB00.size); clear hB00 hBq; go_frame))
  refine region_mixD [(0, true), (1, true), (3, true), (4, true), (5, true), (6, true), (7, true), (8, true), (10, true), (11, true), (13, true), (14, true), (2, false), (9, false), (12, false), (15, false), (16, false), (17, false), (18, true)] (fun w => (Row w W0.heap.size 26 (headC h))) (by kernel_rfl) (by kernel_rfl) rfl ?_
  intro z0 hBd hsd
  clear hsd
  have hV1_2 := hV1.below hBd hV1.lt
  have hB_3 := hB_1.trans (hBd.mono hB_1.size)
  clear hV1 hB_1 hBd
  simp only [List.map_cons, List.map_nil]
  dsimp only [List.filterMap, List.getElem?_cons_zero, List.getElem?_cons_succ]
  have hS : (Row z0 W0.heap.size 26 (headC h)) := hV1_2
  refine dY _ hS (yFld headF0 _ _ 0 0 rfl rfl rfl rfl) ?_; go_frame
  refine dY _ hS (yLoad1 _ _ _ W0.heap.size 0 (headC h) (.int .u32 ((h.version : Int))) _ rfl rfl rfl (fun _ h => h) Tryd.underlying22 rfl (headC_0 _)) ?_; go_frame
  refine dY _ hS (yFld headF1 _ _ 0 1 rfl rfl rfl rfl) ?_; go_frame
  refine dY _ hS (ySliceArrC Tryd.underlying24 info_b8P _ W0.heap.size 1 rfl rfl rfl) ?_; go_frame
  refine dY _ hS (yFld headF2 _ _ 0 33 rfl rfl rfl rfl) ?_; go_frame
  refine dY _ hS (ySliceArrC Tryd.underlying24 info_b8P _ W0.heap.size 33 rfl rfl rfl) ?_; go_frame
  refine dY _ hS (yFld headF3 _ _ 0 65 rfl rfl rfl rfl) ?_; go_frame
  refine dY _ hS (yLoad1 _ _ _ W0.heap.size 65 (headC h) (.int .u32 ((h.time : Int))) _ rfl rfl rfl (fun _ h => h) Tryd.underlying22 rfl (headC_65 _)) ?_; go_frame
  refine dY _ hS (yFld headF4 _ _ 0 66 rfl rfl rfl rfl) ?_; go_frame
  refine dY _ hS (yLoad1 _ _ _ W0.heap.size 66 (headC h) (.int .u32 ((h.bits : Int))) _ rfl rfl rfl (fun _ h => h) Tryd.underlying22 rfl (headC_66 _)) ?_; go_frame
  refine dY _ hS (yFld headF5 _ _ 0 67 rfl rfl rfl rfl) ?_; go_frame
  refine dY _ hS (yLoad1 _ _ _ W0.heap.size 67 (headC h) (.int .u32 ((h.nonce : Int))) _ rfl rfl rfl (fun _ h => h) Tryd.underlying22 rfl (headC_67 _)) ?_; go_frame
  refine dLoud ?_
  refine kCall1 44 _ _ _ rfl rfl (by kernel_rfl) rfl ?_
  refine (blWord_any (n := h.version) hh.1 _).mono ?_
  rintro e y2 ⟨v1, rfl, hX1o, hBq⟩
  clear hS
  have hV1_4 := hV1_2.below hBq hV1_2.lt
  have hB_5 := hB_3.trans (hBq.mono hB_3.size)
  clear hV1_2 hB_3 hBq
  have hX1 := hX1o.vals
  clear hX1o
  have hS : (Row y2 W0.heap.size 26 (headC h)) ∧ (IsVals y2 v1 ((fixedL h.version 4).map VB)) := ⟨hV1_4, hX1⟩
  refine ⟨_, rfl, mixOn ⟨(fun w => (Row w W0.heap.size 26 (headC h)) ∧ (IsVals w v1 ((fixedL h.version 4).map VB))), (fun _ h => h.1), hS, ?_⟩⟩
  go_frame
  refine dLoud ?_
  refine kCall1 44 _ _ _ rfl rfl (by kernel_rfl) rfl ?_
  refine (blWord_any (n := h.time) hh.2.2.2.1 _).mono ?_
  rintro e y3 ⟨v2, rfl, hX2o, hBq⟩
  clear hS
  have hV1_6 := hV1_4.below hBq hV1_4.lt
  have hX1_7 := hX1.below hBq
  have hB_8 := hB_5.trans (hBq.mono hB_5.size)
  clear hV1_4 hX1 hB_5 hBq
  have hX2 := hX2o.vals
  clear hX2o
  have hS : (Row y3 W0.heap.size 26 (headC h)) ∧ (IsVals y3 v1 ((fixedL h.version 4).map VB)) ∧ (IsVals y3 v2 ((fixedL h.time 4).map VB)) := ⟨hV1_6, hX1_7, hX2⟩
  refine ⟨_, rfl, mixOn ⟨(fun w => (Row w W0.heap.size 26 (headC h)) ∧ (IsVals w v1 ((fixedL h.version 4).map VB)) ∧ (IsVals w v2 ((fixedL h.time 4).map VB))), (fun _ h => ⟨h.1, h.2.1⟩), hS, ?_⟩⟩
  go_frame
  refine dLoud ?_
  refine kCall1 44 _ _ _ rfl rfl (by kernel_rfl) rfl ?_
  refine (blWord_any (n := h.bits) hh.2.2.2.2.1 _).mono ?_
  rintro e y4 ⟨v3, rfl, hX3o, hBq⟩
  clear hS
  have hV1_9 := hV1_6.below hBq hV1_6.lt
  have hX1_10 := hX1_7.below hBq
  have hX2_11 := hX2.below hBq
  have hB_12 := hB_8.trans (hBq.mono hB_8.size)
  clear hV1_6 hX1_7 hX2 hB_8 hBq
  have hX3 := hX3o.vals
  clear hX3o
  have hS : (Row y4 W0.heap.size 26 (headC h)) ∧ (IsVals y4 v1 ((fixedL h.version 4).map VB)) ∧ (IsVals y4 v2 ((fixedL h.time 4).map VB)) ∧ (IsVals y4 v3 ((fixedL h.bits 4).map VB)) := ⟨hV1_9, hX1_10, hX2_11, hX3⟩
  refine ⟨_, rfl, mixOn ⟨(fun w => (Row w W0.heap.size 26 (headC h)) ∧ (IsVals w v1 ((fixedL h.version 4).map VB)) ∧ (IsVals w v2 ((fixedL h.time 4).map VB)) ∧ (IsVals w v3 ((fixedL h.bits 4).map VB))), (fun _ h => ⟨h.1, h.2.1, h.2.2.1⟩), hS, ?_⟩⟩
  go_frame
  refine dLoud ?_
  refine kCall1 44 _ _ _ rfl rfl (by kernel_rfl) rfl ?_
  refine (blWord_any (n := h.nonce) hh.2.2.2.2.2 _).mono ?_
  rintro e y5 ⟨v4, rfl, hX4o, hBq⟩
  clear hS
  have hV1_13 := hV1_9.below hBq hV1_9.lt
  have hX1_14 := hX1_10.below hBq
  have hX2_15 := hX2_11.below hBq
  have hX3_16 := hX3.below hBq
  have hB_17 := hB_12.trans (hBq.mono hB_12.size)
  clear hV1_9 hX1_10 hX2_11 hX3 hB_12 hBq
  have hX4 := hX4o.vals
  clear hX4o
  have hS : (Row y5 W0.heap.size 26 (headC h)) ∧ (IsVals y5 v1 ((fixedL h.version 4).map VB)) ∧ (IsVals y5 v2 ((fixedL h.time 4).map VB)) ∧ (IsVals y5 v3 ((fixedL h.bits 4).map VB)) ∧ (IsVals y5 v4 ((fixedL h.nonce 4).map VB)) := ⟨hV1_13, hX1_14, hX2_15, hX3_16, hX4⟩
  refine ⟨_, rfl, mixOn ⟨(fun w => (Row w W0.heap.size 26 (headC h)) ∧ (IsVals w v1 ((fixedL h.version 4).map VB)) ∧ (IsVals w v2 ((fixedL h.time 4).map VB)) ∧ (IsVals w v3 ((fixedL h.bits 4).map VB)) ∧ (IsVals w v4 ((fixedL h.nonce 4).map VB))), (fun _ h => ⟨h.1, h.2.1, h.2.2.1, h.2.2.2.1⟩), hS, ?_⟩⟩
  go_frame
  have hb19_0 := hX1_14
  have hb19_1 := (sub_vals hV1_13 (by rw [headC_size]; decide) hh.2.1 (headC_prev _))
  have hb19_2 := (sub_vals hV1_13 (by rw [headC_size]; decide) hh.2.2.1 (headC_root _))
  have hb19_3 := hX2_15
  have hb19_4 := hX3_16
  have hb19_5 := hX4
  refine dLoud ?_
  refine kBuildLists6  _ _ _ _ _ _ rfl rfl rfl rfl rfl rfl rfl rfl hb19_0 hb19_1 hb19_2 hb19_3 hb19_4 hb19_5 ?_
  intro y6 hL19 hBq; clear hS hb19_0 hb19_1 hb19_2 hb19_3 hb19_4 hb19_5
  have hV1_18 := hV1_13.below hBq hV1_13.lt
  have hX1_19 := hX1_14.below hBq
  have hX2_20 := hX2_15.below hBq
  have hX3_21 := hX3_16.below hBq
  have hX4_22 := hX4.below hBq
  have hB_23 := hB_17.trans (hBq.mono hB_17.size)
  clear hV1_13 hX1_14 hX2_15 hX3_16 hX4 hB_17 hBq
  have hS : (Row y6 W0.heap.size 26 (headC h)) ∧ (IsVals y6 v1 ((fixedL h.version 4).map VB)) ∧ (IsVals y6 v2 ((fixedL h.time 4).map VB)) ∧ (IsVals y6 v3 ((fixedL h.bits 4).map VB)) ∧ (IsVals y6 v4 ((fixedL h.nonce 4).map VB)) ∧ (AreLists y6 (.slice (some ⟨y5.heap.size, 0, none⟩) 6 6) [(fixedL h.version 4), h.prev, h.root, (fixedL h.time 4), (fixedL h.bits 4), (fixedL h.nonce 4)]) := ⟨hV1_18, hX1_19, hX2_20, hX3_21, hX4_22, hL19⟩
  refine mixOn ⟨(fun w => (Row w W0.heap.size 26 (headC h)) ∧ (IsVals w v1 ((fixedL h.version 4).map VB)) ∧ (IsVals w v2 ((fixedL h.time 4).map VB)) ∧ (IsVals w v3 ((fixedL h.bits 4).map VB)) ∧ (IsVals w v4 ((fixedL h.nonce 4).map VB)) ∧ (AreLists w (.slice (some ⟨y5.heap.size, 0, none⟩) 6 6) [(fixedL h.version 4), h.prev, h.root, (fixedL h.time 4), (fixedL h.bits 4), (fixedL h.nonce 4)])), (fun _ h => ⟨h.1, h.2.1, h.2.2.1, h.2.2.2.1, h.2.2.2.2.1⟩), hS, ?_⟩
  go_frame
  refine dLoud ?_
  refine kCall1 43 _ _ _ rfl rfl (by kernel_rfl) rfl ?_
  refine (((bConcat_any _ hL19 (by rw [hcat, headL_len hh]; decide) (by simp)).mono (fun _ _ h => own_at hB_23.size h))).mono ?_
  rintro e y7 ⟨vR, rfl, hXR, hBq⟩
  clear hS
  have hV1_24 := hV1_18.below hBq hV1_18.lt
  have hX1_25 := hX1_19.below hBq
  have hX2_26 := hX2_20.below hBq
  have hX3_27 := hX3_21.below hBq
  have hX4_28 := hX4_22.below hBq
  have hL19_29 := hL19.below hBq
  have hB_30 := hB_23.trans (hBq.mono hB_23.size)
  clear hV1_18 hX1_19 hX2_20 hX3_21 hX4_22 hL19 hB_23 hBq
  rw [hcat] at hXR
  have hS : (Row y7 W0.heap.size 26 (headC h)) ∧ (IsVals y7 v1 ((fixedL h.version 4).map VB)) ∧ (IsVals y7 v2 ((fixedL h.time 4).map VB)) ∧ (IsVals y7 v3 ((fixedL h.bits 4).map VB)) ∧ (IsVals y7 v4 ((fixedL h.nonce 4).map VB)) ∧ (AreLists y7 (.slice (some ⟨y5.heap.size, 0, none⟩) 6 6) [(fixedL h.version 4), h.prev, h.root, (fixedL h.time 4), (fixedL h.bits 4), (fixedL h.nonce 4)]) := ⟨hV1_24, hX1_25, hX2_26, hX3_27, hX4_28, hL19_29⟩
  refine ⟨_, rfl, mixOn ⟨(fun w => (Row w W0.heap.size 26 (headC h)) ∧ (IsVals w v1 ((fixedL h.version 4).map VB)) ∧ (IsVals w v2 ((fixedL h.time 4).map VB)) ∧ (IsVals w v3 ((fixedL h.bits 4).map VB)) ∧ (IsVals w v4 ((fixedL h.nonce 4).map VB)) ∧ (AreLists w (.slice (some ⟨y5.heap.size, 0, none⟩) 6 6) [(fixedL h.version 4), h.prev, h.root, (fixedL h.time 4), (fixedL h.bits 4), (fixedL h.nonce 4)])), (fun _ h => ⟨h.1, h.2.1, h.2.2.1, h.2.2.2.1, h.2.2.2.2.1, h.2.2.2.2.2⟩), hS, ?_⟩⟩
  go_frame
  refine dY _ hS (yAssign _ vR rfl rfl rfl) ?_; go_frame
  refine dDone ?_
  go_wp2
  go_ret
  exact ⟨_, rfl, hXR, hB_30⟩
set_option maxRecDepth 100000 in
set_option maxHeartbeats 8000000 in
theorem xHeadBytes_any {h : HeadP} (W0 : World) (hh : h.Is) : Calls Tryd.prog 31 #[.agg (headC h)] W0 (POwnPost W0 (headL h)) := by
  have hcat : fixedL h.version 4 ++ h.prev ++ h.root ++ fixedL h.time 4 ++ fixedL h.bits 4 ++ fixedL h.nonce 4 = headL h := by simp [headL]
  go_enter Tryd.func31, Tryd.ntmps31
  go_wp2_with (first
    | ((with_reducible change wpList _ _ _ (Oper.mk (some 1) _ _ _ _ _ :: _) _ _); refine kBoxL _ _ _ rfl rfl rfl ?_; intro w1 hR hz1 hBx; clear hz1; have hB := Below.refl w1.heap.size w1; go_frame)
    | ((with_reducible change wpList _ _ _ (Oper.mk (some 4) _ _ _ _ _ :: _) _ _); refine kFld headF0 _ _ 0 0 rfl rfl rfl rfl ?_; go_frame)
    | ((with_reducible change wpList _ _ _ (Oper.mk (some 5) _ _ _ _ _ :: _) _ _); refine kLd Tryd.underlying22 rfl _ _ 0 _ (.int .u32 (h.version : Int)) (hR.below hB hR.lt) (headC_0 _) rfl rfl rfl ?_; go_frame)
    | ((with_reducible change wpList _ _ _ (Oper.mk (some 6) _ _ _ _ _ :: _) _ _); refine kConvWU _ h.version hh.1 rfl rfl rfl ?_; go_frame)
    | (go_at_call 41; (with_reducible change Calls _ _ #[.int .u64 (h.version : Int), _] _ _); refine (jFixed_any h.version (Nat.lt_trans hh.1 (by decide)) 4 _).mono ?_; rintro e w2 ⟨v1, rfl, hN1, hBq⟩; rw [clamp4] at hN1; have hB1 := hB.trans (hBq.mono hB.size); clear hBq hB; go_frame)
    | ((with_reducible change wpList _ _ _ (Oper.mk (some 9) _ _ _ _ _ :: _) _ _); refine kFld headF1 _ _ 0 1 rfl rfl rfl rfl ?_; go_frame)
    | ((with_reducible change wpList _ _ _ (Oper.mk (some 10) _ _ _ _ _ :: _) _ _); refine kY (ySliceArrC Tryd.underlying24 info_b8P _ W0.heap.size 1 rfl rfl rfl) ?_; go_frame)
    | ((with_reducible change wpList _ _ _ (Oper.mk (some 11) _ _ _ _ _ :: _) _ _); refine kAppB _ _ rfl rfl w1.heap.size _ _ (fixedL h.version 4) (h.prev) hN1 (sub_vals (hR.below hB1 hR.lt) (by rw [headC_size]; decide) hh.2.1 (headC_prev _)) rfl rfl (by simp only [fixedL_len, hh.2.1]; decide) hB1.size ?_; intro u2 W2 hO2 hBq; have hC2 := hB1.trans hBq; clear hBq hB1 hN1; go_frame)
    | ((with_reducible change wpList _ _ _ (Oper.mk (some 13) _ _ _ _ _ :: _) _ _); refine kFld headF2 _ _ 0 33 rfl rfl rfl rfl ?_; go_frame)
    | ((with_reducible change wpList _ _ _ (Oper.mk (some 14) _ _ _ _ _ :: _) _ _); refine kY (ySliceArrC Tryd.underlying24 info_b8P _ W0.heap.size 33 rfl rfl rfl) ?_; go_frame)
    | ((with_reducible change wpList _ _ _ (Oper.mk (some 15) _ _ _ _ _ :: _) _ _); refine kAppB _ _ rfl rfl w1.heap.size _ _ (fixedL h.version 4 ++ h.prev) (h.root) hO2 (sub_vals (hR.below hC2 hR.lt) (by rw [headC_size]; decide) hh.2.2.1 (headC_root _)) rfl rfl (by simp only [List.length_append, fixedL_len, hh.2.1, hh.2.2.1]; decide) hC2.size ?_; intro u3 W3 hO3 hBq; have hC3 := hC2.trans hBq; clear hBq hC2 hO2; go_frame)
    | ((with_reducible change wpList _ _ _ (Oper.mk (some 17) _ _ _ _ _ :: _) _ _); refine kFld headF3 _ _ 0 65 rfl rfl rfl rfl ?_; go_frame)
    | ((with_reducible change wpList _ _ _ (Oper.mk (some 18) _ _ _ _ _ :: _) _ _); refine kLd Tryd.underlying22 rfl _ _ 65 _ (.int .u32 (h.time : Int)) (hR.below hC3 hR.lt) (headC_65 _) rfl rfl rfl ?_; go_frame)
    | ((with_reducible change wpList _ _ _ (Oper.mk (some 19) _ _ _ _ _ :: _) _ _); refine kConvWU _ h.time hh.2.2.2.1 rfl rfl rfl ?_; go_frame)
    | (go_at_call 41; (with_reducible change Calls _ _ #[.int .u64 (h.time : Int), _] _ _); refine (jFixed_any h.time (Nat.lt_trans hh.2.2.2.1 (by decide)) 4 _).mono ?_; rintro e w5 ⟨v4, rfl, hN4, hBq⟩; rw [clamp4] at hN4; have hB4 := hC3.trans (hBq.mono hC3.size); have hO3b := hO3.below hBq; clear hO3; clear hBq hC3; go_frame)
    | ((with_reducible change wpList _ _ _ (Oper.mk (some 21) _ _ _ _ _ :: _) _ _); refine kAppB _ _ rfl rfl w1.heap.size _ _ (fixedL h.version 4 ++ h.prev ++ h.root) (fixedL h.time 4) hO3b hN4.vals rfl rfl (by simp only [List.length_append, fixedL_len, hh.2.1, hh.2.2.1]; decide) hB4.size ?_; intro u5 W5 hO5 hBq; have hC5 := hB4.trans hBq; clear hBq hB4 hO3b; go_frame)
    | ((with_reducible change wpList _ _ _ (Oper.mk (some 23) _ _ _ _ _ :: _) _ _); refine kFld headF4 _ _ 0 66 rfl rfl rfl rfl ?_; go_frame)
    | ((with_reducible change wpList _ _ _ (Oper.mk (some 24) _ _ _ _ _ :: _) _ _); refine kLd Tryd.underlying22 rfl _ _ 66 _ (.int .u32 (h.bits : Int)) (hR.below hC5 hR.lt) (headC_66 _) rfl rfl rfl ?_; go_frame)
    | ((with_reducible change wpList _ _ _ (Oper.mk (some 25) _ _ _ _ _ :: _) _ _); refine kConvWU _ h.bits hh.2.2.2.2.1 rfl rfl rfl ?_; go_frame)
    | (go_at_call 41; (with_reducible change Calls _ _ #[.int .u64 (h.bits : Int), _] _ _); refine (jFixed_any h.bits (Nat.lt_trans hh.2.2.2.2.1 (by decide)) 4 _).mono ?_; rintro e w7 ⟨v6, rfl, hN6, hBq⟩; rw [clamp4] at hN6; have hB6 := hC5.trans (hBq.mono hC5.size); have hO5b := hO5.below hBq; clear hO5; clear hBq hC5; go_frame)
    | ((with_reducible change wpList _ _ _ (Oper.mk (some 27) _ _ _ _ _ :: _) _ _); refine kAppB _ _ rfl rfl w1.heap.size _ _ (fixedL h.version 4 ++ h.prev ++ h.root ++ fixedL h.time 4) (fixedL h.bits 4) hO5b hN6.vals rfl rfl (by simp only [List.length_append, fixedL_len, hh.2.1, hh.2.2.1]; decide) hB6.size ?_; intro u7 W7 hO7 hBq; have hC7 := hB6.trans hBq; clear hBq hB6 hO5b; go_frame)
    | ((with_reducible change wpList _ _ _ (Oper.mk (some 29) _ _ _ _ _ :: _) _ _); refine kFld headF5 _ _ 0 67 rfl rfl rfl rfl ?_; go_frame)
    | ((with_reducible change wpList _ _ _ (Oper.mk (some 30) _ _ _ _ _ :: _) _ _); refine kLd Tryd.underlying22 rfl _ _ 67 _ (.int .u32 (h.nonce : Int)) (hR.below hC7 hR.lt) (headC_67 _) rfl rfl rfl ?_; go_frame)
    | ((with_reducible change wpList _ _ _ (Oper.mk (some 31) _ _ _ _ _ :: _) _ _); refine kConvWU _ h.nonce hh.2.2.2.2.2 rfl rfl rfl ?_; go_frame)
    | (go_at_call 41; (with_reducible change Calls _ _ #[.int .u64 (h.nonce : Int), _] _ _); refine (jFixed_any h.nonce (Nat.lt_trans hh.2.2.2.2.2 (by decide)) 4 _).mono ?_; rintro e w9 ⟨v8, rfl, hN8, hBq⟩; rw [clamp4] at hN8; have hB8 := hC7.trans (hBq.mono hC7.size); have hO7b := hO7.below hBq; clear hO7; clear hBq hC7; go_frame)
    | ((with_reducible change wpList _ _ _ (Oper.mk (some 33) _ _ _ _ _ :: _) _ _); refine kAppB _ _ rfl rfl w1.heap.size _ _ (fixedL h.version 4 ++ h.prev ++ h.root ++ fixedL h.time 4 ++ fixedL h.bits 4) (fixedL h.nonce 4) hO7b hN8.vals rfl rfl (by simp only [List.length_append, fixedL_len, hh.2.1, hh.2.2.1]; decide) hB8.size ?_; intro u9 W9 hO9 hBq; have hC9 := hB8.trans hBq; clear hBq hB8 hO7b; go_frame))
  go_ret
  rw [hcat] at hO9
  have hs := hBx.size
  exact ⟨_, rfl, own_less hs hO9, hBx.trans (hC9.mono hs)⟩
theorem twice_lists {Ls : List (List UInt8)} {l : List UInt8} {v : Value} (h : Ls.flatten = l) (w : World) (hK : Keys w) (hv : AreLists w v Ls) (hn : Ls.length ≤ 1000000) (hlen : l.length < 1000000000000) : Calls Tryd.prog 37 #[v] w (HashPost w (sha (sha l))) := by
  subst h; exact Twice_any Ls v w hK hv hn hlen
set_option maxRecDepth 100000 in
set_option maxHeartbeats 8000000 in
theorem blId_any {h : HeadP} (W0 : World) (hh : h.Is) (hK : Keys W0) : Calls Tryd.prog 24 #[.agg (headC h)] W0 (HashPost W0 (hidL h)) := by
  go_enter Tryd.func24, Tryd.ntmps24
  have hB00 := Below.refl W0.heap.size W0
  go_wp2_with (first
    | ((with_reducible change wpList _ _ _ (Oper.mk (some 1) _ _ _ _ _ :: _) _ _); refine kBoxL _ _ _ rfl rfl rfl ?_; intro y1 hV1 hzq hBq; clear hzq; have hB_1 := hB00.trans (hBq.mono hB00.size); clear hB00 hBq; go_frame)
    | ((with_reducible change wpList _ _ _ (Oper.mk (some 2) _ _ _ _ _ :: _) _ _); refine kAllocL _ _ rfl rfl zero_Hash ?_; intro y2 hV2 hzq hBq; clear hzq; have hge2 : Hid (W0.heap.size ≤ y1.heap.size) := hB_1.size; have hV1_2 := hV1.below hBq hV1.lt; have hB_3 := hB_1.trans (hBq.mono hB_1.size); clear hV1 hB_1 hBq; go_frame)
    | ((with_reducible change wpList _ _ _ (Oper.mk (some 3) _ _ _ _ _ :: _) _ _); refine kY (yLoadRowC Tryd.underlying26 rfl _ _ (headC h) (info_HeadS _) (fun _ e => by cases e; exact hV1_2) rfl rfl rfl) ?_; go_frame)
    | (go_at_call 38; refine (blHeadBytes_any (h := h) _ hh).mono ?_; rintro e y3 ⟨v1, rfl, hX1o, hBq⟩; have hV1_4 := hV1_2.below hBq hV1_2.lt; have hV2_5 := hV2.below hBq hV2.lt; have hB_6 := hB_3.trans (hBq.mono hB_3.size); clear hV1_2 hV2 hB_3 hBq; have hX1 := hX1o.vals; clear hX1o; go_frame)
    | ((with_reducible change wpList _ _ _ (Oper.mk (some 5) _ _ _ _ _ :: _) _ _); refine kBuildLists1 _ rfl rfl rfl hX1 ?_; intro y4 hL5 hBq; have hV1_7 := hV1_4.below hBq hV1_4.lt; have hV2_8 := hV2_5.below hBq hV2_5.lt; have hX1_9 := hX1.below hBq; have hB_10 := hB_6.trans (hBq.mono hB_6.size); clear hV1_4 hV2_5 hX1 hB_6 hBq; go_frame)
    | (go_at_call 37; refine (twice_lists (l := headL h) (by simp) _ (hK.below hB_10) hL5 (by simp) (by rw [headL_len hh]; decide)).mono ?_; rintro e y5 ⟨rfl, hBq⟩; have hV1_11 := hV1_7.below hBq hV1_7.lt; have hV2_12 := hV2_8.below hBq hV2_8.lt; have hX1_13 := hX1_9.below hBq; have hL5_14 := hL5.below hBq; have hB_15 := hB_10.trans (hBq.mono hB_10.size); clear hV1_7 hV2_8 hX1_9 hL5 hB_10 hBq; go_frame)
    | ((with_reducible change wpList _ _ _ (Oper.mk none (Op.store _ (Operand.tmp 2) _) _ _ _ _ :: _) _ _); refine kStoreHash _ _ _ (hidL h) _ hV2_12 (by first | exact tab_size _ _ | rfl) rfl rfl rfl rfl ?_; intro y6 hR hWq; have hBB := hB_15.trans (hWq.below (hge2.out)); go_frame))
  (try simp only [Exit.inBlock, Exit.then])
  exact result_row rfl rfl hR Tryd.underlying24 rfl info_HashT rfl ⟨rfl, hBB⟩
set_option maxRecDepth 100000 in
set_option maxHeartbeats 8000000 in
theorem xId_any {h : HeadP} (W0 : World) (hh : h.Is) : Calls Tryd.prog 14 #[.agg (headC h)] W0 (HashPost W0 (hidL h)) := by
  go_enter Tryd.func14, Tryd.ntmps14
  have hB00 := Below.refl W0.heap.size W0
  go_wp2_with (first
    | ((with_reducible change wpList _ _ _ (Oper.mk (some 1) _ _ _ _ _ :: _) _ _); refine kBoxL _ _ _ rfl rfl rfl ?_; intro y1 hV1 hzq hBq; clear hzq; have hB_1 := hB00.trans (hBq.mono hB00.size); clear hB00 hBq; go_frame)
    | ((with_reducible change wpList _ _ _ (Oper.mk (some 2) _ _ _ _ _ :: _) _ _); refine kAllocL _ _ rfl rfl zero_Hash ?_; intro y2 hV2 hzq hBq; clear hzq; have hge2 : Hid (W0.heap.size ≤ y1.heap.size) := hB_1.size; have hV1_2 := hV1.below hBq hV1.lt; have hB_3 := hB_1.trans (hBq.mono hB_1.size); clear hV1 hB_1 hBq; go_frame)
    | ((with_reducible change wpList _ _ _ (Oper.mk (some 3) _ _ _ _ _ :: _) _ _); refine kY (yLoadRowC Tryd.underlying26 rfl _ _ (headC h) (info_HeadS _) (fun _ e => by cases e; exact hV1_2) rfl rfl rfl) ?_; go_frame)
    | (go_at_call 31; refine (xHeadBytes_any (h := h) _ hh).mono ?_; rintro e y3 ⟨v1, rfl, hX1o, hBq⟩; have hV1_4 := hV1_2.below hBq hV1_2.lt; have hV2_5 := hV2.below hBq hV2.lt; have hB_6 := hB_3.trans (hBq.mono hB_3.size); clear hV1_2 hV2 hB_3 hBq; have hX1 := hX1o.vals; clear hX1o; go_frame)
    | (go_at_call 30; refine (rTwice_any (headL h) _ _ hX1 (by rw [headL_len hh]; decide)).mono ?_; rintro e y4 ⟨rfl, hBq⟩; have hV1_7 := hV1_4.below hBq hV1_4.lt; have hV2_8 := hV2_5.below hBq hV2_5.lt; have hX1_9 := hX1.below hBq; have hB_10 := hB_6.trans (hBq.mono hB_6.size); clear hV1_4 hV2_5 hX1 hB_6 hBq; go_frame)
    | ((with_reducible change wpList _ _ _ (Oper.mk none (Op.store _ (Operand.tmp 2) _) _ _ _ _ :: _) _ _); refine kStoreHash _ _ _ (hidL h) _ hV2_8 (by first | exact tab_size _ _ | rfl) rfl rfl rfl rfl ?_; intro y5 hR hWq; have hBB := hB_10.trans (hWq.below (hge2.out)); go_frame))
  (try simp only [Exit.inBlock, Exit.then])
  exact result_row rfl rfl hR Tryd.underlying24 rfl info_HashT rfl ⟨rfl, hBB⟩
end Go.Proofs.YtdeggdmoijfhdaaDoor

/-
  Layer 11: blocks as bytes; the same block; the names of its transactions.
-/
namespace Go.Proofs.YtdeggdmoijfhdaaDoor
open Go Go.RowKit

section
variable {ops : Array Oper} {o : Oper} {a : Act} {S : World → Prop} {w : World}
theorem yLoadHsAt (x : Operand) (b : Addr) (l : List UInt8) (hb : ∀ w, S w → ∀ (j : Nat) (u : Value), (hashR l)[j]? = some u → w.cell? (b.add j) = some u) (ho : o.op = .load 24 x) (hg : Region.wanted o (yielded ops a.tmps) = true) (hx : a.eval x = .pointer (some b)) : YieldsIf Tryd.prog ops S o (HV l) a :=
  yLoadAt Tryd.underlying24 rfl info_HashCo x b (hashR l) (hashR_len l) hb ho hg hx
theorem rows_of_row {n g : Nat} {E : TypeId} {cs : Array Value} (h : Row w g E cs) (hx : cs.size = n) : IsRows n w (.slice (some ⟨g, 0, none⟩) 1 1) [cs.toList] := isRows_one (x := cs.toList) (by simpa using h) (by simpa using hx)
end
theorem idsL_take {l : List TxP} {k : Nat} {t : TxP} (h : l[k]? = some t) : idsL (l.take (k + 1)) = idsL (l.take k) ++ [idL t] := by
  obtain ⟨hk, rfl⟩ := List.getElem?_eq_some_iff.1 h
  unfold idsL; rw [List.take_succ_eq_append_getElem hk, List.map_append]; rfl
theorem hashRow (l : List UInt8) : (hashR l).toArray.size = 32 := by simp [hashR]
end Go.Proofs.YtdeggdmoijfhdaaDoor

/-
  Layer 11: the walks of what reads, the program's: hashes, heads, blocks.
-/
namespace Go.Proofs.YtdeggdmoijfhdaaDoor
open Go Go.RowKit

variable {Lm : Nat}
theorem raw_cases (s : Scn) : (rawS s 32).1.length = 32 ∨ (rawS s 32).1 = [] := by
  unfold rawS
  split
  · exact .inr rfl
  · split
    · exact .inr rfl
    · refine .inl ?_
      show (s.rest.take 32).length = 32
      rw [List.length_take]; omega
theorem hash_put (s : Scn) : (hashS s).1 = put32 (rawS s 32).1 := by
  unfold hashS
  dsimp only
  rcases raw_cases s with h | h
  · rw [if_pos h, put32_id h]
  · rw [h, if_neg (by simp)]; rfl
theorem tab_put (x : List UInt8) : splice (tab 32 fun p => VB (at8 z32 p)) 0 ((x.map VB).take 32) = tab 32 fun p => VB (at8 (put32 x) p) := by
  rw [tab_list z32 32 rfl, tab_list (put32 x) 32 (put32_len x)]
  unfold splice put32 z32
  rw [List.map_append, List.map_take, List.map_replicate, List.map_replicate]
  have hxl : (x.map VB).length = x.length := by simp
  generalize x.map VB = m at *
  have hl : (List.take 32 m).length = min 32 m.length := List.length_take
  rw [hl, ← hxl, Nat.zero_add]
  simp only [List.take_zero, List.nil_append]
  rw [List.drop_replicate, show 32 - min 32 m.length = 32 - m.length by omega]
def HRdPost (Lm : Nat) (T : TypeId) (g : Nat) (w : World) (p : List UInt8 × Scn) (e : Ending) (w' : World) : Prop := e = .returned (HV p.1) ∧ Rd Lm T w' g p.2 ∧ Exc g w w'
def HeadPost (Lm : Nat) (T : TypeId) (g : Nat) (w : World) (p : HeadP × Scn) (e : Ending) (w' : World) : Prop := e = .returned (.agg (headC p.1)) ∧ Rd Lm T w' g p.2 ∧ Exc g w w'
def faultN (E n : Nat) : Nat := if E ≠ 0 then E else if 0 < n then 62 else 0
end Go.Proofs.YtdeggdmoijfhdaaDoor
