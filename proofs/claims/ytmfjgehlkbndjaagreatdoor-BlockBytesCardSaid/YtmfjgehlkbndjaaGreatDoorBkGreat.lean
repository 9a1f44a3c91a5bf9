/-
  Layer 11: what is too great to be looked at.
-/
import Derived.Test.YtmfjgehlkbndjaaGreatDoorBkC
namespace Go.Proofs.YtmfjgehlkbndjaaGreatDoor
open Go Go.RowKit Go.Shelf

attribute [local go_sem] Oper.semAt_some
def goI (K : Nat → Option Nat) : Nat → List InP → Option Nat
  | s, [] => K s
  | s, i :: r => if 2000 < i.unlock.length then none else goI K (s + i.unlock.length) r
def goO (K : Nat → Option Nat) : Nat → List (Int × List UInt8) → Option Nat
  | s, [] => K s
  | s, i :: r => if 2000 < i.2.length then none else goO K (s + i.2.length) r
def goT : Nat → List TxP → Option Nat
  | s, [] => some s
  | s, t :: r => if 30 < t.ins.length then none else if 30 < t.outs.length then none else goI (fun s => goO (fun s => goT s r) s t.outs) s t.ins
def endG : Option Nat → Bool
  | none => true
  | some s => decide (30000 < s)
def great11B (b : BlockP) : Bool := if 40 < b.txs.length then true else endG (goT 0 b.txs)
theorem goI_at {K : Nat → Option Nat} {s k : Nat} {l : List InP} {i : InP} (h : l[k]? = some i) : goI K s (l.drop k) = if 2000 < i.unlock.length then none else goI K (s + i.unlock.length) (l.drop (k + 1)) := by
  obtain ⟨hk, rfl⟩ := List.getElem?_eq_some_iff.1 h
  rw [List.drop_eq_getElem_cons hk]; rfl
theorem goO_at {K : Nat → Option Nat} {s k : Nat} {l : List (Int × List UInt8)} {i : Int × List UInt8} (h : l[k]? = some i) : goO K s (l.drop k) = if 2000 < i.2.length then none else goO K (s + i.2.length) (l.drop (k + 1)) := by
  obtain ⟨hk, rfl⟩ := List.getElem?_eq_some_iff.1 h
  rw [List.drop_eq_getElem_cons hk]; rfl
theorem goT_at {s k : Nat} {l : List TxP} {t : TxP} (h : l[k]? = some t) : goT s (l.drop k) = if 30 < t.ins.length then none else if 30 < t.outs.length then none else goI (fun s => goO (fun s => goT s (l.drop (k + 1))) s t.outs) s t.ins := by rw [drop_at h]; rfl
theorem inL_more {i : InP} (hid : i.id.length = 32) : (inL i).length ≤ i.unlock.length + 60 := by
  have h1 := textL_le (Nat.le_refl i.unlock.length)
  unfold inL refL
  rw [List.length_append, List.length_append, List.length_append, fixedL_len, fixedL_len, hid]
  omega
theorem outL_more (x : Int × List UInt8) : (outPL x).length ≤ x.2.length + 60 := by
  have := outL_le (n := x.1) (Nat.le_refl x.2.length)
  unfold outPL; omega
/-- bytes of what is not too great -/
theorem goI_some {K : Nat → Option Nat} : ∀ (l : List InP) (s z : Nat), (∀ i ∈ l, i.Is) → goI K s l = some z → (∀ i ∈ l, i.unlock.length ≤ 2000) ∧ ∃ s', K s' = some z ∧ s + (insL l).length ≤ s' + l.length * 60
  | [], s, z, _, h => ⟨fun i hi => (by cases hi), s, h, by simp [insL]⟩
  | i :: r, s, z, hl, h => by
    unfold goI at h
    split at h
    · cases h
    · rename_i hi
      obtain ⟨h1, s', h2, h3⟩ := goI_some r _ z (fun j hj => hl j (by simp [hj])) h
      refine ⟨fun j hj => (by rcases List.mem_cons.1 hj with rfl | hj <;> first | omega | exact h1 j hj), s', h2, ?_⟩
      have e : insL (i :: r) = inL i ++ insL r := by unfold insL; rw [List.map_cons, List.flatten_cons]
      have h4 : (inL i).length ≤ i.unlock.length + 60 := inL_more (hl i (by simp)).1
      rw [e, List.length_append, List.length_cons, Nat.add_mul]; omega
theorem goO_some {K : Nat → Option Nat} : ∀ (l : List (Int × List UInt8)) (s z : Nat), goO K s l = some z → (∀ i ∈ l, i.2.length ≤ 2000) ∧ ∃ s', K s' = some z ∧ s + (outsL l).length ≤ s' + l.length * 60
  | [], s, z, h => ⟨fun i hi => (by cases hi), s, h, by simp [outsL]⟩
  | i :: r, s, z, h => by
    unfold goO at h
    split at h
    · cases h
    · rename_i hi
      obtain ⟨h1, s', h2, h3⟩ := goO_some r _ z h
      refine ⟨fun j hj => (by rcases List.mem_cons.1 hj with rfl | hj <;> first | omega | exact h1 j hj), s', h2, ?_⟩
      have e : outsL (i :: r) = outPL i ++ outsL r := by unfold outsL; rw [List.map_cons, List.flatten_cons]
      have h4 : (outPL i).length ≤ i.2.length + 60 := outL_more i
      rw [e, List.length_append, List.length_cons, Nat.add_mul]; omega
theorem goT_some : ∀ (l : List TxP) (s z : Nat), (∀ t ∈ l, t.Is) → goT s l = some z → (∀ t ∈ l, t.Fits) ∧ s + (txsL l).length ≤ z + l.length * 4000
  | [], s, z, _, h => ⟨fun t ht => (by cases ht), by unfold goT at h; injection h with h; simp [txsL]; omega⟩
  | t :: r, s, z, hl, h => by
    have hI := hl t (by simp)
    unfold goT at h
    split at h
    · cases h
    · rename_i h1
      split at h
      · cases h
      · rename_i h2
        obtain ⟨a1, s1, b1, c1⟩ := goI_some t.ins _ z hI.2.2.1 h
        obtain ⟨a2, s2, b2, c2⟩ := goO_some t.outs _ z b1
        obtain ⟨a3, c3⟩ := goT_some r _ z (fun u hu => hl u (by simp [hu])) b2
        refine ⟨fun u hu => (by rcases List.mem_cons.1 hu with rfl | hu <;> first | exact ⟨by omega, by omega, a1, a2⟩ | exact a3 u hu), ?_⟩
        have e : txsL (t :: r) = txL t ++ txsL r := by unfold txsL; rw [List.map_cons, List.flatten_cons]
        have m1 := Nat.mul_le_mul_right 60 (show t.ins.length ≤ 30 by omega)
        have m2 := Nat.mul_le_mul_right 60 (show t.outs.length ≤ 30 by omega)
        have k1 := countL_le t.ins.length
        have k2 := countL_le t.outs.length
        have hx : (txL t).length = (insL t.ins).length + (outsL t.outs).length + (countL t.ins.length).length + (countL t.outs.length).length + 8 := by
          rw [txL_split]
          simp only [List.length_append, fixedL_len]
          omega
        rw [e, List.length_append, List.length_cons, Nat.add_mul, hx]; omega
theorem great11_not {b : BlockP} (hb : b.Is) (h : great11B b = false) : b.Fits ∧ (blockL b).length ≤ 1000000 := by
  unfold great11B at h
  split at h
  · cases h
  · rename_i h1
    cases hg : goT 0 b.txs with
    | none => rw [hg] at h; cases h
    | some z =>
      rw [hg] at h
      obtain ⟨a, c⟩ := goT_some b.txs 0 z hb.2 hg
      have hz : ¬ 30000 < z := of_decide_eq_false h
      have k1 := countL_le b.txs.length
      have k2 := headL_len hb.1
      have m1 := Nat.mul_le_mul_right 4000 (show b.txs.length ≤ 40 by omega)
      refine ⟨⟨by omega, a⟩, ?_⟩
      unfold blockL
      rw [List.length_append, List.length_append]; omega
set_option maxRecDepth 100000 in
set_option maxHeartbeats 8000000 in
theorem great11_any {b : BlockP} {v : Value} (W0 : World) (ht : TxsOf W0 v b.txs) : Calls Tryz.prog 19 #[.agg (blkC b.head v)] W0 (BoolPost W0 (great11B b)) := by
  obtain ⟨zs, es, hT⟩ := id ht
  obtain ⟨N, hN⟩ : ∃ N, b.txs.length = N := ⟨_, rfl⟩
  have hzN : zs.length = N := by rw [fst_lenT es, hN]
  obtain ⟨R, hR0⟩ : ∃ R, great11B b = R := ⟨_, rfl⟩
  rw [hR0]
  unfold great11B at hR0
  rw [hN] at hR0
  by_cases h1 : 40 < N
  · have d1 : decide ((N : Int) > 40) = true := by simp; omega
    rw [if_pos h1] at hR0
    subst hR0
    clear h1
    go_enter Tryz.func19, Tryz.ntmps19
    go_wp2_with (first
      | ((with_reducible change wpList _ _ _ (Oper.mk (some 1) _ _ _ _ _ :: _) _ _); refine kBoxL _ _ _ rfl rfl rfl ?_; intro w1 hR hz1 hB; have ht1 := ht.below hB; clear hz1; go_frame)
      | ((with_reducible change wpList _ _ _ (Oper.mk (some 10) _ _ _ _ _ :: _) _ _); refine kY (yFld blkF1 _ _ 0 68 rfl rfl rfl rfl) ?_; go_frame)
      | ((with_reducible change wpList _ _ _ (Oper.mk (some 11) _ _ _ _ _ :: _) _ _); refine kY (yLoad1 _ _ _ W0.heap.size 68 (blkC b.head v) v _ rfl rfl rfl (fun _ e => by cases e; exact hR) Tryz.underlying27 rfl (blkC_68 _ _)) ?_; go_frame)
      | ((with_reducible change wpList _ _ _ (Oper.mk (some 12) _ _ _ _ _ :: _) _ _); refine kY (yLenTxs _ v b.txs N (fun _ e => by cases e; exact ht1) hN rfl rfl rfl) ?_; go_frame)
      | ((with_reducible change wpList _ _ _ (Oper.mk (some 13) _ _ _ _ _ :: _) _ _); refine kGtrI _ _ _ _ .i64 (N : Int) 40 _ rfl rfl rfl rfl d1 ?_; go_frame))
    (try simp only [Exit.inBlock, Exit.then])
    refine retBT rfl rfl ?_
    exact ⟨rfl, hB⟩
  have d1 : decide ((N : Int) > 40) = false := by simp; omega
  rw [if_neg h1] at hR0
  have hN2 : N ≤ 40 := by omega
  clear h1
  go_enter Tryz.func19, Tryz.ntmps19
  go_wp2_with (first
    | ((with_reducible change wpList _ _ _ (Oper.mk (some 1) _ _ _ _ _ :: _) _ _); refine kBoxL _ _ _ rfl rfl rfl ?_; intro w1 hR hz1 hB; have ht1 := ht.below hB; clear hz1; go_frame)
    | ((with_reducible change wpList _ _ _ (Oper.mk (some 10) _ _ _ _ _ :: _) _ _); refine kY (yFld blkF1 _ _ 0 68 rfl rfl rfl rfl) ?_; go_frame)
    | ((with_reducible change wpList _ _ _ (Oper.mk (some 11) _ _ _ _ _ :: _) _ _); refine kY (yLoad1 _ _ _ W0.heap.size 68 (blkC b.head v) v _ rfl rfl rfl (fun _ e => by cases e; exact hR) Tryz.underlying27 rfl (blkC_68 _ _)) ?_; go_frame)
    | ((with_reducible change wpList _ _ _ (Oper.mk (some 12) _ _ _ _ _ :: _) _ _); refine kY (yLenTxs _ v b.txs N (fun _ e => by cases e; exact ht1) hN rfl rfl rfl) ?_; go_frame)
    | ((with_reducible change wpList _ _ _ (Oper.mk (some 13) _ _ _ _ _ :: _) _ _); refine kGtrI _ _ _ _ .i64 (N : Int) 40 _ rfl rfl rfl rfl d1 ?_; go_frame)
    | ((with_reducible change wpList _ _ _ (Oper.mk (some 14) _ _ _ _ _ :: _) _ _); refine kY (yFld blkF1 _ _ 0 68 rfl rfl rfl rfl) ?_; go_frame)
    | ((with_reducible change wpList _ _ _ (Oper.mk (some 15) _ _ _ _ _ :: _) _ _); refine kY (yLoad1 _ _ _ W0.heap.size 68 (blkC b.head v) v _ rfl rfl rfl (fun _ e => by cases e; exact hR) Tryz.underlying27 rfl (blkC_68 _ _)) ?_; go_frame)
    | ((with_reducible change wpList _ _ _ (Oper.mk (some 16) _ _ _ _ _ :: _) _ _); refine kY (yLenTxs _ v b.txs N (fun _ e => by cases e; exact ht1) hN rfl rfl rfl) ?_; go_frame))
  go_loopw [17, 3] (fun x y wr => ∃ (k s : Nat), k ≤ N ∧ x = .int .i64 (k : Int) ∧ y = .int .i64 (s : Int) ∧ s ≤ k * 200000 ∧ endG (goT s (b.txs.drop k)) = R ∧ Row wr W0.heap.size 29 (blkC b.head v) ∧ Below W0.heap.size W0 wr) (fun x _ _ => N - (intOf x).toNat)
  case atStart => exact ⟨0, 0, by omega, rfl, rfl, Nat.zero_le _, by rw [List.drop_zero]; exact hR0, hR, hB⟩
  case round =>
    clear hR0 hR hB ht1
    obtain ⟨k, s, hk, rfl, rfl, hs, hR0, hR, hB⟩ := hrel
    by_cases hlt : k < N
    · have hd : decide ((k : Int) < (N : Int)) = true := by simp; omega
      obtain ⟨z, hz⟩ : ∃ z, zs[k]? = some z := ⟨_, List.getElem?_eq_getElem (by omega)⟩
      have hik := fst_atT es hz
      obtain ⟨bd, hbd, hcell⟩ := txs_addr (hT.below hB) hz
      obtain ⟨h1, h2⟩ := hT.2 z (List.mem_of_getElem? hz)
      have hi := h1.below hB
      have ho := h2.below hB
      obtain ⟨⟨t, pa, pb⟩, hze⟩ : ∃ y, y = z := ⟨_, rfl⟩
      subst hze
      dsimp only at hik h1 h2 hi ho
      clear hz
      obtain ⟨zi, ei, hzi⟩ := h1
      obtain ⟨zo, eo, hzo⟩ := h2
      obtain ⟨M, hM⟩ : ∃ M, t.ins.length = M := ⟨_, rfl⟩
      obtain ⟨P, hP⟩ : ∃ P, t.outs.length = P := ⟨_, rfl⟩
      have hzM : zi.length = M := by rw [fst_len ei, hM]
      have hzP : zo.length = P := by rw [fst_len eo, hP]
      rw [goT_at hik, hM, hP] at hR0
      clear hik
      obtain ⟨wo, hwo⟩ : ∃ wo, wo = wr := ⟨_, rfl⟩
      subst hwo
      have hg : W0.heap.size ≤ wo.heap.size := hB.size
      have hgl : W0.heap.size < wo.heap.size := hR.lt
      by_cases h2 : 30 < M
      · have d2 : decide ((M : Int) > 30) = true := by simp; omega
        rw [if_pos h2] at hR0
        subst hR0
        clear h2
        go_wp2_with (first
          | ((with_reducible change wpList _ _ _ (Oper.mk (some 18) _ _ _ _ _ :: _) _ _); refine kLssI _ _ _ _ .i64 (k : Int) (N : Int) true rfl rfl rfl rfl hd ?_; go_frame)
          | ((with_reducible change wpList _ _ _ (Oper.mk (some 19) _ _ _ _ _ :: _) _ _); refine kY (yIndexAt _ _ _ v k bd hbd rfl rfl rfl rfl) ?_; go_frame)
          | ((with_reducible change wpList _ _ _ (Oper.mk (some 20) _ _ _ _ _ :: _) _ _); refine kY (yLoadTxAt _ bd (t, pa, pb) (fun _ e => by cases e; exact hcell) rfl rfl rfl) ?_; clear hcell; dsimp only; go_frame)
          | ((with_reducible change wpList _ _ _ (Oper.mk (some 5) _ _ _ _ _ :: _) _ _); refine kAllocL _ _ rfl rfl zero_TxC ?_; intro w1 hV hz1 hBq; clear hz1; have hg1 : Hid (W0.heap.size ≤ wo.heap.size) := hB.size; go_frame)
          | ((with_reducible change wpList _ _ _ (Oper.mk none (Op.store _ (Operand.tmp 5) _) _ _ _ _ :: _) _ _); refine kStoreTx _ _ _ t.version t.end' pa pb _ hV rfl hi.sl.one ho.sl.one rfl rfl rfl rfl ?_; intro w2 hV2 hWq; have hBq2 := hBq.trans (hWq.below (Nat.le_refl _)); have hR2 := hR.below hBq2 hR.lt; clear hR;  have hB2 := hB.trans (hBq2.mono hB.size); have hi2 := hi.below hBq2; have ho2 := ho.below hBq2; clear hBq hWq hB hi ho hV hBq2; go_frame)
          | ((with_reducible change wpList _ _ _ (Oper.mk (some 21) _ _ _ _ _ :: _) _ _); refine kFld txCF1 _ _ 0 1 rfl rfl rfl rfl ?_; go_frame)
          | ((with_reducible change wpList _ _ _ (Oper.mk (some 22) _ _ _ _ _ :: _) _ _); refine kLd Tryz.underlying31 rfl _ _ 1 _ pa hV2 rfl rfl rfl rfl ?_; go_frame)
          | ((with_reducible change wpList _ _ _ (Oper.mk (some 23) _ _ _ _ _ :: _) _ _); refine kLenIns _ pa zi M (hzi.below hB2) hzM rfl rfl rfl ?_; go_frame)
          | ((with_reducible change wpList _ _ _ (Oper.mk (some 24) _ _ _ _ _ :: _) _ _); refine kGtrI _ _ _ _ .i64 (M : Int) 30 _ rfl rfl rfl rfl d2 ?_; go_frame))
        (try simp only [Exit.inBlock, Exit.then])
        refine retBT rfl rfl ?_
        exact ⟨rfl, hB2⟩
      have d2 : decide ((M : Int) > 30) = false := by simp; omega
      rw [if_neg h2] at hR0
      have hM2 : M ≤ 30 := by omega
      clear h2
      by_cases h3 : 30 < P
      · have d3 : decide ((P : Int) > 30) = true := by simp; omega
        rw [if_pos h3] at hR0
        subst hR0
        clear h3
        go_wp2_with (first
          | ((with_reducible change wpList _ _ _ (Oper.mk (some 18) _ _ _ _ _ :: _) _ _); refine kLssI _ _ _ _ .i64 (k : Int) (N : Int) true rfl rfl rfl rfl hd ?_; go_frame)
          | ((with_reducible change wpList _ _ _ (Oper.mk (some 19) _ _ _ _ _ :: _) _ _); refine kY (yIndexAt _ _ _ v k bd hbd rfl rfl rfl rfl) ?_; go_frame)
          | ((with_reducible change wpList _ _ _ (Oper.mk (some 20) _ _ _ _ _ :: _) _ _); refine kY (yLoadTxAt _ bd (t, pa, pb) (fun _ e => by cases e; exact hcell) rfl rfl rfl) ?_; clear hcell; dsimp only; go_frame)
          | ((with_reducible change wpList _ _ _ (Oper.mk (some 5) _ _ _ _ _ :: _) _ _); refine kAllocL _ _ rfl rfl zero_TxC ?_; intro w1 hV hz1 hBq; clear hz1; have hg1 : Hid (W0.heap.size ≤ wo.heap.size) := hB.size; go_frame)
          | ((with_reducible change wpList _ _ _ (Oper.mk none (Op.store _ (Operand.tmp 5) _) _ _ _ _ :: _) _ _); refine kStoreTx _ _ _ t.version t.end' pa pb _ hV rfl hi.sl.one ho.sl.one rfl rfl rfl rfl ?_; intro w2 hV2 hWq; have hBq2 := hBq.trans (hWq.below (Nat.le_refl _)); have hR2 := hR.below hBq2 hR.lt; clear hR;  have hB2 := hB.trans (hBq2.mono hB.size); have hi2 := hi.below hBq2; have ho2 := ho.below hBq2; clear hBq hWq hB hi ho hV hBq2; go_frame)
          | ((with_reducible change wpList _ _ _ (Oper.mk (some 21) _ _ _ _ _ :: _) _ _); refine kFld txCF1 _ _ 0 1 rfl rfl rfl rfl ?_; go_frame)
          | ((with_reducible change wpList _ _ _ (Oper.mk (some 22) _ _ _ _ _ :: _) _ _); refine kLd Tryz.underlying31 rfl _ _ 1 _ pa hV2 rfl rfl rfl rfl ?_; go_frame)
          | ((with_reducible change wpList _ _ _ (Oper.mk (some 23) _ _ _ _ _ :: _) _ _); refine kLenIns _ pa zi M (hzi.below hB2) hzM rfl rfl rfl ?_; go_frame)
          | ((with_reducible change wpList _ _ _ (Oper.mk (some 24) _ _ _ _ _ :: _) _ _); refine kGtrI _ _ _ _ .i64 (M : Int) 30 _ rfl rfl rfl rfl d2 ?_; go_frame)
          | ((with_reducible change wpList _ _ _ (Oper.mk (some 26) _ _ _ _ _ :: _) _ _); refine kFld txCF2 _ _ 0 2 rfl rfl rfl rfl ?_; go_frame)
          | ((with_reducible change wpList _ _ _ (Oper.mk (some 27) _ _ _ _ _ :: _) _ _); refine kLd Tryz.underlying32 rfl _ _ 2 _ pb hV2 rfl rfl rfl rfl ?_; go_frame)
          | ((with_reducible change wpList _ _ _ (Oper.mk (some 28) _ _ _ _ _ :: _) _ _); refine kLenOutsT _ pb zo P (hzo.below hB2) hzP rfl rfl rfl ?_; go_frame)
          | ((with_reducible change wpList _ _ _ (Oper.mk (some 29) _ _ _ _ _ :: _) _ _); refine kGtrI _ _ _ _ .i64 (P : Int) 30 _ rfl rfl rfl rfl d3 ?_; go_frame))
        (try simp only [Exit.inBlock, Exit.then])
        refine retBT rfl rfl ?_
        exact ⟨rfl, hB2⟩
      have d3 : decide ((P : Int) > 30) = false := by simp; omega
      rw [if_neg h3] at hR0
      have hP2 : P ≤ 30 := by omega
      clear h3
      go_wp2_with (first
        | ((with_reducible change wpList _ _ _ (Oper.mk (some 18) _ _ _ _ _ :: _) _ _); refine kLssI _ _ _ _ .i64 (k : Int) (N : Int) true rfl rfl rfl rfl hd ?_; go_frame)
        | ((with_reducible change wpList _ _ _ (Oper.mk (some 19) _ _ _ _ _ :: _) _ _); refine kY (yIndexAt _ _ _ v k bd hbd rfl rfl rfl rfl) ?_; go_frame)
        | ((with_reducible change wpList _ _ _ (Oper.mk (some 20) _ _ _ _ _ :: _) _ _); refine kY (yLoadTxAt _ bd (t, pa, pb) (fun _ e => by cases e; exact hcell) rfl rfl rfl) ?_; clear hcell; dsimp only; go_frame)
        | ((with_reducible change wpList _ _ _ (Oper.mk (some 5) _ _ _ _ _ :: _) _ _); refine kAllocL _ _ rfl rfl zero_TxC ?_; intro w1 hV hz1 hBq; clear hz1; have hg1 : Hid (W0.heap.size ≤ wo.heap.size) := hB.size; go_frame)
        | ((with_reducible change wpList _ _ _ (Oper.mk none (Op.store _ (Operand.tmp 5) _) _ _ _ _ :: _) _ _); refine kStoreTx _ _ _ t.version t.end' pa pb _ hV rfl hi.sl.one ho.sl.one rfl rfl rfl rfl ?_; intro w2 hV2 hWq; have hBq2 := hBq.trans (hWq.below (Nat.le_refl _)); have hR2 := hR.below hBq2 hR.lt; clear hR;  have hB2 := hB.trans (hBq2.mono hB.size); have hi2 := hi.below hBq2; have ho2 := ho.below hBq2; clear hBq hWq hB hi ho hV hBq2; go_frame)
        | ((with_reducible change wpList _ _ _ (Oper.mk (some 21) _ _ _ _ _ :: _) _ _); refine kFld txCF1 _ _ 0 1 rfl rfl rfl rfl ?_; go_frame)
        | ((with_reducible change wpList _ _ _ (Oper.mk (some 22) _ _ _ _ _ :: _) _ _); refine kLd Tryz.underlying31 rfl _ _ 1 _ pa hV2 rfl rfl rfl rfl ?_; go_frame)
        | ((with_reducible change wpList _ _ _ (Oper.mk (some 23) _ _ _ _ _ :: _) _ _); refine kLenIns _ pa zi M (hzi.below hB2) hzM rfl rfl rfl ?_; go_frame)
        | ((with_reducible change wpList _ _ _ (Oper.mk (some 24) _ _ _ _ _ :: _) _ _); refine kGtrI _ _ _ _ .i64 (M : Int) 30 _ rfl rfl rfl rfl d2 ?_; go_frame)
        | ((with_reducible change wpList _ _ _ (Oper.mk (some 26) _ _ _ _ _ :: _) _ _); refine kFld txCF2 _ _ 0 2 rfl rfl rfl rfl ?_; go_frame)
        | ((with_reducible change wpList _ _ _ (Oper.mk (some 27) _ _ _ _ _ :: _) _ _); refine kLd Tryz.underlying32 rfl _ _ 2 _ pb hV2 rfl rfl rfl rfl ?_; go_frame)
        | ((with_reducible change wpList _ _ _ (Oper.mk (some 28) _ _ _ _ _ :: _) _ _); refine kLenOutsT _ pb zo P (hzo.below hB2) hzP rfl rfl rfl ?_; go_frame)
        | ((with_reducible change wpList _ _ _ (Oper.mk (some 29) _ _ _ _ _ :: _) _ _); refine kGtrI _ _ _ _ .i64 (P : Int) 30 _ rfl rfl rfl rfl d3 ?_; go_frame)
        | ((with_reducible change wpList _ _ _ (Oper.mk (some 31) _ _ _ _ _ :: _) _ _); refine kFld txCF1 _ _ 0 1 rfl rfl rfl rfl ?_; go_frame)
        | ((with_reducible change wpList _ _ _ (Oper.mk (some 32) _ _ _ _ _ :: _) _ _); refine kLd Tryz.underlying31 rfl _ _ 1 _ pa hV2 rfl rfl rfl rfl ?_; go_frame)
        | ((with_reducible change wpList _ _ _ (Oper.mk (some 33) _ _ _ _ _ :: _) _ _); refine kLenIns _ pa zi M (hzi.below hB2) hzM rfl rfl rfl ?_; go_frame))
      go_loopw [34, 3] (fun x y wq => ∃ (j q : Nat), j ≤ M ∧ x = .int .i64 (j : Int) ∧ y = .int .i64 (q : Int) ∧ q ≤ k * 200000 + j * 2000 ∧ endG (goI (fun s => goO (fun s => goT s (b.txs.drop (k + 1))) s t.outs) q (t.ins.drop j)) = R ∧ Row wq W0.heap.size 29 (blkC b.head v) ∧ Row wq wo.heap.size 34 (txC t.version pa pb t.end') ∧ Below W0.heap.size W0 wq) (fun x _ _ => M - (intOf x).toNat)
      case atStart => exact ⟨0, s, by omega, rfl, rfl, by rw [Nat.zero_mul, Nat.add_zero]; exact hs, by rw [List.drop_zero]; exact hR0, hR2, hV2, hB2⟩
      case round =>
        clear hR0 hR2 hV2 hB2 hd hk hs
        obtain ⟨j, q, hj, rfl, rfl, hs, hR0, hR, hV, hB⟩ := hrel
        by_cases hlt : j < M
        · have hd : decide ((j : Int) < (M : Int)) = true := by simp; omega
          obtain ⟨⟨i, u⟩, hz⟩ : ∃ z, zi[j]? = some z := ⟨_, List.getElem?_eq_getElem (by omega)⟩
          have hij := fst_at ei hz
          have hu := (hzi.2 _ (List.mem_of_getElem? hz)).below hB
          have har := hzi.below hB
          rw [goI_at hij] at hR0
          clear hij
          dsimp only at hu
          obtain ⟨n, hn⟩ : ∃ n, i.unlock.length = n := ⟨_, rfl⟩
          rw [hn] at hR0
          by_cases h4 : 2000 < n
          · have d4 : decide ((n : Int) > 2000) = true := by simp; omega
            rw [if_pos h4] at hR0
            subst hR0
            obtain ⟨mn, hmn, hmb⟩ : ∃ mn : Int, (if (100000 : Int) < (n : Int) then (100000 : Int) else (n : Int)) = mn ∧ 0 ≤ mn ∧ mn ≤ 100000 := ⟨_, rfl, by split <;> omega⟩
            clear h4
            go_wp2_with (first
              | ((with_reducible change wpList _ _ _ (Oper.mk (some 35) _ _ _ _ _ :: _) _ _); refine kLssI _ _ _ _ .i64 (j : Int) (M : Int) true rfl rfl rfl rfl hd ?_; go_frame)
              | ((with_reducible change wpList _ _ _ (Oper.mk (some 36) _ _ _ _ _ :: _) _ _); refine kIndexIn _ _ pa zi j (i, u) har hz rfl rfl rfl rfl ?_; intro bb hbb; go_frame)
              | ((with_reducible change wpList _ _ _ (Oper.mk (some 37) _ _ _ _ _ :: _) _ _); refine kLoadInAt _ bb i u hbb rfl rfl rfl ?_; clear hbb har; go_frame)
              | ((with_reducible change wpList _ _ _ (Oper.mk (some 7) _ _ _ _ _ :: _) _ _); refine kAllocL _ _ rfl rfl zero_InC ?_; intro w5 hR5 hz5 hBq; clear hz5; have hWq0 : Hid (W0.heap.size ≤ wr.heap.size) := hB.size; go_frame)
              | ((with_reducible change wpList _ _ _ (Oper.mk none (Op.store _ (Operand.tmp 7) _) _ _ _ _ :: _) _ _); refine kStoreIn _ _ _ i u _ hR5 (inC_size _ _) hu.sl.one rfl rfl rfl rfl ?_; intro w6 hR6 hW6; have hBn := hBq.trans (hW6.below (Nat.le_refl _)); have hRn := hR.below hBn hR.lt; have hVn := hV.below hBn hV.lt; have hBm := hB.trans (hBn.mono hB.size); have hun := hu.below hBn; clear hR5 hW6 hBq hR hV hB hu hBn hWq0; go_frame)
              | ((with_reducible change wpList _ _ _ (Oper.mk (some 39) _ _ _ _ _ :: _) _ _); refine kFld inCF1 _ _ 0 33 rfl rfl rfl rfl ?_; go_frame)
              | ((with_reducible change wpList _ _ _ (Oper.mk (some 40) _ _ _ _ _ :: _) _ _); refine kLd Tryz.underlying38 rfl _ _ 33 _ u hR6 (inC_33 _ _) rfl rfl rfl ?_; go_frame)
              | ((with_reducible change wpList _ _ _ (Oper.mk (some 41) _ _ _ _ _ :: _) _ _); refine kLenN _ _ _ u _ n rfl rfl rfl hun (by rw [List.length_map, hn]) Tryz.underlying38 ?_; go_frame)
              | ((with_reducible change wpList _ _ _ (Oper.mk (some 42) _ _ _ _ _ :: _) _ _); refine kMinZ _ _ (n : Int) 100000 mn hmn rfl rfl rfl rfl ?_; go_frame)
              | ((with_reducible change wpList _ _ _ (Oper.mk (some 43) _ _ _ _ _ :: _) _ _); refine kAddI _ _ _ _ (q : Int) mn ((q : Int) + mn) (by omega) rfl rfl rfl rfl ?_; go_frame)
              | ((with_reducible change wpList _ _ _ (Oper.mk (some 44) _ _ _ _ _ :: _) _ _); refine kFld inCF1 _ _ 0 33 rfl rfl rfl rfl ?_; go_frame)
              | ((with_reducible change wpList _ _ _ (Oper.mk (some 45) _ _ _ _ _ :: _) _ _); refine kLd Tryz.underlying38 rfl _ _ 33 _ u hR6 (inC_33 _ _) rfl rfl rfl ?_; go_frame)
              | ((with_reducible change wpList _ _ _ (Oper.mk (some 46) _ _ _ _ _ :: _) _ _); refine kLenN _ _ _ u _ n rfl rfl rfl hun (by rw [List.length_map, hn]) Tryz.underlying38 ?_; go_frame)
              | ((with_reducible change wpList _ _ _ (Oper.mk (some 47) _ _ _ _ _ :: _) _ _); refine kGtrI _ _ _ _ .i64 (n : Int) 2000 _ rfl rfl rfl rfl d4 ?_; go_frame))
            (try simp only [Exit.inBlock, Exit.then])
            refine retBT rfl rfl ?_
            exact ⟨rfl, hBm⟩
          · have d4 : decide ((n : Int) > 2000) = false := by simp; omega
            rw [if_neg h4] at hR0
            have hn2 : n ≤ 2000 := by omega
            clear h4
            go_wp2_with (first
              | ((with_reducible change wpList _ _ _ (Oper.mk (some 35) _ _ _ _ _ :: _) _ _); refine kLssI _ _ _ _ .i64 (j : Int) (M : Int) true rfl rfl rfl rfl hd ?_; go_frame)
              | ((with_reducible change wpList _ _ _ (Oper.mk (some 36) _ _ _ _ _ :: _) _ _); refine kIndexIn _ _ pa zi j (i, u) har hz rfl rfl rfl rfl ?_; intro bb hbb; go_frame)
              | ((with_reducible change wpList _ _ _ (Oper.mk (some 37) _ _ _ _ _ :: _) _ _); refine kLoadInAt _ bb i u hbb rfl rfl rfl ?_; clear hbb har; go_frame)
              | ((with_reducible change wpList _ _ _ (Oper.mk (some 7) _ _ _ _ _ :: _) _ _); refine kAllocL _ _ rfl rfl zero_InC ?_; intro w5 hR5 hz5 hBq; clear hz5; have hWq0 : Hid (W0.heap.size ≤ wr.heap.size) := hB.size; go_frame)
              | ((with_reducible change wpList _ _ _ (Oper.mk none (Op.store _ (Operand.tmp 7) _) _ _ _ _ :: _) _ _); refine kStoreIn _ _ _ i u _ hR5 (inC_size _ _) hu.sl.one rfl rfl rfl rfl ?_; intro w6 hR6 hW6; have hBn := hBq.trans (hW6.below (Nat.le_refl _)); have hRn := hR.below hBn hR.lt; have hVn := hV.below hBn hV.lt; have hBm := hB.trans (hBn.mono hB.size); have hun := hu.below hBn; clear hR5 hW6 hBq hR hV hB hu hBn hWq0; go_frame)
              | ((with_reducible change wpList _ _ _ (Oper.mk (some 39) _ _ _ _ _ :: _) _ _); refine kFld inCF1 _ _ 0 33 rfl rfl rfl rfl ?_; go_frame)
              | ((with_reducible change wpList _ _ _ (Oper.mk (some 40) _ _ _ _ _ :: _) _ _); refine kLd Tryz.underlying38 rfl _ _ 33 _ u hR6 (inC_33 _ _) rfl rfl rfl ?_; go_frame)
              | ((with_reducible change wpList _ _ _ (Oper.mk (some 41) _ _ _ _ _ :: _) _ _); refine kLenN _ _ _ u _ n rfl rfl rfl hun (by rw [List.length_map, hn]) Tryz.underlying38 ?_; go_frame)
              | ((with_reducible change wpList _ _ _ (Oper.mk (some 42) _ _ _ _ _ :: _) _ _); refine kMinZ _ _ (n : Int) 100000 (n : Int) (by rw [if_neg (by omega)]) rfl rfl rfl rfl ?_; go_frame)
              | ((with_reducible change wpList _ _ _ (Oper.mk (some 43) _ _ _ _ _ :: _) _ _); refine kAddI _ _ _ _ (q : Int) (n : Int) ((q + n : Nat) : Int) (by omega) rfl rfl rfl rfl ?_; go_frame)
              | ((with_reducible change wpList _ _ _ (Oper.mk (some 44) _ _ _ _ _ :: _) _ _); refine kFld inCF1 _ _ 0 33 rfl rfl rfl rfl ?_; go_frame)
              | ((with_reducible change wpList _ _ _ (Oper.mk (some 45) _ _ _ _ _ :: _) _ _); refine kLd Tryz.underlying38 rfl _ _ 33 _ u hR6 (inC_33 _ _) rfl rfl rfl ?_; go_frame)
              | ((with_reducible change wpList _ _ _ (Oper.mk (some 46) _ _ _ _ _ :: _) _ _); refine kLenN _ _ _ u _ n rfl rfl rfl hun (by rw [List.length_map, hn]) Tryz.underlying38 ?_; go_frame)
              | ((with_reducible change wpList _ _ _ (Oper.mk (some 47) _ _ _ _ _ :: _) _ _); refine kGtrI _ _ _ _ .i64 (n : Int) 2000 _ rfl rfl rfl rfl d4 ?_; go_frame)
              | ((with_reducible change wpList _ _ _ (Oper.mk (some 48) _ _ _ _ _ :: _) _ _); refine kAddI _ _ _ _ (j : Int) 1 ((j + 1 : Nat) : Int) (by omega) rfl rfl rfl rfl ?_; go_frame))
            go_roundw
            case rel => exact ⟨j + 1, q + n, by omega, rfl, rfl, by omega, hR0, hRn, hVn, hBm⟩
            case measure => simp [intOf]; omega
        · have hd : decide ((j : Int) < (M : Int)) = false := by simp; omega
          have hs2 : q ≤ k * 200000 + 60000 := by omega
          have hR1 : endG (goO (fun s => goT s (b.txs.drop (k + 1))) q t.outs) = R := by rw [← hR0, List.drop_of_length_le (l := t.ins) (by omega)]; rfl
          clear hR0 hs hj hlt
          have hzo2 := hzo.below hB
          go_wp2_with (first
            | ((with_reducible change wpList _ _ _ (Oper.mk (some 35) _ _ _ _ _ :: _) _ _); refine kLssI _ _ _ _ .i64 (j : Int) (M : Int) false rfl rfl rfl rfl hd ?_; go_frame)
            | ((with_reducible change wpList _ _ _ (Oper.mk (some 49) _ _ _ _ _ :: _) _ _); refine kFld txCF2 _ _ 0 2 rfl rfl rfl rfl ?_; go_frame)
            | ((with_reducible change wpList _ _ _ (Oper.mk (some 50) _ _ _ _ _ :: _) _ _); refine kLd Tryz.underlying32 rfl _ _ 2 _ pb hV rfl rfl rfl rfl ?_; go_frame)
            | ((with_reducible change wpList _ _ _ (Oper.mk (some 51) _ _ _ _ _ :: _) _ _); refine kLenOutsT _ pb zo P hzo2 hzP rfl rfl rfl ?_; go_frame))
          go_loopw [52, 3] (fun x y wq => ∃ (p q : Nat), p ≤ P ∧ x = .int .i64 (p : Int) ∧ y = .int .i64 (q : Int) ∧ q ≤ k * 200000 + 60000 + p * 2000 ∧ endG (goO (fun s => goT s (b.txs.drop (k + 1))) q (t.outs.drop p)) = R ∧ Row wq W0.heap.size 29 (blkC b.head v) ∧ Row wq wo.heap.size 34 (txC t.version pa pb t.end') ∧ Below W0.heap.size W0 wq) (fun x _ _ => P - (intOf x).toNat)
          case atStart => exact ⟨0, q, by omega, rfl, rfl, by rw [Nat.zero_mul, Nat.add_zero]; exact hs2, by rw [List.drop_zero]; exact hR1, hR, hV, hB⟩
          case round =>
            clear hR1 hR hV hB hd hs2 hzo2
            obtain ⟨p, q, hp, rfl, rfl, hs, hR0, hR, hV, hB⟩ := hrel
            by_cases hlt : p < P
            · have hd : decide ((p : Int) < (P : Int)) = true := by simp; omega
              obtain ⟨⟨⟨i, l⟩, u⟩, hz⟩ : ∃ z, zo[p]? = some z := ⟨_, List.getElem?_eq_getElem (by omega)⟩
              have hij := fst_at eo hz
              have hu := (hzo.2 _ (List.mem_of_getElem? hz)).below hB
              have har := hzo.below hB
              rw [goO_at hij] at hR0
              clear hij
              dsimp only at hu hR0
              obtain ⟨n, hn⟩ : ∃ n, l.length = n := ⟨_, rfl⟩
              rw [hn] at hR0
              by_cases h4 : 2000 < n
              · have d4 : decide ((n : Int) > 2000) = true := by simp; omega
                rw [if_pos h4] at hR0
                subst hR0
                obtain ⟨mn, hmn, hmb⟩ : ∃ mn : Int, (if (100000 : Int) < (n : Int) then (100000 : Int) else (n : Int)) = mn ∧ 0 ≤ mn ∧ mn ≤ 100000 := ⟨_, rfl, by split <;> omega⟩
                clear h4
                go_wp2_with (first
                  | ((with_reducible change wpList _ _ _ (Oper.mk (some 53) _ _ _ _ _ :: _) _ _); refine kLssI _ _ _ _ .i64 (p : Int) (P : Int) true rfl rfl rfl rfl hd ?_; go_frame)
                  | ((with_reducible change wpList _ _ _ (Oper.mk (some 54) _ _ _ _ _ :: _) _ _); refine kIndexOutT _ _ pb zo p ((i, l), u) har hz rfl rfl rfl rfl ?_; intro bb hbb; go_frame)
                  | ((with_reducible change wpList _ _ _ (Oper.mk (some 55) _ _ _ _ _ :: _) _ _); refine kLoadOutT _ bb i l u hbb rfl rfl rfl ?_; clear hbb har; go_frame)
                  | ((with_reducible change wpList _ _ _ (Oper.mk (some 9) _ _ _ _ _ :: _) _ _); refine kAllocL _ _ rfl rfl zero_OutC ?_; intro w5 hR5 hz5 hBq; clear hz5; have hWq0 : Hid (W0.heap.size ≤ wr.heap.size) := hB.size; go_frame)
                  | ((with_reducible change wpList _ _ _ (Oper.mk none (Op.store _ (Operand.tmp 9) _) _ _ _ _ :: _) _ _); refine kStoreOut _ _ _ i u _ hR5 rfl hu rfl rfl rfl rfl ?_; intro w6 hR6 hW6; have hBn := hBq.trans (hW6.below (Nat.le_refl _)); have hRn := hR.below hBn hR.lt; have hVn := hV.below hBn hV.lt; have hBm := hB.trans (hBn.mono hB.size); have hun := hu.below hBn; clear hR5 hW6 hBq hR hV hB hu hBn hWq0; go_frame)
                  | ((with_reducible change wpList _ _ _ (Oper.mk (some 57) _ _ _ _ _ :: _) _ _); refine kFld outCF1 _ _ 0 1 rfl rfl rfl rfl ?_; go_frame)
                  | ((with_reducible change wpList _ _ _ (Oper.mk (some 58) _ _ _ _ _ :: _) _ _); refine kLd Tryz.underlying38 rfl _ _ 1 _ u hR6 rfl rfl rfl rfl ?_; go_frame)
                  | ((with_reducible change wpList _ _ _ (Oper.mk (some 59) _ _ _ _ _ :: _) _ _); refine kLenN _ _ _ u _ n rfl rfl rfl hun (by rw [List.length_map, hn]) Tryz.underlying38 ?_; go_frame)
                  | ((with_reducible change wpList _ _ _ (Oper.mk (some 60) _ _ _ _ _ :: _) _ _); refine kMinZ _ _ (n : Int) 100000 mn hmn rfl rfl rfl rfl ?_; go_frame)
                  | ((with_reducible change wpList _ _ _ (Oper.mk (some 61) _ _ _ _ _ :: _) _ _); refine kAddI _ _ _ _ (q : Int) mn ((q : Int) + mn) (by omega) rfl rfl rfl rfl ?_; go_frame)
                  | ((with_reducible change wpList _ _ _ (Oper.mk (some 62) _ _ _ _ _ :: _) _ _); refine kFld outCF1 _ _ 0 1 rfl rfl rfl rfl ?_; go_frame)
                  | ((with_reducible change wpList _ _ _ (Oper.mk (some 63) _ _ _ _ _ :: _) _ _); refine kLd Tryz.underlying38 rfl _ _ 1 _ u hR6 rfl rfl rfl rfl ?_; go_frame)
                  | ((with_reducible change wpList _ _ _ (Oper.mk (some 64) _ _ _ _ _ :: _) _ _); refine kLenN _ _ _ u _ n rfl rfl rfl hun (by rw [List.length_map, hn]) Tryz.underlying38 ?_; go_frame)
                  | ((with_reducible change wpList _ _ _ (Oper.mk (some 65) _ _ _ _ _ :: _) _ _); refine kGtrI _ _ _ _ .i64 (n : Int) 2000 _ rfl rfl rfl rfl d4 ?_; go_frame))
                (try simp only [Exit.inBlock, Exit.then])
                refine retBT rfl rfl ?_
                exact ⟨rfl, hBm⟩
              · have d4 : decide ((n : Int) > 2000) = false := by simp; omega
                rw [if_neg h4] at hR0
                have hn2 : n ≤ 2000 := by omega
                clear h4
                go_wp2_with (first
                  | ((with_reducible change wpList _ _ _ (Oper.mk (some 53) _ _ _ _ _ :: _) _ _); refine kLssI _ _ _ _ .i64 (p : Int) (P : Int) true rfl rfl rfl rfl hd ?_; go_frame)
                  | ((with_reducible change wpList _ _ _ (Oper.mk (some 54) _ _ _ _ _ :: _) _ _); refine kIndexOutT _ _ pb zo p ((i, l), u) har hz rfl rfl rfl rfl ?_; intro bb hbb; go_frame)
                  | ((with_reducible change wpList _ _ _ (Oper.mk (some 55) _ _ _ _ _ :: _) _ _); refine kLoadOutT _ bb i l u hbb rfl rfl rfl ?_; clear hbb har; go_frame)
                  | ((with_reducible change wpList _ _ _ (Oper.mk (some 9) _ _ _ _ _ :: _) _ _); refine kAllocL _ _ rfl rfl zero_OutC ?_; intro w5 hR5 hz5 hBq; clear hz5; have hWq0 : Hid (W0.heap.size ≤ wr.heap.size) := hB.size; go_frame)
                  | ((with_reducible change wpList _ _ _ (Oper.mk none (Op.store _ (Operand.tmp 9) _) _ _ _ _ :: _) _ _); refine kStoreOut _ _ _ i u _ hR5 rfl hu rfl rfl rfl rfl ?_; intro w6 hR6 hW6; have hBn := hBq.trans (hW6.below (Nat.le_refl _)); have hRn := hR.below hBn hR.lt; have hVn := hV.below hBn hV.lt; have hBm := hB.trans (hBn.mono hB.size); have hun := hu.below hBn; clear hR5 hW6 hBq hR hV hB hu hBn hWq0; go_frame)
                  | ((with_reducible change wpList _ _ _ (Oper.mk (some 57) _ _ _ _ _ :: _) _ _); refine kFld outCF1 _ _ 0 1 rfl rfl rfl rfl ?_; go_frame)
                  | ((with_reducible change wpList _ _ _ (Oper.mk (some 58) _ _ _ _ _ :: _) _ _); refine kLd Tryz.underlying38 rfl _ _ 1 _ u hR6 rfl rfl rfl rfl ?_; go_frame)
                  | ((with_reducible change wpList _ _ _ (Oper.mk (some 59) _ _ _ _ _ :: _) _ _); refine kLenN _ _ _ u _ n rfl rfl rfl hun (by rw [List.length_map, hn]) Tryz.underlying38 ?_; go_frame)
                  | ((with_reducible change wpList _ _ _ (Oper.mk (some 60) _ _ _ _ _ :: _) _ _); refine kMinZ _ _ (n : Int) 100000 (n : Int) (by rw [if_neg (by omega)]) rfl rfl rfl rfl ?_; go_frame)
                  | ((with_reducible change wpList _ _ _ (Oper.mk (some 61) _ _ _ _ _ :: _) _ _); refine kAddI _ _ _ _ (q : Int) (n : Int) ((q + n : Nat) : Int) (by omega) rfl rfl rfl rfl ?_; go_frame)
                  | ((with_reducible change wpList _ _ _ (Oper.mk (some 62) _ _ _ _ _ :: _) _ _); refine kFld outCF1 _ _ 0 1 rfl rfl rfl rfl ?_; go_frame)
                  | ((with_reducible change wpList _ _ _ (Oper.mk (some 63) _ _ _ _ _ :: _) _ _); refine kLd Tryz.underlying38 rfl _ _ 1 _ u hR6 rfl rfl rfl rfl ?_; go_frame)
                  | ((with_reducible change wpList _ _ _ (Oper.mk (some 64) _ _ _ _ _ :: _) _ _); refine kLenN _ _ _ u _ n rfl rfl rfl hun (by rw [List.length_map, hn]) Tryz.underlying38 ?_; go_frame)
                  | ((with_reducible change wpList _ _ _ (Oper.mk (some 65) _ _ _ _ _ :: _) _ _); refine kGtrI _ _ _ _ .i64 (n : Int) 2000 _ rfl rfl rfl rfl d4 ?_; go_frame)
                  | ((with_reducible change wpList _ _ _ (Oper.mk (some 66) _ _ _ _ _ :: _) _ _); refine kAddI _ _ _ _ (p : Int) 1 ((p + 1 : Nat) : Int) (by omega) rfl rfl rfl rfl ?_; go_frame))
                go_roundw
                case rel => exact ⟨p + 1, q + n, by omega, rfl, rfl, by omega, hR0, hRn, hVn, hBm⟩
                case measure => simp [intOf]; omega
            · have hd : decide ((p : Int) < (P : Int)) = false := by simp; omega
              have hR1 : endG (goT q (b.txs.drop (k + 1))) = R := by rw [← hR0, List.drop_of_length_le (l := t.outs) (by omega)]; rfl
              have hs2 : q ≤ (k + 1) * 200000 := by omega
              clear hR0 hs
              go_wp2_with (first
                | ((with_reducible change wpList _ _ _ (Oper.mk (some 53) _ _ _ _ _ :: _) _ _); refine kLssI _ _ _ _ .i64 (p : Int) (P : Int) false rfl rfl rfl rfl hd ?_; go_frame)
                | ((with_reducible change wpList _ _ _ (Oper.mk (some 67) _ _ _ _ _ :: _) _ _); refine kAddI _ _ _ _ (k : Int) 1 ((k + 1 : Nat) : Int) (by omega) rfl rfl rfl rfl ?_; go_frame))
              go_roundw
              case rel => exact ⟨k + 1, q, by omega, rfl, rfl, hs2, hR1, hR, hB⟩
              case measure => simp [intOf]; omega
    · have hd : decide ((k : Int) < (N : Int)) = false := by simp; omega
      have hR1 : decide ((s : Int) > 30000) = R := by rw [← hR0, List.drop_of_length_le (by omega)]; exact decide_eq_decide.2 (by omega)
      clear hR0
      go_wp2_with (first
        | ((with_reducible change wpList _ _ _ (Oper.mk (some 18) _ _ _ _ _ :: _) _ _); refine kLssI _ _ _ _ .i64 (k : Int) (N : Int) false rfl rfl rfl rfl hd ?_; go_frame)
        | ((with_reducible change wpList _ _ _ (Oper.mk (some 69) _ _ _ _ _ :: _) _ _); refine kGtrI _ _ _ _ .i64 (s : Int) 30000 _ rfl rfl rfl rfl hR1 ?_; go_frame))
      go_ret
      exact ⟨rfl, hB⟩
end Go.Proofs.YtmfjgehlkbndjaaGreatDoor
