/-
  Layer 10: can it be: the program's Check.
-/
import Derived.Test.YtaoaecbdjdcpdaaDoorTxTwice
namespace Go.Proofs.YtaoaecbdjdcpdaaDoor
open Go Go.RowKit

def badI (b : Bool) (i : InP) : Bool := bif b then (decide (i.unlock.length < 2) || decide (100 < i.unlock.length)) else nullI i
def comesB (is : List InP) : Bool := !(is.any (badI (baseB is)))
def checkN (t : TxP) : Int := bif decide (t.ins.length = 0) then 101 else bif decide (t.outs.length = 0) then 101 else bif decide (5000 < (txL t).length) then 101 else bif (sumS 0 (t.outs.map Prod.fst)).isNone then 91 else bif dupB t.ins then 101 else bif comesB t.ins then 0 else 101
theorem inC_33i (i : InP) (u : Value) : (inR (i, u))[33]? = some u := by simp [inR]
section
variable {ops : Array Oper} {Q : Exit → Act → World → Prop} {rest : List Oper} {o : Oper} {a : Act} {w : World}
/-- the only one -/
theorem kIndexIn1 (x y : Operand) (v : Value) (i : InP) (k : Int) (hv : InsOf w v [i]) (ho : o.op = .indexAddr 23 x y) (hg : Region.wanted o (yielded ops a.tmps) = true) (hx : a.eval x = v) (hk : k = 0) (hy : a.eval y = .int .i64 k)
    (h : ∀ (b : Addr) (u : Value), (∀ (j : Nat) (t : Value), (inR (i, u))[j]? = some t → w.cell? (b.add j) = some t) → IsVals w u (i.unlock.map VB) → wpList Tryd.prog ops Q rest (a.put o.dst (.pointer (some b))) w) : wpList Tryd.prog ops Q (o :: rest) a w := by
  subst hk
  obtain ⟨zs, es, hz⟩ := hv
  match zs, es, hz with
  | [(j, u)], es, hz =>
    simp at es
    subst es
    exact kIndexIn x y v _ 0 (j, u) hz rfl ho hg hx hy fun b hb => h b u hb (hz.2 (j, u) (by simp))
  | [], es, _ => simp at es
  | x :: y :: zs, es, _ => simp at es
end
theorem baseB_one {is : List InP} (h : baseB is = true) : ∃ i, is = [i] := by
  match is, h with
  | [i], _ => exact ⟨i, rfl⟩
  | [], h => cases h
  | i :: j :: is, h => cases h
theorem any_step {p : InP → Bool} {is : List InP} {k : Nat} {i : InP} (h : is[k]? = some i) : (is.drop k).any p = (p i || (is.drop (k + 1)).any p) := by
  obtain ⟨hk, rfl⟩ := List.getElem?_eq_some_iff.1 h
  rw [List.drop_eq_getElem_cons hk]; rfl
set_option maxRecDepth 100000 in
set_option maxHeartbeats 8000000 in
theorem insIndex_any {is : List InP} {a : Value} (W0 : World) (ha : InsOf W0 a is) (hid : ∀ i ∈ is, i.id.length = 32) (hlen : is.length ≤ 1000) : Calls Tryd.prog 83 #[a, .func (.func 38) #[] #[]] W0 fun e w' => ∃ z : Int, e = .returned (.int .i64 z) ∧ decide (z ≥ 0) = is.any nullI ∧ Below W0.heap.size W0 w' := by
  obtain ⟨zs, es, ha⟩ := ha
  obtain ⟨N, hN⟩ : ∃ N, zs.length = N := ⟨_, rfl⟩
  have hiN : is.length = N := by rw [← fst_len es, hN]
  obtain ⟨R, hR⟩ : ∃ R, is.any nullI = R := ⟨_, rfl⟩
  rw [hR]
  go_enter Tryd.func83, Tryd.ntmps83
  go_wp2_with (first
    | ((with_reducible change wpList _ _ _ (Oper.mk (some 7) _ _ _ _ _ :: _) _ _); refine kLenIns _ a zs N ha hN rfl rfl rfl ?_; go_frame))
  go_loopw [8] (fun x wr => ∃ k : Nat, k ≤ N ∧ x = .int .i64 (k : Int) ∧ (is.drop k).any nullI = R ∧ Below W0.heap.size W0 wr) (fun x _ => N - (intOf x).toNat)
  case atStart => exact ⟨0, by omega, rfl, by rw [List.drop_zero]; exact hR, Below.refl _ _⟩
  case round =>
    clear hR
    obtain ⟨k, hk, rfl, hR, hB⟩ := hrel
    by_cases hlt : k < N
    · have hd : decide ((k : Int) < (N : Int)) = true := by simp; omega
      obtain ⟨⟨i, u⟩, hz⟩ : ∃ z, zs[k]? = some z := ⟨_, List.getElem?_eq_getElem (by omega)⟩
      have hik := fst_at es hz
      have hii := hid i (List.mem_of_getElem? hik)
      have har := ha.below hB
      rw [any_step hik] at hR
      obtain ⟨c, hc⟩ : ∃ c, nullI i = c := ⟨_, rfl⟩
      rw [hc] at hR
      cases c
      · rw [Bool.false_or] at hR
        go_wp2_with (first
          | ((with_reducible change wpList _ _ _ (Oper.mk (some 9) _ _ _ _ _ :: _) _ _); refine kLssI _ _ _ _ .i64 (k : Int) (N : Int) true rfl rfl rfl rfl hd ?_; go_frame)
          | ((with_reducible change wpList _ _ _ (Oper.mk (some 14) _ _ _ _ _ :: _) _ _); refine kIndexIn _ _ a zs k (i, u) har hz rfl rfl rfl rfl ?_; intro bb hbb; go_frame)
          | ((with_reducible change wpList _ _ _ (Oper.mk (some 15) _ _ _ _ _ :: _) _ _); refine kLoadInAt _ bb i u hbb rfl rfl rfl ?_; clear hbb har; go_frame)
          | (go_at_call 38; refine (tNull_any _ hii).mono ?_; rintro e w2 ⟨rfl, hBq⟩; have hB2 := hB.trans (hBq.mono hB.size); rw [hc]; clear hBq hB; go_frame)
          | ((with_reducible change wpList _ _ _ (Oper.mk (some 18) _ _ _ _ _ :: _) _ _); refine kAddI _ _ _ _ (k : Int) 1 ((k + 1 : Nat) : Int) (by omega) rfl rfl rfl rfl ?_; go_frame))
        go_roundw
        case rel => exact ⟨k + 1, by omega, rfl, hR, hB2⟩
        case measure => simp [intOf]; omega
      · rw [Bool.true_or] at hR
        subst hR
        go_wp2_with (first
          | ((with_reducible change wpList _ _ _ (Oper.mk (some 9) _ _ _ _ _ :: _) _ _); refine kLssI _ _ _ _ .i64 (k : Int) (N : Int) true rfl rfl rfl rfl hd ?_; go_frame)
          | ((with_reducible change wpList _ _ _ (Oper.mk (some 14) _ _ _ _ _ :: _) _ _); refine kIndexIn _ _ a zs k (i, u) har hz rfl rfl rfl rfl ?_; intro bb hbb; go_frame)
          | ((with_reducible change wpList _ _ _ (Oper.mk (some 15) _ _ _ _ _ :: _) _ _); refine kLoadInAt _ bb i u hbb rfl rfl rfl ?_; clear hbb har; go_frame)
          | (go_at_call 38; refine (tNull_any _ hii).mono ?_; rintro e w2 ⟨rfl, hBq⟩; have hB2 := hB.trans (hBq.mono hB.size); rw [hc]; clear hBq hB; go_frame)
          | ((with_reducible change wpList _ _ _ (Oper.mk (some 18) _ _ _ _ _ :: _) _ _); refine kAddI _ _ _ _ (k : Int) 1 ((k + 1 : Nat) : Int) (by omega) rfl rfl rfl rfl ?_; go_frame))
        (try simp only [Exit.inBlock, Exit.then])
        refine retBT rfl rfl ?_
        exact ⟨(k : Int), rfl, by simp, hB2⟩
    · have hd : decide ((k : Int) < (N : Int)) = false := by simp; omega
      have hR1 : false = R := by rw [← hR, List.drop_of_length_le (by omega)]; rfl
      subst hR1
      go_wp2_with (first
        | ((with_reducible change wpList _ _ _ (Oper.mk (some 9) _ _ _ _ _ :: _) _ _); refine kLssI _ _ _ _ .i64 (k : Int) (N : Int) false rfl rfl rfl rfl hd ?_; go_frame))
      go_ret
      exact ⟨-1, rfl, by decide, hB⟩
set_option maxRecDepth 100000 in
set_option maxHeartbeats 8000000 in
theorem insHas_any {is : List InP} {a : Value} (W0 : World) (ha : InsOf W0 a is) (hid : ∀ i ∈ is, i.id.length = 32) (hlen : is.length ≤ 1000) : Calls Tryd.prog 67 #[a, .func (.func 38) #[] #[]] W0 (BoolPost W0 (is.any nullI)) := by
  go_enter Tryd.func67, Tryd.ntmps67
  go_wp2_with (first
    | (go_at_call 83; refine (insIndex_any _ ha hid hlen).mono ?_; rintro e w1 ⟨z, rfl, hz, hB⟩; go_frame)
    | ((with_reducible change wpList _ _ _ (Oper.mk (some 8) _ _ _ _ _ :: _) _ _); refine kGeqI _ _ _ _ .i64 z 0 _ rfl rfl rfl rfl hz ?_; go_frame))
  go_ret
  exact ⟨rfl, hB⟩
set_option maxRecDepth 100000 in
set_option maxHeartbeats 8000000 in
theorem tComes_any {is : List InP} {n e : Nat} {a b : Value} (W0 : World) (ha : InsOf W0 a is) (hid : ∀ i ∈ is, i.id.length = 32) (hlen : is.length ≤ 1000) : Calls Tryd.prog 37 #[.agg (txC n a b e)] W0 (BoolPost W0 (comesB is)) := by
  unfold comesB
  obtain ⟨bb, hbb⟩ : ∃ bb, baseB is = bb := ⟨_, rfl⟩
  rw [hbb]
  cases bb
  · rw [show is.any (badI false) = is.any nullI by congr 1]
    go_enter Tryd.func37, Tryd.ntmps37
    go_wp2_with (first
      | ((with_reducible change wpList _ _ _ (Oper.mk (some 1) _ _ _ _ _ :: _) _ _); refine kBoxL _ _ _ rfl rfl rfl ?_; intro w1 hR hz1 hB; have ha1 := ha.below hB; clear hz1; go_frame)
      | ((with_reducible change wpList _ _ _ (Oper.mk (some 4) _ _ _ _ _ :: _) _ _); refine kLoadTx _ _ n e a b hR rfl rfl rfl ?_; go_frame)
      | (go_at_call 14; refine (tBase_any _ ha1 hid).mono ?_; rintro e w2 ⟨rfl, hBq⟩; rw [hbb]; have hB2 := hB.trans (hBq.mono hB.size); have ha2 := ha1.below hBq; have hR2 := hR.below hBq hR.lt; clear hB hBq ha1 hR; go_frame)
      | ((with_reducible change wpList _ _ _ (Oper.mk (some 18) _ _ _ _ _ :: _) _ _); refine kFld txCF1 _ _ 0 1 rfl rfl rfl rfl ?_; go_frame)
      | ((with_reducible change wpList _ _ _ (Oper.mk (some 19) _ _ _ _ _ :: _) _ _); refine kLd Tryd.underlying23 rfl _ _ 1 _ a hR2 rfl rfl rfl rfl ?_; go_frame)
      | (go_at_call 67; refine (insHas_any _ ha2 hid hlen).mono ?_; rintro e w3 ⟨rfl, hBq⟩; have hB3 := hB2.trans (hBq.mono hB2.size); clear hBq; go_frame)
      | ((with_reducible change wpList _ _ _ (Oper.mk (some 21) _ _ _ _ _ :: _) _ _); refine kNot _ _ _ rfl rfl rfl ?_; go_frame))
    go_ret
    exact ⟨rfl, hB3⟩
  · obtain ⟨i, rfl⟩ := baseB_one hbb
    obtain ⟨N, hN⟩ : ∃ N, i.unlock.length = N := ⟨_, rfl⟩
    have hs : (!([i].any (badI true))) = (decide (2 ≤ N) && decide (N ≤ 100)) := by
      rw [← hN, Bool.eq_iff_iff]
      simp [badI]
    rw [hs]
    obtain ⟨c1, h1⟩ : ∃ c, decide (2 ≤ N) = c := ⟨_, rfl⟩
    obtain ⟨c2, h2⟩ : ∃ c, decide (N ≤ 100) = c := ⟨_, rfl⟩
    rw [h1, h2]
    have h1' : decide ((N : Int) ≥ 2) = c1 := by rw [← h1]; exact decide_eq_decide.2 (by omega)
    have h2' : decide ((N : Int) ≤ 100) = c2 := by rw [← h2]; exact decide_eq_decide.2 (by omega)
    clear h1 h2 hs
    cases c1
    · go_enter Tryd.func37, Tryd.ntmps37
      go_wp2_with (first
        | ((with_reducible change wpList _ _ _ (Oper.mk (some 1) _ _ _ _ _ :: _) _ _); refine kBoxL _ _ _ rfl rfl rfl ?_; intro w1 hR hz1 hB; have ha1 := ha.below hB; clear hz1; go_frame)
        | ((with_reducible change wpList _ _ _ (Oper.mk (some 4) _ _ _ _ _ :: _) _ _); refine kLoadTx _ _ n e a b hR rfl rfl rfl ?_; go_frame)
        | (go_at_call 14; refine (tBase_any _ ha1 hid).mono ?_; rintro e w2 ⟨rfl, hBq⟩; rw [hbb]; have hB2 := hB.trans (hBq.mono hB.size); have ha2 := ha1.below hBq; have hR2 := hR.below hBq hR.lt; clear hB hBq ha1 hR; go_frame)
        | ((with_reducible change wpList _ _ _ (Oper.mk (some 6) _ _ _ _ _ :: _) _ _); refine kFld txCF1 _ _ 0 1 rfl rfl rfl rfl ?_; go_frame)
        | ((with_reducible change wpList _ _ _ (Oper.mk (some 7) _ _ _ _ _ :: _) _ _); refine kLd Tryd.underlying23 rfl _ _ 1 _ a hR2 rfl rfl rfl rfl ?_; go_frame)
        | ((with_reducible change wpList _ _ _ (Oper.mk (some 8) _ _ _ _ _ :: _) _ _); refine kIndexIn1 _ _ a i _ ha2 rfl rfl rfl rfl rfl ?_; intro bd u hbd hu; go_frame)
        | ((with_reducible change wpList _ _ _ (Oper.mk (some 9) _ _ _ _ _ :: _) _ _); refine kFldAtN inCF1 _ bd rfl rfl rfl ?_; go_frame)
        | ((with_reducible change wpList _ _ _ (Oper.mk (some 10) _ _ _ _ _ :: _) _ _); refine kLoadAt Tryd.underlying28 rfl _ _ u (hbd 33 u (inC_33i i u)) rfl rfl rfl ?_; clear hbd; go_frame)
        | ((with_reducible change wpList _ _ _ (Oper.mk (some 11) _ _ _ _ _ :: _) _ _); refine kLenN _ _ _ u _ N rfl rfl rfl hu (by rw [List.length_map, hN]) Tryd.underlying28 ?_; go_frame)
        | ((with_reducible change wpList _ _ _ (Oper.mk (some 13) _ _ _ _ _ :: _) _ _); refine kGeqI _ _ _ _ .i64 (N : Int) 2 _ rfl rfl rfl rfl h1' ?_; go_frame)
        | ((with_reducible change wpList _ _ _ (Oper.mk (some 16) _ _ _ _ _ :: _) _ _); refine kLeqI _ _ _ _ .i64 (N : Int) 100 _ rfl rfl rfl rfl h2' ?_; go_frame))
      go_ret
      exact ⟨rfl, hB2⟩
    go_enter Tryd.func37, Tryd.ntmps37
    go_wp2_with (first
      | ((with_reducible change wpList _ _ _ (Oper.mk (some 1) _ _ _ _ _ :: _) _ _); refine kBoxL _ _ _ rfl rfl rfl ?_; intro w1 hR hz1 hB; have ha1 := ha.below hB; clear hz1; go_frame)
      | ((with_reducible change wpList _ _ _ (Oper.mk (some 4) _ _ _ _ _ :: _) _ _); refine kLoadTx _ _ n e a b hR rfl rfl rfl ?_; go_frame)
      | (go_at_call 14; refine (tBase_any _ ha1 hid).mono ?_; rintro e w2 ⟨rfl, hBq⟩; rw [hbb]; have hB2 := hB.trans (hBq.mono hB.size); have ha2 := ha1.below hBq; have hR2 := hR.below hBq hR.lt; clear hB hBq ha1 hR; go_frame)
      | ((with_reducible change wpList _ _ _ (Oper.mk (some 6) _ _ _ _ _ :: _) _ _); refine kFld txCF1 _ _ 0 1 rfl rfl rfl rfl ?_; go_frame)
      | ((with_reducible change wpList _ _ _ (Oper.mk (some 7) _ _ _ _ _ :: _) _ _); refine kLd Tryd.underlying23 rfl _ _ 1 _ a hR2 rfl rfl rfl rfl ?_; go_frame)
      | ((with_reducible change wpList _ _ _ (Oper.mk (some 8) _ _ _ _ _ :: _) _ _); refine kIndexIn1 _ _ a i _ ha2 rfl rfl rfl rfl rfl ?_; intro bd u hbd hu; go_frame)
      | ((with_reducible change wpList _ _ _ (Oper.mk (some 9) _ _ _ _ _ :: _) _ _); refine kFldAtN inCF1 _ bd rfl rfl rfl ?_; go_frame)
      | ((with_reducible change wpList _ _ _ (Oper.mk (some 10) _ _ _ _ _ :: _) _ _); refine kLoadAt Tryd.underlying28 rfl _ _ u (hbd 33 u (inC_33i i u)) rfl rfl rfl ?_; clear hbd; go_frame)
      | ((with_reducible change wpList _ _ _ (Oper.mk (some 11) _ _ _ _ _ :: _) _ _); refine kLenN _ _ _ u _ N rfl rfl rfl hu (by rw [List.length_map, hN]) Tryd.underlying28 ?_; go_frame)
      | ((with_reducible change wpList _ _ _ (Oper.mk (some 13) _ _ _ _ _ :: _) _ _); refine kGeqI _ _ _ _ .i64 (N : Int) 2 _ rfl rfl rfl rfl h1' ?_; go_frame)
      | ((with_reducible change wpList _ _ _ (Oper.mk (some 16) _ _ _ _ _ :: _) _ _); refine kLeqI _ _ _ _ .i64 (N : Int) 100 _ rfl rfl rfl rfl h2' ?_; go_frame))
    go_ret
    exact ⟨rfl, hB2⟩
def CheckPost (w : World) (n : Int) (e : Ending) (w' : World) : Prop := e = .returned (.int .i64 n) ∧ Below w.heap.size w w'
set_option maxRecDepth 100000 in
set_option maxHeartbeats 8000000 in
theorem tCheck_any {t : TxP} {a b : Value} (W0 : World) (ht : t.Is) (hf : t.Fits) (ha : InsOf W0 a t.ins) (hb : OutsOf W0 b t.outs) : Calls Tryd.prog 13 #[.agg (txC t.version a b t.end')] W0 (CheckPost W0 (checkN t)) := by
  have hti : ∀ i ∈ t.ins, i.id.length = 32 := fun i hi => (ht.2.2.1 i hi).1
  obtain ⟨zi, ei, hi⟩ := id ha
  obtain ⟨zo, eo, hoo⟩ := id hb
  obtain ⟨N, hN⟩ : ∃ N, t.ins.length = N := ⟨_, rfl⟩
  obtain ⟨M, hM⟩ : ∃ M, t.outs.length = M := ⟨_, rfl⟩
  obtain ⟨L, hL⟩ : ∃ L, (txL t).length = L := ⟨_, rfl⟩
  have hzN : zi.length = N := by rw [fst_len ei, hN]
  have hzM : zo.length = M := by rw [fst_len eo, hM]
  have hN2 : N ≤ 200 := by rw [← hN]; exact hf.1
  have hM2 : M ≤ 200 := by rw [← hM]; exact hf.2.1
  obtain ⟨S, hS⟩ : ∃ S, sumS 0 (t.outs.map Prod.fst) = S := ⟨_, rfl⟩
  have hsum : sumS 0 ((zo.map fun z => (z.1.1, z.2)).map Prod.fst) = S := by rw [← hS, ← eo, List.map_map, List.map_map]; rfl
  obtain ⟨R, hR0⟩ : ∃ R, checkN t = R := ⟨_, rfl⟩
  rw [hR0]
  unfold checkN at hR0
  rw [hN, hM, hL, hS] at hR0
  obtain ⟨c1, e1⟩ : ∃ c, decide (N = 0) = c := ⟨_, rfl⟩
  obtain ⟨c2, e2⟩ : ∃ c, decide (M = 0) = c := ⟨_, rfl⟩
  obtain ⟨c3, e3⟩ : ∃ c, decide (5000 < L) = c := ⟨_, rfl⟩
  obtain ⟨c4, e4⟩ : ∃ c, S.isNone = c := ⟨_, rfl⟩
  obtain ⟨c5, d5⟩ : ∃ c, dupB t.ins = c := ⟨_, rfl⟩
  obtain ⟨c6, d6⟩ : ∃ c, comesB t.ins = c := ⟨_, rfl⟩
  rw [e1, e2, e3, e4, d5, d6] at hR0
  have d1 : decide ((N : Int) = 0) = c1 := by rw [← e1]; exact decide_eq_decide.2 (by omega)
  have d2 : decide ((M : Int) = 0) = c2 := by rw [← e2]; exact decide_eq_decide.2 (by omega)
  have d3 : decide ((L : Int) > 5000) = c3 := by rw [← e3]; exact decide_eq_decide.2 (by omega)
  have d4 : (!decide (sumE S = 0)) = c4 := by rw [← e4]; cases S <;> rfl
  have hE4 : c4 = true → sumE S = 91 := by intro h; rw [← e4] at h; unfold sumE; rw [if_pos h]
  clear e1 e2 e3 e4 hS eo ei
  cases c1
  case true =>
    subst hR0
    go_enter Tryd.func13, Tryd.ntmps13
    go_wp2_with (first
      | ((with_reducible change wpList _ _ _ (Oper.mk (some 1) _ _ _ _ _ :: _) _ _); refine kBoxL _ _ _ rfl rfl rfl ?_; intro w1 hR hz1 hB; have ha1 := ha.below hB; have hb1 := hb.below hB; clear hz1; go_frame)
      | ((with_reducible change wpList _ _ _ (Oper.mk (some 5) _ _ _ _ _ :: _) _ _); refine kFld txCF1 _ _ 0 1 rfl rfl rfl rfl ?_; go_frame)
      | ((with_reducible change wpList _ _ _ (Oper.mk (some 6) _ _ _ _ _ :: _) _ _); refine kLd Tryd.underlying23 rfl _ _ 1 _ a hR rfl rfl rfl rfl ?_; go_frame)
      | ((with_reducible change wpList _ _ _ (Oper.mk (some 7) _ _ _ _ _ :: _) _ _); refine kLenIns _ a zi N (hi.below hB) hzN rfl rfl rfl ?_; go_frame)
      | ((with_reducible change wpList _ _ _ (Oper.mk (some 8) _ _ _ _ _ :: _) _ _); refine kEqlI _ _ _ _ .i64 (N : Int) 0 _ rfl rfl rfl rfl d1 ?_; go_frame))
    (try simp only [Exit.inBlock, Exit.then])
    refine retBT rfl rfl ?_
    exact ⟨rfl, hB⟩
  cases c2
  case true =>
    subst hR0
    go_enter Tryd.func13, Tryd.ntmps13
    go_wp2_with (first
      | ((with_reducible change wpList _ _ _ (Oper.mk (some 1) _ _ _ _ _ :: _) _ _); refine kBoxL _ _ _ rfl rfl rfl ?_; intro w1 hR hz1 hB; have ha1 := ha.below hB; have hb1 := hb.below hB; clear hz1; go_frame)
      | ((with_reducible change wpList _ _ _ (Oper.mk (some 5) _ _ _ _ _ :: _) _ _); refine kFld txCF1 _ _ 0 1 rfl rfl rfl rfl ?_; go_frame)
      | ((with_reducible change wpList _ _ _ (Oper.mk (some 6) _ _ _ _ _ :: _) _ _); refine kLd Tryd.underlying23 rfl _ _ 1 _ a hR rfl rfl rfl rfl ?_; go_frame)
      | ((with_reducible change wpList _ _ _ (Oper.mk (some 7) _ _ _ _ _ :: _) _ _); refine kLenIns _ a zi N (hi.below hB) hzN rfl rfl rfl ?_; go_frame)
      | ((with_reducible change wpList _ _ _ (Oper.mk (some 8) _ _ _ _ _ :: _) _ _); refine kEqlI _ _ _ _ .i64 (N : Int) 0 _ rfl rfl rfl rfl d1 ?_; go_frame)
      | ((with_reducible change wpList _ _ _ (Oper.mk (some 10) _ _ _ _ _ :: _) _ _); refine kFld txCF2 _ _ 0 2 rfl rfl rfl rfl ?_; go_frame)
      | ((with_reducible change wpList _ _ _ (Oper.mk (some 11) _ _ _ _ _ :: _) _ _); refine kLd Tryd.underlying24 rfl _ _ 2 _ b hR rfl rfl rfl rfl ?_; go_frame)
      | ((with_reducible change wpList _ _ _ (Oper.mk (some 12) _ _ _ _ _ :: _) _ _); refine kLenOutsT _ b zo M (hoo.below hB) hzM rfl rfl rfl ?_; go_frame)
      | ((with_reducible change wpList _ _ _ (Oper.mk (some 13) _ _ _ _ _ :: _) _ _); refine kEqlI _ _ _ _ .i64 (M : Int) 0 _ rfl rfl rfl rfl d2 ?_; go_frame))
    (try simp only [Exit.inBlock, Exit.then])
    refine retBT rfl rfl ?_
    exact ⟨rfl, hB⟩
  cases c3
  case true =>
    subst hR0
    go_enter Tryd.func13, Tryd.ntmps13
    go_wp2_with (first
      | ((with_reducible change wpList _ _ _ (Oper.mk (some 1) _ _ _ _ _ :: _) _ _); refine kBoxL _ _ _ rfl rfl rfl ?_; intro w1 hR hz1 hB; have ha1 := ha.below hB; have hb1 := hb.below hB; clear hz1; go_frame)
      | ((with_reducible change wpList _ _ _ (Oper.mk (some 5) _ _ _ _ _ :: _) _ _); refine kFld txCF1 _ _ 0 1 rfl rfl rfl rfl ?_; go_frame)
      | ((with_reducible change wpList _ _ _ (Oper.mk (some 6) _ _ _ _ _ :: _) _ _); refine kLd Tryd.underlying23 rfl _ _ 1 _ a hR rfl rfl rfl rfl ?_; go_frame)
      | ((with_reducible change wpList _ _ _ (Oper.mk (some 7) _ _ _ _ _ :: _) _ _); refine kLenIns _ a zi N (hi.below hB) hzN rfl rfl rfl ?_; go_frame)
      | ((with_reducible change wpList _ _ _ (Oper.mk (some 8) _ _ _ _ _ :: _) _ _); refine kEqlI _ _ _ _ .i64 (N : Int) 0 _ rfl rfl rfl rfl d1 ?_; go_frame)
      | ((with_reducible change wpList _ _ _ (Oper.mk (some 10) _ _ _ _ _ :: _) _ _); refine kFld txCF2 _ _ 0 2 rfl rfl rfl rfl ?_; go_frame)
      | ((with_reducible change wpList _ _ _ (Oper.mk (some 11) _ _ _ _ _ :: _) _ _); refine kLd Tryd.underlying24 rfl _ _ 2 _ b hR rfl rfl rfl rfl ?_; go_frame)
      | ((with_reducible change wpList _ _ _ (Oper.mk (some 12) _ _ _ _ _ :: _) _ _); refine kLenOutsT _ b zo M (hoo.below hB) hzM rfl rfl rfl ?_; go_frame)
      | ((with_reducible change wpList _ _ _ (Oper.mk (some 13) _ _ _ _ _ :: _) _ _); refine kEqlI _ _ _ _ .i64 (M : Int) 0 _ rfl rfl rfl rfl d2 ?_; go_frame)
      | ((with_reducible change wpList _ _ _ (Oper.mk (some 16) _ _ _ _ _ :: _) _ _); refine kLoadTx _ _ t.version t.end' a b hR rfl rfl rfl ?_; go_frame)
      | (go_at_call 11; refine (tBytes_any _ ht hf ha1 hb1).mono ?_; rintro e w2 ⟨v2, rfl, hO2, hBq⟩; have hR2 := hR.below hBq hR.lt; have ha2 := ha1.below hBq; have hb2 := hb1.below hBq; have hB2 := hB.trans (hBq.mono hB.size); clear hBq hR ha1 hb1 hB; go_frame)
      | ((with_reducible change wpList _ _ _ (Oper.mk (some 18) _ _ _ _ _ :: _) _ _); refine kLenN _ _ _ v2 _ L rfl rfl rfl hO2.vals (by rw [List.length_map, hL]) Tryd.underlying28 ?_; go_frame)
      | ((with_reducible change wpList _ _ _ (Oper.mk (some 19) _ _ _ _ _ :: _) _ _); refine kGtrI _ _ _ _ .i64 (L : Int) 5000 _ rfl rfl rfl rfl d3 ?_; go_frame))
    (try simp only [Exit.inBlock, Exit.then])
    refine retBT rfl rfl ?_
    exact ⟨rfl, hB2⟩
  cases c4
  case true =>
    subst hR0
    have h91 := hE4 rfl
    go_enter Tryd.func13, Tryd.ntmps13
    go_wp2_with (first
      | ((with_reducible change wpList _ _ _ (Oper.mk (some 1) _ _ _ _ _ :: _) _ _); refine kBoxL _ _ _ rfl rfl rfl ?_; intro w1 hR hz1 hB; have ha1 := ha.below hB; have hb1 := hb.below hB; clear hz1; go_frame)
      | ((with_reducible change wpList _ _ _ (Oper.mk (some 5) _ _ _ _ _ :: _) _ _); refine kFld txCF1 _ _ 0 1 rfl rfl rfl rfl ?_; go_frame)
      | ((with_reducible change wpList _ _ _ (Oper.mk (some 6) _ _ _ _ _ :: _) _ _); refine kLd Tryd.underlying23 rfl _ _ 1 _ a hR rfl rfl rfl rfl ?_; go_frame)
      | ((with_reducible change wpList _ _ _ (Oper.mk (some 7) _ _ _ _ _ :: _) _ _); refine kLenIns _ a zi N (hi.below hB) hzN rfl rfl rfl ?_; go_frame)
      | ((with_reducible change wpList _ _ _ (Oper.mk (some 8) _ _ _ _ _ :: _) _ _); refine kEqlI _ _ _ _ .i64 (N : Int) 0 _ rfl rfl rfl rfl d1 ?_; go_frame)
      | ((with_reducible change wpList _ _ _ (Oper.mk (some 10) _ _ _ _ _ :: _) _ _); refine kFld txCF2 _ _ 0 2 rfl rfl rfl rfl ?_; go_frame)
      | ((with_reducible change wpList _ _ _ (Oper.mk (some 11) _ _ _ _ _ :: _) _ _); refine kLd Tryd.underlying24 rfl _ _ 2 _ b hR rfl rfl rfl rfl ?_; go_frame)
      | ((with_reducible change wpList _ _ _ (Oper.mk (some 12) _ _ _ _ _ :: _) _ _); refine kLenOutsT _ b zo M (hoo.below hB) hzM rfl rfl rfl ?_; go_frame)
      | ((with_reducible change wpList _ _ _ (Oper.mk (some 13) _ _ _ _ _ :: _) _ _); refine kEqlI _ _ _ _ .i64 (M : Int) 0 _ rfl rfl rfl rfl d2 ?_; go_frame)
      | ((with_reducible change wpList _ _ _ (Oper.mk (some 16) _ _ _ _ _ :: _) _ _); refine kLoadTx _ _ t.version t.end' a b hR rfl rfl rfl ?_; go_frame)
      | (go_at_call 11; refine (tBytes_any _ ht hf ha1 hb1).mono ?_; rintro e w2 ⟨v2, rfl, hO2, hBq⟩; have hR2 := hR.below hBq hR.lt; have ha2 := ha1.below hBq; have hb2 := hb1.below hBq; have hB2 := hB.trans (hBq.mono hB.size); clear hBq hR ha1 hb1 hB; go_frame)
      | ((with_reducible change wpList _ _ _ (Oper.mk (some 18) _ _ _ _ _ :: _) _ _); refine kLenN _ _ _ v2 _ L rfl rfl rfl hO2.vals (by rw [List.length_map, hL]) Tryd.underlying28 ?_; go_frame)
      | ((with_reducible change wpList _ _ _ (Oper.mk (some 19) _ _ _ _ _ :: _) _ _); refine kGtrI _ _ _ _ .i64 (L : Int) 5000 _ rfl rfl rfl rfl d3 ?_; go_frame)
      | ((with_reducible change wpList _ _ _ (Oper.mk (some 22) _ _ _ _ _ :: _) _ _); refine kFld txCF2 _ _ 0 2 rfl rfl rfl rfl ?_; go_frame)
      | ((with_reducible change wpList _ _ _ (Oper.mk (some 23) _ _ _ _ _ :: _) _ _); refine kLd Tryd.underlying24 rfl _ _ 2 _ b hR2 rfl rfl rfl rfl ?_; go_frame)
      | (go_at_call 35; refine (coSum_any _ (hoo.below hB2).outs (by rw [List.length_map]; omega)).mono ?_; rintro e w3 ⟨rfl, hBq⟩; rw [hsum]; have hR3 := hR2.below hBq hR2.lt; have ha3 := ha2.below hBq; have hb3 := hb2.below hBq; have hB3 := hB2.trans (hBq.mono hB2.size); clear hBq hR2 ha2 hb2 hB2 hO2; go_frame)
      | ((with_reducible change wpList _ _ _ (Oper.mk (some 28) _ _ _ _ _ :: _) _ _); refine kNeqI _ _ _ _ .i64 (sumE S) 0 _ rfl rfl rfl rfl d4 ?_; go_frame))
    (try simp only [Exit.inBlock, Exit.then])
    refine retBT rfl rfl ?_
    refine ⟨?_, hB3⟩
    rw [← h91]; rfl
  cases c5
  case true =>
    subst hR0
    go_enter Tryd.func13, Tryd.ntmps13
    go_wp2_with (first
      | ((with_reducible change wpList _ _ _ (Oper.mk (some 1) _ _ _ _ _ :: _) _ _); refine kBoxL _ _ _ rfl rfl rfl ?_; intro w1 hR hz1 hB; have ha1 := ha.below hB; have hb1 := hb.below hB; clear hz1; go_frame)
      | ((with_reducible change wpList _ _ _ (Oper.mk (some 5) _ _ _ _ _ :: _) _ _); refine kFld txCF1 _ _ 0 1 rfl rfl rfl rfl ?_; go_frame)
      | ((with_reducible change wpList _ _ _ (Oper.mk (some 6) _ _ _ _ _ :: _) _ _); refine kLd Tryd.underlying23 rfl _ _ 1 _ a hR rfl rfl rfl rfl ?_; go_frame)
      | ((with_reducible change wpList _ _ _ (Oper.mk (some 7) _ _ _ _ _ :: _) _ _); refine kLenIns _ a zi N (hi.below hB) hzN rfl rfl rfl ?_; go_frame)
      | ((with_reducible change wpList _ _ _ (Oper.mk (some 8) _ _ _ _ _ :: _) _ _); refine kEqlI _ _ _ _ .i64 (N : Int) 0 _ rfl rfl rfl rfl d1 ?_; go_frame)
      | ((with_reducible change wpList _ _ _ (Oper.mk (some 10) _ _ _ _ _ :: _) _ _); refine kFld txCF2 _ _ 0 2 rfl rfl rfl rfl ?_; go_frame)
      | ((with_reducible change wpList _ _ _ (Oper.mk (some 11) _ _ _ _ _ :: _) _ _); refine kLd Tryd.underlying24 rfl _ _ 2 _ b hR rfl rfl rfl rfl ?_; go_frame)
      | ((with_reducible change wpList _ _ _ (Oper.mk (some 12) _ _ _ _ _ :: _) _ _); refine kLenOutsT _ b zo M (hoo.below hB) hzM rfl rfl rfl ?_; go_frame)
      | ((with_reducible change wpList _ _ _ (Oper.mk (some 13) _ _ _ _ _ :: _) _ _); refine kEqlI _ _ _ _ .i64 (M : Int) 0 _ rfl rfl rfl rfl d2 ?_; go_frame)
      | ((with_reducible change wpList _ _ _ (Oper.mk (some 16) _ _ _ _ _ :: _) _ _); refine kLoadTx _ _ t.version t.end' a b hR rfl rfl rfl ?_; go_frame)
      | (go_at_call 11; refine (tBytes_any _ ht hf ha1 hb1).mono ?_; rintro e w2 ⟨v2, rfl, hO2, hBq⟩; have hR2 := hR.below hBq hR.lt; have ha2 := ha1.below hBq; have hb2 := hb1.below hBq; have hB2 := hB.trans (hBq.mono hB.size); clear hBq hR ha1 hb1 hB; go_frame)
      | ((with_reducible change wpList _ _ _ (Oper.mk (some 18) _ _ _ _ _ :: _) _ _); refine kLenN _ _ _ v2 _ L rfl rfl rfl hO2.vals (by rw [List.length_map, hL]) Tryd.underlying28 ?_; go_frame)
      | ((with_reducible change wpList _ _ _ (Oper.mk (some 19) _ _ _ _ _ :: _) _ _); refine kGtrI _ _ _ _ .i64 (L : Int) 5000 _ rfl rfl rfl rfl d3 ?_; go_frame)
      | ((with_reducible change wpList _ _ _ (Oper.mk (some 22) _ _ _ _ _ :: _) _ _); refine kFld txCF2 _ _ 0 2 rfl rfl rfl rfl ?_; go_frame)
      | ((with_reducible change wpList _ _ _ (Oper.mk (some 23) _ _ _ _ _ :: _) _ _); refine kLd Tryd.underlying24 rfl _ _ 2 _ b hR2 rfl rfl rfl rfl ?_; go_frame)
      | (go_at_call 35; refine (coSum_any _ (hoo.below hB2).outs (by rw [List.length_map]; omega)).mono ?_; rintro e w3 ⟨rfl, hBq⟩; rw [hsum]; have hR3 := hR2.below hBq hR2.lt; have ha3 := ha2.below hBq; have hb3 := hb2.below hBq; have hB3 := hB2.trans (hBq.mono hB2.size); clear hBq hR2 ha2 hb2 hB2 hO2; go_frame)
      | ((with_reducible change wpList _ _ _ (Oper.mk (some 28) _ _ _ _ _ :: _) _ _); refine kNeqI _ _ _ _ .i64 (sumE S) 0 _ rfl rfl rfl rfl d4 ?_; go_frame)
      | ((with_reducible change wpList _ _ _ (Oper.mk (some 30) _ _ _ _ _ :: _) _ _); refine kFld txCF1 _ _ 0 1 rfl rfl rfl rfl ?_; go_frame)
      | ((with_reducible change wpList _ _ _ (Oper.mk (some 31) _ _ _ _ _ :: _) _ _); refine kLd Tryd.underlying23 rfl _ _ 1 _ a hR3 rfl rfl rfl rfl ?_; go_frame)
      | (go_at_call 36; refine (tTwice_any _ ha3 hti (by omega)).mono ?_; rintro e w4 ⟨rfl, hBq⟩; rw [d5]; have hR4 := hR3.below hBq hR3.lt; have ha4 := ha3.below hBq; have hB4 := hB3.trans (hBq.mono hB3.size); clear hBq hR3 ha3 hB3; go_frame))
    (try simp only [Exit.inBlock, Exit.then])
    refine retBT rfl rfl ?_
    exact ⟨rfl, hB4⟩
  cases c6
  · subst hR0
    go_enter Tryd.func13, Tryd.ntmps13
    go_wp2_with (first
      | ((with_reducible change wpList _ _ _ (Oper.mk (some 1) _ _ _ _ _ :: _) _ _); refine kBoxL _ _ _ rfl rfl rfl ?_; intro w1 hR hz1 hB; have ha1 := ha.below hB; have hb1 := hb.below hB; clear hz1; go_frame)
      | ((with_reducible change wpList _ _ _ (Oper.mk (some 5) _ _ _ _ _ :: _) _ _); refine kFld txCF1 _ _ 0 1 rfl rfl rfl rfl ?_; go_frame)
      | ((with_reducible change wpList _ _ _ (Oper.mk (some 6) _ _ _ _ _ :: _) _ _); refine kLd Tryd.underlying23 rfl _ _ 1 _ a hR rfl rfl rfl rfl ?_; go_frame)
      | ((with_reducible change wpList _ _ _ (Oper.mk (some 7) _ _ _ _ _ :: _) _ _); refine kLenIns _ a zi N (hi.below hB) hzN rfl rfl rfl ?_; go_frame)
      | ((with_reducible change wpList _ _ _ (Oper.mk (some 8) _ _ _ _ _ :: _) _ _); refine kEqlI _ _ _ _ .i64 (N : Int) 0 _ rfl rfl rfl rfl d1 ?_; go_frame)
      | ((with_reducible change wpList _ _ _ (Oper.mk (some 10) _ _ _ _ _ :: _) _ _); refine kFld txCF2 _ _ 0 2 rfl rfl rfl rfl ?_; go_frame)
      | ((with_reducible change wpList _ _ _ (Oper.mk (some 11) _ _ _ _ _ :: _) _ _); refine kLd Tryd.underlying24 rfl _ _ 2 _ b hR rfl rfl rfl rfl ?_; go_frame)
      | ((with_reducible change wpList _ _ _ (Oper.mk (some 12) _ _ _ _ _ :: _) _ _); refine kLenOutsT _ b zo M (hoo.below hB) hzM rfl rfl rfl ?_; go_frame)
      | ((with_reducible change wpList _ _ _ (Oper.mk (some 13) _ _ _ _ _ :: _) _ _); refine kEqlI _ _ _ _ .i64 (M : Int) 0 _ rfl rfl rfl rfl d2 ?_; go_frame)
      | ((with_reducible change wpList _ _ _ (Oper.mk (some 16) _ _ _ _ _ :: _) _ _); refine kLoadTx _ _ t.version t.end' a b hR rfl rfl rfl ?_; go_frame)
      | (go_at_call 11; refine (tBytes_any _ ht hf ha1 hb1).mono ?_; rintro e w2 ⟨v2, rfl, hO2, hBq⟩; have hR2 := hR.below hBq hR.lt; have ha2 := ha1.below hBq; have hb2 := hb1.below hBq; have hB2 := hB.trans (hBq.mono hB.size); clear hBq hR ha1 hb1 hB; go_frame)
      | ((with_reducible change wpList _ _ _ (Oper.mk (some 18) _ _ _ _ _ :: _) _ _); refine kLenN _ _ _ v2 _ L rfl rfl rfl hO2.vals (by rw [List.length_map, hL]) Tryd.underlying28 ?_; go_frame)
      | ((with_reducible change wpList _ _ _ (Oper.mk (some 19) _ _ _ _ _ :: _) _ _); refine kGtrI _ _ _ _ .i64 (L : Int) 5000 _ rfl rfl rfl rfl d3 ?_; go_frame)
      | ((with_reducible change wpList _ _ _ (Oper.mk (some 22) _ _ _ _ _ :: _) _ _); refine kFld txCF2 _ _ 0 2 rfl rfl rfl rfl ?_; go_frame)
      | ((with_reducible change wpList _ _ _ (Oper.mk (some 23) _ _ _ _ _ :: _) _ _); refine kLd Tryd.underlying24 rfl _ _ 2 _ b hR2 rfl rfl rfl rfl ?_; go_frame)
      | (go_at_call 35; refine (coSum_any _ (hoo.below hB2).outs (by rw [List.length_map]; omega)).mono ?_; rintro e w3 ⟨rfl, hBq⟩; rw [hsum]; have hR3 := hR2.below hBq hR2.lt; have ha3 := ha2.below hBq; have hb3 := hb2.below hBq; have hB3 := hB2.trans (hBq.mono hB2.size); clear hBq hR2 ha2 hb2 hB2 hO2; go_frame)
      | ((with_reducible change wpList _ _ _ (Oper.mk (some 28) _ _ _ _ _ :: _) _ _); refine kNeqI _ _ _ _ .i64 (sumE S) 0 _ rfl rfl rfl rfl d4 ?_; go_frame)
      | ((with_reducible change wpList _ _ _ (Oper.mk (some 30) _ _ _ _ _ :: _) _ _); refine kFld txCF1 _ _ 0 1 rfl rfl rfl rfl ?_; go_frame)
      | ((with_reducible change wpList _ _ _ (Oper.mk (some 31) _ _ _ _ _ :: _) _ _); refine kLd Tryd.underlying23 rfl _ _ 1 _ a hR3 rfl rfl rfl rfl ?_; go_frame)
      | (go_at_call 36; refine (tTwice_any _ ha3 hti (by omega)).mono ?_; rintro e w4 ⟨rfl, hBq⟩; rw [d5]; have hR4 := hR3.below hBq hR3.lt; have ha4 := ha3.below hBq; have hB4 := hB3.trans (hBq.mono hB3.size); clear hBq hR3 ha3 hB3; go_frame)
      | ((with_reducible change wpList _ _ _ (Oper.mk (some 34) _ _ _ _ _ :: _) _ _); refine kLoadTx _ _ t.version t.end' a b hR4 rfl rfl rfl ?_; go_frame)
      | (go_at_call 37; refine (tComes_any _ ha4 hti (by omega)).mono ?_; rintro e w5 ⟨rfl, hBq⟩; rw [d6]; have hB5 := hB4.trans (hBq.mono hB4.size); clear hBq hB4; go_frame)
      | ((with_reducible change wpList _ _ _ (Oper.mk (some 36) _ _ _ _ _ :: _) _ _); refine kNot _ _ _ rfl rfl rfl ?_; go_frame))
    (try simp only [Exit.inBlock, Exit.then])
    refine retBT rfl rfl ?_
    exact ⟨rfl, hB5⟩
  · subst hR0
    go_enter Tryd.func13, Tryd.ntmps13
    go_wp2_with (first
      | ((with_reducible change wpList _ _ _ (Oper.mk (some 1) _ _ _ _ _ :: _) _ _); refine kBoxL _ _ _ rfl rfl rfl ?_; intro w1 hR hz1 hB; have ha1 := ha.below hB; have hb1 := hb.below hB; clear hz1; go_frame)
      | ((with_reducible change wpList _ _ _ (Oper.mk (some 5) _ _ _ _ _ :: _) _ _); refine kFld txCF1 _ _ 0 1 rfl rfl rfl rfl ?_; go_frame)
      | ((with_reducible change wpList _ _ _ (Oper.mk (some 6) _ _ _ _ _ :: _) _ _); refine kLd Tryd.underlying23 rfl _ _ 1 _ a hR rfl rfl rfl rfl ?_; go_frame)
      | ((with_reducible change wpList _ _ _ (Oper.mk (some 7) _ _ _ _ _ :: _) _ _); refine kLenIns _ a zi N (hi.below hB) hzN rfl rfl rfl ?_; go_frame)
      | ((with_reducible change wpList _ _ _ (Oper.mk (some 8) _ _ _ _ _ :: _) _ _); refine kEqlI _ _ _ _ .i64 (N : Int) 0 _ rfl rfl rfl rfl d1 ?_; go_frame)
      | ((with_reducible change wpList _ _ _ (Oper.mk (some 10) _ _ _ _ _ :: _) _ _); refine kFld txCF2 _ _ 0 2 rfl rfl rfl rfl ?_; go_frame)
      | ((with_reducible change wpList _ _ _ (Oper.mk (some 11) _ _ _ _ _ :: _) _ _); refine kLd Tryd.underlying24 rfl _ _ 2 _ b hR rfl rfl rfl rfl ?_; go_frame)
      | ((with_reducible change wpList _ _ _ (Oper.mk (some 12) _ _ _ _ _ :: _) _ _); refine kLenOutsT _ b zo M (hoo.below hB) hzM rfl rfl rfl ?_; go_frame)
      | ((with_reducible change wpList _ _ _ (Oper.mk (some 13) _ _ _ _ _ :: _) _ _); refine kEqlI _ _ _ _ .i64 (M : Int) 0 _ rfl rfl rfl rfl d2 ?_; go_frame)
      | ((with_reducible change wpList _ _ _ (Oper.mk (some 16) _ _ _ _ _ :: _) _ _); refine kLoadTx _ _ t.version t.end' a b hR rfl rfl rfl ?_; go_frame)
      | (go_at_call 11; refine (tBytes_any _ ht hf ha1 hb1).mono ?_; rintro e w2 ⟨v2, rfl, hO2, hBq⟩; have hR2 := hR.below hBq hR.lt; have ha2 := ha1.below hBq; have hb2 := hb1.below hBq; have hB2 := hB.trans (hBq.mono hB.size); clear hBq hR ha1 hb1 hB; go_frame)
      | ((with_reducible change wpList _ _ _ (Oper.mk (some 18) _ _ _ _ _ :: _) _ _); refine kLenN _ _ _ v2 _ L rfl rfl rfl hO2.vals (by rw [List.length_map, hL]) Tryd.underlying28 ?_; go_frame)
      | ((with_reducible change wpList _ _ _ (Oper.mk (some 19) _ _ _ _ _ :: _) _ _); refine kGtrI _ _ _ _ .i64 (L : Int) 5000 _ rfl rfl rfl rfl d3 ?_; go_frame)
      | ((with_reducible change wpList _ _ _ (Oper.mk (some 22) _ _ _ _ _ :: _) _ _); refine kFld txCF2 _ _ 0 2 rfl rfl rfl rfl ?_; go_frame)
      | ((with_reducible change wpList _ _ _ (Oper.mk (some 23) _ _ _ _ _ :: _) _ _); refine kLd Tryd.underlying24 rfl _ _ 2 _ b hR2 rfl rfl rfl rfl ?_; go_frame)
      | (go_at_call 35; refine (coSum_any _ (hoo.below hB2).outs (by rw [List.length_map]; omega)).mono ?_; rintro e w3 ⟨rfl, hBq⟩; rw [hsum]; have hR3 := hR2.below hBq hR2.lt; have ha3 := ha2.below hBq; have hb3 := hb2.below hBq; have hB3 := hB2.trans (hBq.mono hB2.size); clear hBq hR2 ha2 hb2 hB2 hO2; go_frame)
      | ((with_reducible change wpList _ _ _ (Oper.mk (some 28) _ _ _ _ _ :: _) _ _); refine kNeqI _ _ _ _ .i64 (sumE S) 0 _ rfl rfl rfl rfl d4 ?_; go_frame)
      | ((with_reducible change wpList _ _ _ (Oper.mk (some 30) _ _ _ _ _ :: _) _ _); refine kFld txCF1 _ _ 0 1 rfl rfl rfl rfl ?_; go_frame)
      | ((with_reducible change wpList _ _ _ (Oper.mk (some 31) _ _ _ _ _ :: _) _ _); refine kLd Tryd.underlying23 rfl _ _ 1 _ a hR3 rfl rfl rfl rfl ?_; go_frame)
      | (go_at_call 36; refine (tTwice_any _ ha3 hti (by omega)).mono ?_; rintro e w4 ⟨rfl, hBq⟩; rw [d5]; have hR4 := hR3.below hBq hR3.lt; have ha4 := ha3.below hBq; have hB4 := hB3.trans (hBq.mono hB3.size); clear hBq hR3 ha3 hB3; go_frame)
      | ((with_reducible change wpList _ _ _ (Oper.mk (some 34) _ _ _ _ _ :: _) _ _); refine kLoadTx _ _ t.version t.end' a b hR4 rfl rfl rfl ?_; go_frame)
      | (go_at_call 37; refine (tComes_any _ ha4 hti (by omega)).mono ?_; rintro e w5 ⟨rfl, hBq⟩; rw [d6]; have hB5 := hB4.trans (hBq.mono hB4.size); clear hBq hB4; go_frame)
      | ((with_reducible change wpList _ _ _ (Oper.mk (some 36) _ _ _ _ _ :: _) _ _); refine kNot _ _ _ rfl rfl rfl ?_; go_frame))
    go_ret
    exact ⟨rfl, hB5⟩
end Go.Proofs.YtaoaecbdjdcpdaaDoor
