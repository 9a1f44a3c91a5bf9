/-
  Joined: TxSame0, TxSame, TxMap.
-/
import Derived.Test.YtaoaecbdjdcpdaaDoorTxIds
import Derived.MapKept
import Derived.ChangeMaps4
import Derived.Carry
/-
  Layer 10: transactions held against each other; what makes something.
-/
namespace Go.Proofs.YtaoaecbdjdcpdaaDoor
open Go Go.RowKit

def sameI (i j : InP) : Bool := ((decide (i.id = j.id) && decide ((i.at' : Int) = (j.at' : Int))) && decide ((i.order : Int) = (j.order : Int))) && (i.unlock == j.unlock)
def sameIs : List InP → List InP → Bool
  | [], [] => true
  | i :: is, j :: js => sameI i j && sameIs is js
  | _, _ => false
def sameOs : List (Int × List UInt8) → List (Int × List UInt8) → Bool
  | [], [] => true
  | i :: is, j :: js => sameO i.1 i.2 j.1 j.2 && sameOs is js
  | _, _ => false
def sameT (t u : TxP) : Bool := ((decide ((t.version : Int) = (u.version : Int)) && decide ((t.end' : Int) = (u.end' : Int))) && sameIs t.ins u.ins) && sameOs t.outs u.outs
theorem sameI_iff {i j : InP} : sameI i j = true ↔ i = j := by
  obtain ⟨a, b, c, d⟩ := i
  obtain ⟨e, f, g, h⟩ := j
  simp only [sameI, Bool.and_eq_true, decide_eq_true_eq, beq_iff_eq, InP.mk.injEq]
  constructor
  · rintro ⟨⟨⟨h1, h2⟩, h3⟩, h4⟩; exact ⟨h1, by omega, h4, by omega⟩
  · rintro ⟨h1, h2, h3, h4⟩; exact ⟨⟨⟨h1, by omega⟩, by omega⟩, h3⟩
theorem sameIs_iff : ∀ {is js : List InP}, sameIs is js = true ↔ is = js
  | [], [] => by simp [sameIs]
  | i :: is, j :: js => by simp only [sameIs, Bool.and_eq_true, sameI_iff, sameIs_iff, List.cons.injEq]
  | [], j :: js => by simp [sameIs]
  | i :: is, [] => by simp [sameIs]
theorem sameOs_iff : ∀ {is js : List (Int × List UInt8)}, sameOs is js = true ↔ is = js
  | [], [] => by simp [sameOs]
  | i :: is, j :: js => by
    simp only [sameOs, Bool.and_eq_true, sameO_iff, sameOs_iff, List.cons.injEq]
    rw [Prod.ext_iff]
  | [], j :: js => by simp [sameOs]
  | i :: is, [] => by simp [sameOs]
theorem sameT_iff {t u : TxP} : sameT t u = true ↔ t = u := by
  obtain ⟨a, b, c, d⟩ := t
  obtain ⟨e, f, g, h⟩ := u
  simp only [sameT, Bool.and_eq_true, decide_eq_true_eq, sameIs_iff, sameOs_iff, TxP.mk.injEq]
  constructor
  · rintro ⟨⟨⟨h1, h2⟩, h3⟩, h4⟩; exact ⟨by omega, h3, h4, by omega⟩
  · rintro ⟨h1, h2, h3, h4⟩; exact ⟨⟨⟨by omega, by omega⟩, h2⟩, h3⟩
theorem sameT_refl (t : TxP) : sameT t t = true := sameT_iff.2 rfl
theorem sameIs_len : ∀ {is js : List InP}, is.length ≠ js.length → sameIs is js = false := fun h => by
  cases hb : sameIs _ _
  · rfl
  · exact absurd (congrArg List.length (sameIs_iff.1 hb)) h
theorem sameOs_len : ∀ {is js : List (Int × List UInt8)}, is.length ≠ js.length → sameOs is js = false := fun h => by
  cases hb : sameOs _ _
  · rfl
  · exact absurd (congrArg List.length (sameOs_iff.1 hb)) h
theorem sameIs_step {is js : List InP} {k : Nat} {i j : InP} (hi : is[k]? = some i) (hj : js[k]? = some j) : sameIs (is.drop k) (js.drop k) = (sameI i j && sameIs (is.drop (k + 1)) (js.drop (k + 1))) := by
  obtain ⟨h1, rfl⟩ := List.getElem?_eq_some_iff.1 hi
  obtain ⟨h2, rfl⟩ := List.getElem?_eq_some_iff.1 hj
  rw [List.drop_eq_getElem_cons h1, List.drop_eq_getElem_cons h2]; rfl
theorem sameOs_step {is js : List (Int × List UInt8)} {k : Nat} {i j : Int × List UInt8} (hi : is[k]? = some i) (hj : js[k]? = some j) : sameOs (is.drop k) (js.drop k) = (sameO i.1 i.2 j.1 j.2 && sameOs (is.drop (k + 1)) (js.drop (k + 1))) := by
  obtain ⟨h1, rfl⟩ := List.getElem?_eq_some_iff.1 hi
  obtain ⟨h2, rfl⟩ := List.getElem?_eq_some_iff.1 hj
  rw [List.drop_eq_getElem_cons h1, List.drop_eq_getElem_cons h2]; rfl
set_option maxRecDepth 100000 in
set_option maxHeartbeats 8000000 in
theorem tSameIn_any {i j : InP} {v u : Value} (w : World) (hi : i.id.length = 32) (hj : j.id.length = 32) (hv : IsVals w v (i.unlock.map VB)) (hu : IsVals w u (j.unlock.map VB)) : Calls Tryd.prog 45 #[.agg (inC i v), .agg (inC j u)] w (BoolPost w (sameI i j)) := by
  unfold sameI
  have hr := run_equalRefC hi hj i.at' j.at'
  obtain ⟨c1, h1⟩ : ∃ x, (decide (i.id = j.id) && decide ((i.at' : Int) = (j.at' : Int))) = x := ⟨_, rfl⟩
  obtain ⟨c2, h2⟩ : ∃ x, decide ((i.order : Int) = (j.order : Int)) = x := ⟨_, rfl⟩
  obtain ⟨c3, h3⟩ : ∃ x, (i.unlock == j.unlock) = x := ⟨_, rfl⟩
  rw [h1] at hr
  rw [h1, h2, h3]
  clear h1
  cases c1
  · go_enter Tryd.func45, Tryd.ntmps45
    go_wp2_with (first
      | ((with_reducible change wpList _ _ _ (Oper.mk (some 2) _ _ _ _ _ :: _) _ _); refine kBoxL _ _ _ rfl rfl rfl ?_; intro w1 hR1 hz1 hB1; have hv1 := hv.below hB1; have hu1 := hu.below hB1; go_frame)
      | ((with_reducible change wpList _ _ _ (Oper.mk (some 3) _ _ _ _ _ :: _) _ _); refine kBoxL _ _ _ rfl rfl rfl ?_; intro w2 hR2 hz2 hB2; have hR3 := hR1.below hB2 hR1.lt; have hv2 := hv1.below hB2; have hu2 := hu1.below hB2; have hB3 := hB1.trans (hB2.mono (Nat.le_of_lt hz1)); clear hR1 hv1 hu1 hB1 hB2 hz1 hz2; go_frame)
      | ((with_reducible change wpList _ _ _ (Oper.mk (some 5) _ _ _ _ _ :: _) _ _); refine kFld inCF0 _ _ 0 0 rfl rfl rfl rfl ?_; go_frame)
      | ((with_reducible change wpList _ _ _ (Oper.mk (some 6) _ _ _ _ _ :: _) _ _); refine kLoadInRef _ _ i v hR3 rfl rfl rfl ?_; go_frame)
      | ((with_reducible change wpList _ _ _ (Oper.mk (some 7) _ _ _ _ _ :: _) _ _); refine kFld inCF0 _ _ 0 0 rfl rfl rfl rfl ?_; go_frame)
      | ((with_reducible change wpList _ _ _ (Oper.mk (some 8) _ _ _ _ _ :: _) _ _); refine kLoadInRef _ _ j u hR2 rfl rfl rfl ?_; go_frame)
      | ((with_reducible change wpList _ _ _ (Oper.mk (some 9) _ _ _ _ _ :: _) _ _); refine kEqlSt _ _ _ _ eqGuard_RefC hr rfl rfl rfl rfl ?_; go_frame)
      | ((with_reducible change wpList _ _ _ (Oper.mk (some 11) _ _ _ _ _ :: _) _ _); refine kFld inCF2 _ _ 0 34 rfl rfl rfl rfl ?_; go_frame)
      | ((with_reducible change wpList _ _ _ (Oper.mk (some 12) _ _ _ _ _ :: _) _ _); refine kLd Tryd.underlying22 rfl _ _ 34 _ (.int .u32 (i.order : Int)) hR3 (inC_34 _ _) rfl rfl rfl ?_; go_frame)
      | ((with_reducible change wpList _ _ _ (Oper.mk (some 13) _ _ _ _ _ :: _) _ _); refine kFld inCF2 _ _ 0 34 rfl rfl rfl rfl ?_; go_frame)
      | ((with_reducible change wpList _ _ _ (Oper.mk (some 14) _ _ _ _ _ :: _) _ _); refine kLd Tryd.underlying22 rfl _ _ 34 _ (.int .u32 (j.order : Int)) hR2 (inC_34 _ _) rfl rfl rfl ?_; go_frame)
      | ((with_reducible change wpList _ _ _ (Oper.mk (some 15) _ _ _ _ _ :: _) _ _); refine kEqlI _ _ _ _ .u32 (i.order : Int) (j.order : Int) _ rfl rfl rfl rfl h2 ?_; go_frame)
      | ((with_reducible change wpList _ _ _ (Oper.mk (some 18) _ _ _ _ _ :: _) _ _); refine kFld inCF1 _ _ 0 33 rfl rfl rfl rfl ?_; go_frame)
      | ((with_reducible change wpList _ _ _ (Oper.mk (some 19) _ _ _ _ _ :: _) _ _); refine kLd Tryd.underlying28 rfl _ _ 33 _ v hR3 (inC_33 _ _) rfl rfl rfl ?_; go_frame)
      | ((with_reducible change wpList _ _ _ (Oper.mk (some 20) _ _ _ _ _ :: _) _ _); refine kFld inCF1 _ _ 0 33 rfl rfl rfl rfl ?_; go_frame)
      | ((with_reducible change wpList _ _ _ (Oper.mk (some 21) _ _ _ _ _ :: _) _ _); refine kLd Tryd.underlying28 rfl _ _ 33 _ u hR2 (inC_33 _ _) rfl rfl rfl ?_; go_frame)
      | (go_at_call 68; refine (cEqual_any _ hv2 hu2).mono ?_; rintro e w3 ⟨rfl, rfl⟩; rw [h3]; go_frame))
    go_ret
    exact ⟨rfl, hB3⟩
  cases c2
  · go_enter Tryd.func45, Tryd.ntmps45
    go_wp2_with (first
      | ((with_reducible change wpList _ _ _ (Oper.mk (some 2) _ _ _ _ _ :: _) _ _); refine kBoxL _ _ _ rfl rfl rfl ?_; intro w1 hR1 hz1 hB1; have hv1 := hv.below hB1; have hu1 := hu.below hB1; go_frame)
      | ((with_reducible change wpList _ _ _ (Oper.mk (some 3) _ _ _ _ _ :: _) _ _); refine kBoxL _ _ _ rfl rfl rfl ?_; intro w2 hR2 hz2 hB2; have hR3 := hR1.below hB2 hR1.lt; have hv2 := hv1.below hB2; have hu2 := hu1.below hB2; have hB3 := hB1.trans (hB2.mono (Nat.le_of_lt hz1)); clear hR1 hv1 hu1 hB1 hB2 hz1 hz2; go_frame)
      | ((with_reducible change wpList _ _ _ (Oper.mk (some 5) _ _ _ _ _ :: _) _ _); refine kFld inCF0 _ _ 0 0 rfl rfl rfl rfl ?_; go_frame)
      | ((with_reducible change wpList _ _ _ (Oper.mk (some 6) _ _ _ _ _ :: _) _ _); refine kLoadInRef _ _ i v hR3 rfl rfl rfl ?_; go_frame)
      | ((with_reducible change wpList _ _ _ (Oper.mk (some 7) _ _ _ _ _ :: _) _ _); refine kFld inCF0 _ _ 0 0 rfl rfl rfl rfl ?_; go_frame)
      | ((with_reducible change wpList _ _ _ (Oper.mk (some 8) _ _ _ _ _ :: _) _ _); refine kLoadInRef _ _ j u hR2 rfl rfl rfl ?_; go_frame)
      | ((with_reducible change wpList _ _ _ (Oper.mk (some 9) _ _ _ _ _ :: _) _ _); refine kEqlSt _ _ _ _ eqGuard_RefC hr rfl rfl rfl rfl ?_; go_frame)
      | ((with_reducible change wpList _ _ _ (Oper.mk (some 11) _ _ _ _ _ :: _) _ _); refine kFld inCF2 _ _ 0 34 rfl rfl rfl rfl ?_; go_frame)
      | ((with_reducible change wpList _ _ _ (Oper.mk (some 12) _ _ _ _ _ :: _) _ _); refine kLd Tryd.underlying22 rfl _ _ 34 _ (.int .u32 (i.order : Int)) hR3 (inC_34 _ _) rfl rfl rfl ?_; go_frame)
      | ((with_reducible change wpList _ _ _ (Oper.mk (some 13) _ _ _ _ _ :: _) _ _); refine kFld inCF2 _ _ 0 34 rfl rfl rfl rfl ?_; go_frame)
      | ((with_reducible change wpList _ _ _ (Oper.mk (some 14) _ _ _ _ _ :: _) _ _); refine kLd Tryd.underlying22 rfl _ _ 34 _ (.int .u32 (j.order : Int)) hR2 (inC_34 _ _) rfl rfl rfl ?_; go_frame)
      | ((with_reducible change wpList _ _ _ (Oper.mk (some 15) _ _ _ _ _ :: _) _ _); refine kEqlI _ _ _ _ .u32 (i.order : Int) (j.order : Int) _ rfl rfl rfl rfl h2 ?_; go_frame)
      | ((with_reducible change wpList _ _ _ (Oper.mk (some 18) _ _ _ _ _ :: _) _ _); refine kFld inCF1 _ _ 0 33 rfl rfl rfl rfl ?_; go_frame)
      | ((with_reducible change wpList _ _ _ (Oper.mk (some 19) _ _ _ _ _ :: _) _ _); refine kLd Tryd.underlying28 rfl _ _ 33 _ v hR3 (inC_33 _ _) rfl rfl rfl ?_; go_frame)
      | ((with_reducible change wpList _ _ _ (Oper.mk (some 20) _ _ _ _ _ :: _) _ _); refine kFld inCF1 _ _ 0 33 rfl rfl rfl rfl ?_; go_frame)
      | ((with_reducible change wpList _ _ _ (Oper.mk (some 21) _ _ _ _ _ :: _) _ _); refine kLd Tryd.underlying28 rfl _ _ 33 _ u hR2 (inC_33 _ _) rfl rfl rfl ?_; go_frame)
      | (go_at_call 68; refine (cEqual_any _ hv2 hu2).mono ?_; rintro e w3 ⟨rfl, rfl⟩; rw [h3]; go_frame))
    go_ret
    exact ⟨rfl, hB3⟩
  go_enter Tryd.func45, Tryd.ntmps45
  go_wp2_with (first
    | ((with_reducible change wpList _ _ _ (Oper.mk (some 2) _ _ _ _ _ :: _) _ _); refine kBoxL _ _ _ rfl rfl rfl ?_; intro w1 hR1 hz1 hB1; have hv1 := hv.below hB1; have hu1 := hu.below hB1; go_frame)
    | ((with_reducible change wpList _ _ _ (Oper.mk (some 3) _ _ _ _ _ :: _) _ _); refine kBoxL _ _ _ rfl rfl rfl ?_; intro w2 hR2 hz2 hB2; have hR3 := hR1.below hB2 hR1.lt; have hv2 := hv1.below hB2; have hu2 := hu1.below hB2; have hB3 := hB1.trans (hB2.mono (Nat.le_of_lt hz1)); clear hR1 hv1 hu1 hB1 hB2 hz1 hz2; go_frame)
    | ((with_reducible change wpList _ _ _ (Oper.mk (some 5) _ _ _ _ _ :: _) _ _); refine kFld inCF0 _ _ 0 0 rfl rfl rfl rfl ?_; go_frame)
    | ((with_reducible change wpList _ _ _ (Oper.mk (some 6) _ _ _ _ _ :: _) _ _); refine kLoadInRef _ _ i v hR3 rfl rfl rfl ?_; go_frame)
    | ((with_reducible change wpList _ _ _ (Oper.mk (some 7) _ _ _ _ _ :: _) _ _); refine kFld inCF0 _ _ 0 0 rfl rfl rfl rfl ?_; go_frame)
    | ((with_reducible change wpList _ _ _ (Oper.mk (some 8) _ _ _ _ _ :: _) _ _); refine kLoadInRef _ _ j u hR2 rfl rfl rfl ?_; go_frame)
    | ((with_reducible change wpList _ _ _ (Oper.mk (some 9) _ _ _ _ _ :: _) _ _); refine kEqlSt _ _ _ _ eqGuard_RefC hr rfl rfl rfl rfl ?_; go_frame)
    | ((with_reducible change wpList _ _ _ (Oper.mk (some 11) _ _ _ _ _ :: _) _ _); refine kFld inCF2 _ _ 0 34 rfl rfl rfl rfl ?_; go_frame)
    | ((with_reducible change wpList _ _ _ (Oper.mk (some 12) _ _ _ _ _ :: _) _ _); refine kLd Tryd.underlying22 rfl _ _ 34 _ (.int .u32 (i.order : Int)) hR3 (inC_34 _ _) rfl rfl rfl ?_; go_frame)
    | ((with_reducible change wpList _ _ _ (Oper.mk (some 13) _ _ _ _ _ :: _) _ _); refine kFld inCF2 _ _ 0 34 rfl rfl rfl rfl ?_; go_frame)
    | ((with_reducible change wpList _ _ _ (Oper.mk (some 14) _ _ _ _ _ :: _) _ _); refine kLd Tryd.underlying22 rfl _ _ 34 _ (.int .u32 (j.order : Int)) hR2 (inC_34 _ _) rfl rfl rfl ?_; go_frame)
    | ((with_reducible change wpList _ _ _ (Oper.mk (some 15) _ _ _ _ _ :: _) _ _); refine kEqlI _ _ _ _ .u32 (i.order : Int) (j.order : Int) _ rfl rfl rfl rfl h2 ?_; go_frame)
    | ((with_reducible change wpList _ _ _ (Oper.mk (some 18) _ _ _ _ _ :: _) _ _); refine kFld inCF1 _ _ 0 33 rfl rfl rfl rfl ?_; go_frame)
    | ((with_reducible change wpList _ _ _ (Oper.mk (some 19) _ _ _ _ _ :: _) _ _); refine kLd Tryd.underlying28 rfl _ _ 33 _ v hR3 (inC_33 _ _) rfl rfl rfl ?_; go_frame)
    | ((with_reducible change wpList _ _ _ (Oper.mk (some 20) _ _ _ _ _ :: _) _ _); refine kFld inCF1 _ _ 0 33 rfl rfl rfl rfl ?_; go_frame)
    | ((with_reducible change wpList _ _ _ (Oper.mk (some 21) _ _ _ _ _ :: _) _ _); refine kLd Tryd.underlying28 rfl _ _ 33 _ u hR2 (inC_33 _ _) rfl rfl rfl ?_; go_frame)
    | (go_at_call 68; refine (cEqual_any _ hv2 hu2).mono ?_; rintro e w3 ⟨rfl, rfl⟩; rw [h3]; go_frame))
  go_ret
  exact ⟨rfl, hB3⟩
set_option maxRecDepth 100000 in
set_option maxHeartbeats 8000000 in
theorem eqIns_any {is js : List InP} {a b : Value} (W0 : World) (ha : InsOf W0 a is) (hb : InsOf W0 b js) (hidI : ∀ i ∈ is, i.id.length = 32) (hidJ : ∀ i ∈ js, i.id.length = 32) (hlen : is.length ≤ 1000) : Calls Tryd.prog 44 #[a, b, .func (.func 45) #[] #[]] W0 (BoolPost W0 (sameIs is js)) := by
  obtain ⟨za, ea, ha⟩ := ha
  obtain ⟨zb, eb, hb⟩ := hb
  obtain ⟨N, hN⟩ : ∃ N, za.length = N := ⟨_, rfl⟩
  obtain ⟨M, hM⟩ : ∃ M, zb.length = M := ⟨_, rfl⟩
  have hiN : is.length = N := by rw [← fst_len ea, hN]
  have hjM : js.length = M := by rw [← fst_len eb, hM]
  by_cases hNM : N = M
  · subst hNM
    have hd : (!decide ((N : Int) = (N : Int))) = false := by simp
    obtain ⟨R, hR⟩ : ∃ R, sameIs is js = R := ⟨_, rfl⟩
    rw [hR]
    go_enter Tryd.func44, Tryd.ntmps44
    go_wp2_with (first
      | ((with_reducible change wpList _ _ _ (Oper.mk (some 11) _ _ _ _ _ :: _) _ _); refine kLenIns _ a za N ha hN rfl rfl rfl ?_; go_frame)
      | ((with_reducible change wpList _ _ _ (Oper.mk (some 13) _ _ _ _ _ :: _) _ _); refine kLenIns _ b zb N hb hM rfl rfl rfl ?_; go_frame)
      | ((with_reducible change wpList _ _ _ (Oper.mk (some 14) _ _ _ _ _ :: _) _ _); refine kNeqI _ _ _ _ .i64 (N : Int) (N : Int) false rfl rfl rfl rfl hd ?_; go_frame)
      | ((with_reducible change wpList _ _ _ (Oper.mk (some 16) _ _ _ _ _ :: _) _ _); refine kLenIns _ a za N ha hN rfl rfl rfl ?_; go_frame))
    go_loopw [17] (fun x wr => ∃ k : Nat, k ≤ N ∧ x = .int .i64 (k : Int) ∧ sameIs (is.drop k) (js.drop k) = R ∧ Below W0.heap.size W0 wr) (fun x _ => N - (intOf x).toNat)
    case atStart => exact ⟨0, by omega, rfl, by rw [List.drop_zero, List.drop_zero]; exact hR, Below.refl _ _⟩
    case round =>
      clear hR hd
      obtain ⟨k, hk, rfl, hR, hB⟩ := hrel
      have hsz := hB.size
      by_cases hlt : k < N
      · have hd : decide ((k : Int) < (N : Int)) = true := by simp; omega
        obtain ⟨⟨i, u⟩, hz⟩ : ∃ z, za[k]? = some z := ⟨_, List.getElem?_eq_getElem (by omega)⟩
        obtain ⟨⟨j, v⟩, hy⟩ : ∃ z, zb[k]? = some z := ⟨_, List.getElem?_eq_getElem (by omega)⟩
        have hik := fst_at ea hz
        have hjk := fst_at eb hy
        have hii := hidI i (List.mem_of_getElem? hik)
        have hjj := hidJ j (List.mem_of_getElem? hjk)
        have hu0 : IsVals W0 u (i.unlock.map VB) := ha.2 _ (List.mem_of_getElem? hz)
        have hv0 : IsVals W0 v (j.unlock.map VB) := hb.2 _ (List.mem_of_getElem? hy)
        rw [sameIs_step hik hjk] at hR
        obtain ⟨c, hc⟩ : ∃ c, sameI i j = c := ⟨_, rfl⟩
        rw [show sameI i j = c from hc] at hR
        have har := ha.below hB
        cases c
        · rw [Bool.false_and] at hR
          subst hR
          go_wp2_with (first
            | ((with_reducible change wpList _ _ _ (Oper.mk (some 18) _ _ _ _ _ :: _) _ _); refine kLssI _ _ _ _ .i64 (k : Int) (N : Int) true rfl rfl rfl rfl hd ?_; go_frame)
            | ((with_reducible change wpList _ _ _ (Oper.mk (some 20) _ _ _ _ _ :: _) _ _); refine kIndexIn _ _ a za k (i, u) har hz rfl rfl rfl rfl ?_; intro bb hbb; go_frame)
            | ((with_reducible change wpList _ _ _ (Oper.mk (some 21) _ _ _ _ _ :: _) _ _); refine kLoadInAt _ bb i u hbb rfl rfl rfl ?_; clear hbb har; go_frame)
            | ((with_reducible change wpList _ _ _ (Oper.mk (some 8) _ _ _ _ _ :: _) _ _); refine kAllocL _ _ rfl rfl zero_InC ?_; intro w5 hR5 hz5 hBq; have hB5 := hB.trans (hBq.mono hsz); have hsz5 := hB5.size; clear hB hBq hz5; go_frame)
            | ((with_reducible change wpList _ _ _ (Oper.mk none (Op.store _ (Operand.tmp 8) _) _ _ _ _ :: _) _ _); refine kStoreIn _ _ _ i u _ hR5 (inC_size _ _) hu0.sl.one rfl rfl rfl rfl ?_; intro w6 hR6 hW6; have hB6 := hB5.trans (hW6.below hsz); have hsz6 := hB6.size; have hbr := hb.below hB6; clear hB5 hW6 hR5 hsz5; go_frame)
            | ((with_reducible change wpList _ _ _ (Oper.mk (some 24) _ _ _ _ _ :: _) _ _); refine kIndexIn _ _ b zb k (j, v) hbr hy rfl rfl rfl rfl ?_; intro bb hbb; go_frame)
            | ((with_reducible change wpList _ _ _ (Oper.mk (some 25) _ _ _ _ _ :: _) _ _); refine kLoadInAt _ bb j v hbb rfl rfl rfl ?_; clear hbb hbr; go_frame)
            | ((with_reducible change wpList _ _ _ (Oper.mk (some 9) _ _ _ _ _ :: _) _ _); refine kAllocL _ _ rfl rfl zero_InC ?_; intro w7 hR7 hz7 hBq; have hR6b := hR6.below hBq hR6.lt; have hB7 := hB6.trans (hBq.mono hsz6); have hsz7 := hB7.size; have hne : Hid (wr.heap.size ≠ w6.heap.size) := Nat.ne_of_lt hR6.lt; clear hB6 hBq hz7; go_frame)
            | ((with_reducible change wpList _ _ _ (Oper.mk none (Op.store _ (Operand.tmp 9) _) _ _ _ _ :: _) _ _); refine kStoreIn _ _ _ j v _ hR7 (inC_size _ _) hv0.sl.one rfl rfl rfl rfl ?_; intro w8 hR8 hW8; have hR9 := hW8.row hR6b hne.out; have hB8 := hB7.trans (hW8.below hsz6); have hsz8 := hB8.size; have hu8 := hu0.below hB8; have hv8 := hv0.below hB8; clear hB7 hW8 hR7 hR6b hR6 hsz7; go_frame)
            | ((with_reducible change wpList _ _ _ (Oper.mk (some 27) _ _ _ _ _ :: _) _ _); refine kLoadIn _ _ i u hR9 rfl rfl rfl ?_; go_frame)
            | ((with_reducible change wpList _ _ _ (Oper.mk (some 28) _ _ _ _ _ :: _) _ _); refine kLoadIn _ _ j v hR8 rfl rfl rfl ?_; go_frame)
            | (go_at_call 45; refine (tSameIn_any _ hii hjj hu8 hv8).mono ?_; rintro e w9 ⟨rfl, hBq⟩; have hB9 := hB8.trans (hBq.mono hsz8); rw [hc]; clear hBq hB8 hu8 hv8 hR8 hR9; go_frame)
            | ((with_reducible change wpList _ _ _ (Oper.mk (some 30) _ _ _ _ _ :: _) _ _); refine kNot _ _ false rfl rfl rfl ?_; go_frame)
            | ((with_reducible change wpList _ _ _ (Oper.mk (some 31) _ _ _ _ _ :: _) _ _); refine kAddI _ _ _ _ (k : Int) 1 ((k + 1 : Nat) : Int) (by omega) rfl rfl rfl rfl ?_; go_frame))
          (try simp only [Exit.inBlock, Exit.then])
          refine retBT rfl rfl ?_
          exact ⟨rfl, hB9⟩
        · rw [Bool.true_and] at hR
          go_wp2_with (first
            | ((with_reducible change wpList _ _ _ (Oper.mk (some 18) _ _ _ _ _ :: _) _ _); refine kLssI _ _ _ _ .i64 (k : Int) (N : Int) true rfl rfl rfl rfl hd ?_; go_frame)
            | ((with_reducible change wpList _ _ _ (Oper.mk (some 20) _ _ _ _ _ :: _) _ _); refine kIndexIn _ _ a za k (i, u) har hz rfl rfl rfl rfl ?_; intro bb hbb; go_frame)
            | ((with_reducible change wpList _ _ _ (Oper.mk (some 21) _ _ _ _ _ :: _) _ _); refine kLoadInAt _ bb i u hbb rfl rfl rfl ?_; clear hbb har; go_frame)
            | ((with_reducible change wpList _ _ _ (Oper.mk (some 8) _ _ _ _ _ :: _) _ _); refine kAllocL _ _ rfl rfl zero_InC ?_; intro w5 hR5 hz5 hBq; have hB5 := hB.trans (hBq.mono hsz); have hsz5 := hB5.size; clear hB hBq hz5; go_frame)
            | ((with_reducible change wpList _ _ _ (Oper.mk none (Op.store _ (Operand.tmp 8) _) _ _ _ _ :: _) _ _); refine kStoreIn _ _ _ i u _ hR5 (inC_size _ _) hu0.sl.one rfl rfl rfl rfl ?_; intro w6 hR6 hW6; have hB6 := hB5.trans (hW6.below hsz); have hsz6 := hB6.size; have hbr := hb.below hB6; clear hB5 hW6 hR5 hsz5; go_frame)
            | ((with_reducible change wpList _ _ _ (Oper.mk (some 24) _ _ _ _ _ :: _) _ _); refine kIndexIn _ _ b zb k (j, v) hbr hy rfl rfl rfl rfl ?_; intro bb hbb; go_frame)
            | ((with_reducible change wpList _ _ _ (Oper.mk (some 25) _ _ _ _ _ :: _) _ _); refine kLoadInAt _ bb j v hbb rfl rfl rfl ?_; clear hbb hbr; go_frame)
            | ((with_reducible change wpList _ _ _ (Oper.mk (some 9) _ _ _ _ _ :: _) _ _); refine kAllocL _ _ rfl rfl zero_InC ?_; intro w7 hR7 hz7 hBq; have hR6b := hR6.below hBq hR6.lt; have hB7 := hB6.trans (hBq.mono hsz6); have hsz7 := hB7.size; have hne : Hid (wr.heap.size ≠ w6.heap.size) := Nat.ne_of_lt hR6.lt; clear hB6 hBq hz7; go_frame)
            | ((with_reducible change wpList _ _ _ (Oper.mk none (Op.store _ (Operand.tmp 9) _) _ _ _ _ :: _) _ _); refine kStoreIn _ _ _ j v _ hR7 (inC_size _ _) hv0.sl.one rfl rfl rfl rfl ?_; intro w8 hR8 hW8; have hR9 := hW8.row hR6b hne.out; have hB8 := hB7.trans (hW8.below hsz6); have hsz8 := hB8.size; have hu8 := hu0.below hB8; have hv8 := hv0.below hB8; clear hB7 hW8 hR7 hR6b hR6 hsz7; go_frame)
            | ((with_reducible change wpList _ _ _ (Oper.mk (some 27) _ _ _ _ _ :: _) _ _); refine kLoadIn _ _ i u hR9 rfl rfl rfl ?_; go_frame)
            | ((with_reducible change wpList _ _ _ (Oper.mk (some 28) _ _ _ _ _ :: _) _ _); refine kLoadIn _ _ j v hR8 rfl rfl rfl ?_; go_frame)
            | (go_at_call 45; refine (tSameIn_any _ hii hjj hu8 hv8).mono ?_; rintro e w9 ⟨rfl, hBq⟩; have hB9 := hB8.trans (hBq.mono hsz8); rw [hc]; clear hBq hB8 hu8 hv8 hR8 hR9; go_frame)
            | ((with_reducible change wpList _ _ _ (Oper.mk (some 30) _ _ _ _ _ :: _) _ _); refine kNot _ _ true rfl rfl rfl ?_; go_frame)
            | ((with_reducible change wpList _ _ _ (Oper.mk (some 31) _ _ _ _ _ :: _) _ _); refine kAddI _ _ _ _ (k : Int) 1 ((k + 1 : Nat) : Int) (by omega) rfl rfl rfl rfl ?_; go_frame))
          go_roundw
          case rel => exact ⟨k + 1, by omega, rfl, hR, hB9⟩
          case measure => simp [intOf]; omega
      · have hd : decide ((k : Int) < (N : Int)) = false := by simp; omega
        have hR1 : true = R := by rw [← hR, List.drop_of_length_le (by omega), List.drop_of_length_le (by omega)]; rfl
        subst hR1
        go_wp2_with (first
          | ((with_reducible change wpList _ _ _ (Oper.mk (some 18) _ _ _ _ _ :: _) _ _); refine kLssI _ _ _ _ .i64 (k : Int) (N : Int) false rfl rfl rfl rfl hd ?_; go_frame))
        go_ret
        exact ⟨rfl, hB⟩
  · have hd : (!decide ((N : Int) = (M : Int))) = true := by simp; omega
    rw [sameIs_len (by omega)]
    go_enter Tryd.func44, Tryd.ntmps44
    go_wp2_with (first
      | ((with_reducible change wpList _ _ _ (Oper.mk (some 11) _ _ _ _ _ :: _) _ _); refine kLenIns _ a za N ha hN rfl rfl rfl ?_; go_frame)
      | ((with_reducible change wpList _ _ _ (Oper.mk (some 13) _ _ _ _ _ :: _) _ _); refine kLenIns _ b zb M hb hM rfl rfl rfl ?_; go_frame)
      | ((with_reducible change wpList _ _ _ (Oper.mk (some 14) _ _ _ _ _ :: _) _ _); refine kNeqI _ _ _ _ .i64 (N : Int) (M : Int) true rfl rfl rfl rfl hd ?_; go_frame))
    (try simp only [Exit.inBlock, Exit.then])
    refine retBT rfl rfl ?_
    exact ⟨rfl, Below.refl _ _⟩
set_option maxRecDepth 100000 in
set_option maxHeartbeats 8000000 in
theorem eqOuts_any {is js : List (Int × List UInt8)} {a b : Value} (W0 : World) (ha : OutsOf W0 a is) (hb : OutsOf W0 b js) (hlen : is.length ≤ 1000) : Calls Tryd.prog 46 #[a, b, .func (.func 47) #[] #[]] W0 (BoolPost W0 (sameOs is js)) := by
  obtain ⟨za, ea, ha⟩ := ha
  obtain ⟨zb, eb, hb⟩ := hb
  obtain ⟨N, hN⟩ : ∃ N, za.length = N := ⟨_, rfl⟩
  obtain ⟨M, hM⟩ : ∃ M, zb.length = M := ⟨_, rfl⟩
  have hiN : is.length = N := by rw [← fst_len ea, hN]
  have hjM : js.length = M := by rw [← fst_len eb, hM]
  by_cases hNM : N = M
  · subst hNM
    have hd : (!decide ((N : Int) = (N : Int))) = false := by simp
    obtain ⟨R, hR⟩ : ∃ R, sameOs is js = R := ⟨_, rfl⟩
    rw [hR]
    go_enter Tryd.func46, Tryd.ntmps46
    go_wp2_with (first
      | ((with_reducible change wpList _ _ _ (Oper.mk (some 11) _ _ _ _ _ :: _) _ _); refine kLenOutsT _ a za N ha hN rfl rfl rfl ?_; go_frame)
      | ((with_reducible change wpList _ _ _ (Oper.mk (some 13) _ _ _ _ _ :: _) _ _); refine kLenOutsT _ b zb N hb hM rfl rfl rfl ?_; go_frame)
      | ((with_reducible change wpList _ _ _ (Oper.mk (some 14) _ _ _ _ _ :: _) _ _); refine kNeqI _ _ _ _ .i64 (N : Int) (N : Int) false rfl rfl rfl rfl hd ?_; go_frame)
      | ((with_reducible change wpList _ _ _ (Oper.mk (some 16) _ _ _ _ _ :: _) _ _); refine kLenOutsT _ a za N ha hN rfl rfl rfl ?_; go_frame))
    go_loopw [17] (fun x wr => ∃ k : Nat, k ≤ N ∧ x = .int .i64 (k : Int) ∧ sameOs (is.drop k) (js.drop k) = R ∧ Below W0.heap.size W0 wr) (fun x _ => N - (intOf x).toNat)
    case atStart => exact ⟨0, by omega, rfl, by rw [List.drop_zero, List.drop_zero]; exact hR, Below.refl _ _⟩
    case round =>
      clear hR hd
      obtain ⟨k, hk, rfl, hR, hB⟩ := hrel
      have hsz := hB.size
      by_cases hlt : k < N
      · have hd : decide ((k : Int) < (N : Int)) = true := by simp; omega
        obtain ⟨⟨⟨q, l⟩, u⟩, hz⟩ : ∃ z, za[k]? = some z := ⟨_, List.getElem?_eq_getElem (by omega)⟩
        obtain ⟨⟨⟨q2, l2⟩, v⟩, hy⟩ : ∃ z, zb[k]? = some z := ⟨_, List.getElem?_eq_getElem (by omega)⟩
        have hik := fst_at ea hz
        have hjk := fst_at eb hy
        have hu0 : IsVals W0 u (l.map VB) := ha.2 _ (List.mem_of_getElem? hz)
        have hv0 : IsVals W0 v (l2.map VB) := hb.2 _ (List.mem_of_getElem? hy)
        rw [sameOs_step hik hjk] at hR
        obtain ⟨c, hc⟩ : ∃ c, sameO q l q2 l2 = c := ⟨_, rfl⟩
        rw [show sameO (q, l).1 (q, l).2 (q2, l2).1 (q2, l2).2 = c from hc] at hR
        have har := ha.below hB
        cases c
        · rw [Bool.false_and] at hR
          subst hR
          go_wp2_with (first
            | ((with_reducible change wpList _ _ _ (Oper.mk (some 18) _ _ _ _ _ :: _) _ _); refine kLssI _ _ _ _ .i64 (k : Int) (N : Int) true rfl rfl rfl rfl hd ?_; go_frame)
            | ((with_reducible change wpList _ _ _ (Oper.mk (some 20) _ _ _ _ _ :: _) _ _); refine kIndexOutT _ _ a za k ((q, l), u) har hz rfl rfl rfl rfl ?_; intro bb hbb; go_frame)
            | ((with_reducible change wpList _ _ _ (Oper.mk (some 21) _ _ _ _ _ :: _) _ _); refine kLoadOutT _ bb q l u hbb rfl rfl rfl ?_; clear hbb har; go_frame)
            | ((with_reducible change wpList _ _ _ (Oper.mk (some 8) _ _ _ _ _ :: _) _ _); refine kAllocL _ _ rfl rfl zero_OutC ?_; intro w5 hR5 hz5 hBq; have hB5 := hB.trans (hBq.mono hsz); have hsz5 := hB5.size; clear hB hBq hz5; go_frame)
            | ((with_reducible change wpList _ _ _ (Oper.mk none (Op.store _ (Operand.tmp 8) _) _ _ _ _ :: _) _ _); refine kStoreOut _ _ _ q u _ hR5 rfl hu0 rfl rfl rfl rfl ?_; intro w6 hR6 hW6; have hB6 := hB5.trans (hW6.below hsz); have hsz6 := hB6.size; have hbr := hb.below hB6; clear hB5 hW6 hR5 hsz5; go_frame)
            | ((with_reducible change wpList _ _ _ (Oper.mk (some 24) _ _ _ _ _ :: _) _ _); refine kIndexOutT _ _ b zb k ((q2, l2), v) hbr hy rfl rfl rfl rfl ?_; intro bb hbb; go_frame)
            | ((with_reducible change wpList _ _ _ (Oper.mk (some 25) _ _ _ _ _ :: _) _ _); refine kLoadOutT _ bb q2 l2 v hbb rfl rfl rfl ?_; clear hbb hbr; go_frame)
            | ((with_reducible change wpList _ _ _ (Oper.mk (some 9) _ _ _ _ _ :: _) _ _); refine kAllocL _ _ rfl rfl zero_OutC ?_; intro w7 hR7 hz7 hBq; have hR6b := hR6.below hBq hR6.lt; have hB7 := hB6.trans (hBq.mono hsz6); have hsz7 := hB7.size; have hne : Hid (wr.heap.size ≠ w6.heap.size) := Nat.ne_of_lt hR6.lt; clear hB6 hBq hz7; go_frame)
            | ((with_reducible change wpList _ _ _ (Oper.mk none (Op.store _ (Operand.tmp 9) _) _ _ _ _ :: _) _ _); refine kStoreOut _ _ _ q2 v _ hR7 rfl hv0 rfl rfl rfl rfl ?_; intro w8 hR8 hW8; have hR9 := hW8.row hR6b hne.out; have hB8 := hB7.trans (hW8.below hsz6); have hsz8 := hB8.size; have hu8 := hu0.below hB8; have hv8 := hv0.below hB8; clear hB7 hW8 hR7 hR6b hR6 hsz7; go_frame)
            | ((with_reducible change wpList _ _ _ (Oper.mk (some 27) _ _ _ _ _ :: _) _ _); refine kLoadOut _ _ q u hR9 rfl rfl rfl ?_; go_frame)
            | ((with_reducible change wpList _ _ _ (Oper.mk (some 28) _ _ _ _ _ :: _) _ _); refine kLoadOut _ _ q2 v hR8 rfl rfl rfl ?_; go_frame)
            | (go_at_call 47; refine (coSame_any _ hu8 hv8).mono ?_; rintro e w9 ⟨rfl, hBq⟩; have hB9 := hB8.trans (hBq.mono hsz8); rw [hc]; clear hBq hB8 hu8 hv8 hR8 hR9; go_frame)
            | ((with_reducible change wpList _ _ _ (Oper.mk (some 30) _ _ _ _ _ :: _) _ _); refine kNot _ _ false rfl rfl rfl ?_; go_frame)
            | ((with_reducible change wpList _ _ _ (Oper.mk (some 31) _ _ _ _ _ :: _) _ _); refine kAddI _ _ _ _ (k : Int) 1 ((k + 1 : Nat) : Int) (by omega) rfl rfl rfl rfl ?_; go_frame))
          (try simp only [Exit.inBlock, Exit.then])
          refine retBT rfl rfl ?_
          exact ⟨rfl, hB9⟩
        · rw [Bool.true_and] at hR
          go_wp2_with (first
            | ((with_reducible change wpList _ _ _ (Oper.mk (some 18) _ _ _ _ _ :: _) _ _); refine kLssI _ _ _ _ .i64 (k : Int) (N : Int) true rfl rfl rfl rfl hd ?_; go_frame)
            | ((with_reducible change wpList _ _ _ (Oper.mk (some 20) _ _ _ _ _ :: _) _ _); refine kIndexOutT _ _ a za k ((q, l), u) har hz rfl rfl rfl rfl ?_; intro bb hbb; go_frame)
            | ((with_reducible change wpList _ _ _ (Oper.mk (some 21) _ _ _ _ _ :: _) _ _); refine kLoadOutT _ bb q l u hbb rfl rfl rfl ?_; clear hbb har; go_frame)
            | ((with_reducible change wpList _ _ _ (Oper.mk (some 8) _ _ _ _ _ :: _) _ _); refine kAllocL _ _ rfl rfl zero_OutC ?_; intro w5 hR5 hz5 hBq; have hB5 := hB.trans (hBq.mono hsz); have hsz5 := hB5.size; clear hB hBq hz5; go_frame)
            | ((with_reducible change wpList _ _ _ (Oper.mk none (Op.store _ (Operand.tmp 8) _) _ _ _ _ :: _) _ _); refine kStoreOut _ _ _ q u _ hR5 rfl hu0 rfl rfl rfl rfl ?_; intro w6 hR6 hW6; have hB6 := hB5.trans (hW6.below hsz); have hsz6 := hB6.size; have hbr := hb.below hB6; clear hB5 hW6 hR5 hsz5; go_frame)
            | ((with_reducible change wpList _ _ _ (Oper.mk (some 24) _ _ _ _ _ :: _) _ _); refine kIndexOutT _ _ b zb k ((q2, l2), v) hbr hy rfl rfl rfl rfl ?_; intro bb hbb; go_frame)
            | ((with_reducible change wpList _ _ _ (Oper.mk (some 25) _ _ _ _ _ :: _) _ _); refine kLoadOutT _ bb q2 l2 v hbb rfl rfl rfl ?_; clear hbb hbr; go_frame)
            | ((with_reducible change wpList _ _ _ (Oper.mk (some 9) _ _ _ _ _ :: _) _ _); refine kAllocL _ _ rfl rfl zero_OutC ?_; intro w7 hR7 hz7 hBq; have hR6b := hR6.below hBq hR6.lt; have hB7 := hB6.trans (hBq.mono hsz6); have hsz7 := hB7.size; have hne : Hid (wr.heap.size ≠ w6.heap.size) := Nat.ne_of_lt hR6.lt; clear hB6 hBq hz7; go_frame)
            | ((with_reducible change wpList _ _ _ (Oper.mk none (Op.store _ (Operand.tmp 9) _) _ _ _ _ :: _) _ _); refine kStoreOut _ _ _ q2 v _ hR7 rfl hv0 rfl rfl rfl rfl ?_; intro w8 hR8 hW8; have hR9 := hW8.row hR6b hne.out; have hB8 := hB7.trans (hW8.below hsz6); have hsz8 := hB8.size; have hu8 := hu0.below hB8; have hv8 := hv0.below hB8; clear hB7 hW8 hR7 hR6b hR6 hsz7; go_frame)
            | ((with_reducible change wpList _ _ _ (Oper.mk (some 27) _ _ _ _ _ :: _) _ _); refine kLoadOut _ _ q u hR9 rfl rfl rfl ?_; go_frame)
            | ((with_reducible change wpList _ _ _ (Oper.mk (some 28) _ _ _ _ _ :: _) _ _); refine kLoadOut _ _ q2 v hR8 rfl rfl rfl ?_; go_frame)
            | (go_at_call 47; refine (coSame_any _ hu8 hv8).mono ?_; rintro e w9 ⟨rfl, hBq⟩; have hB9 := hB8.trans (hBq.mono hsz8); rw [hc]; clear hBq hB8 hu8 hv8 hR8 hR9; go_frame)
            | ((with_reducible change wpList _ _ _ (Oper.mk (some 30) _ _ _ _ _ :: _) _ _); refine kNot _ _ true rfl rfl rfl ?_; go_frame)
            | ((with_reducible change wpList _ _ _ (Oper.mk (some 31) _ _ _ _ _ :: _) _ _); refine kAddI _ _ _ _ (k : Int) 1 ((k + 1 : Nat) : Int) (by omega) rfl rfl rfl rfl ?_; go_frame))
          go_roundw
          case rel => exact ⟨k + 1, by omega, rfl, hR, hB9⟩
          case measure => simp [intOf]; omega
      · have hd : decide ((k : Int) < (N : Int)) = false := by simp; omega
        have hR1 : true = R := by rw [← hR, List.drop_of_length_le (by omega), List.drop_of_length_le (by omega)]; rfl
        subst hR1
        go_wp2_with (first
          | ((with_reducible change wpList _ _ _ (Oper.mk (some 18) _ _ _ _ _ :: _) _ _); refine kLssI _ _ _ _ .i64 (k : Int) (N : Int) false rfl rfl rfl rfl hd ?_; go_frame))
        go_ret
        exact ⟨rfl, hB⟩
  · have hd : (!decide ((N : Int) = (M : Int))) = true := by simp; omega
    rw [sameOs_len (by omega)]
    go_enter Tryd.func46, Tryd.ntmps46
    go_wp2_with (first
      | ((with_reducible change wpList _ _ _ (Oper.mk (some 11) _ _ _ _ _ :: _) _ _); refine kLenOutsT _ a za N ha hN rfl rfl rfl ?_; go_frame)
      | ((with_reducible change wpList _ _ _ (Oper.mk (some 13) _ _ _ _ _ :: _) _ _); refine kLenOutsT _ b zb M hb hM rfl rfl rfl ?_; go_frame)
      | ((with_reducible change wpList _ _ _ (Oper.mk (some 14) _ _ _ _ _ :: _) _ _); refine kNeqI _ _ _ _ .i64 (N : Int) (M : Int) true rfl rfl rfl rfl hd ?_; go_frame))
    (try simp only [Exit.inBlock, Exit.then])
    refine retBT rfl rfl ?_
    exact ⟨rfl, Below.refl _ _⟩
end Go.Proofs.YtaoaecbdjdcpdaaDoor

/-
  Layer 10: transactions held against each other; what makes something; what is spent twice.
-/
namespace Go.Proofs.YtaoaecbdjdcpdaaDoor
open Go Go.RowKit

set_option maxRecDepth 100000 in
set_option maxHeartbeats 8000000 in
theorem tSame_any {t u : TxP} {a b x y : Value} (W0 : World) (ht : t.Is) (hu : u.Is) (hl : t.ins.length ≤ 1000 ∧ t.outs.length ≤ 1000) (ha : InsOf W0 a t.ins) (hb : OutsOf W0 b t.outs) (hx : InsOf W0 x u.ins) (hy : OutsOf W0 y u.outs) : Calls Tryd.prog 17 #[.agg (txC t.version a b t.end'), .agg (txC u.version x y u.end')] W0 (BoolPost W0 (sameT t u)) := by
  unfold sameT
  have hti : ∀ i ∈ t.ins, i.id.length = 32 := fun i hi => (ht.2.2.1 i hi).1
  have hui : ∀ i ∈ u.ins, i.id.length = 32 := fun i hi => (hu.2.2.1 i hi).1
  obtain ⟨c1, h1⟩ : ∃ x, decide ((t.version : Int) = (u.version : Int)) = x := ⟨_, rfl⟩
  obtain ⟨c2, h2⟩ : ∃ x, decide ((t.end' : Int) = (u.end' : Int)) = x := ⟨_, rfl⟩
  obtain ⟨c3, h3⟩ : ∃ x, sameIs t.ins u.ins = x := ⟨_, rfl⟩
  obtain ⟨c4, h4⟩ : ∃ x, sameOs t.outs u.outs = x := ⟨_, rfl⟩
  rw [h1, h2, h3, h4]
  cases c1
  · go_enter Tryd.func17, Tryd.ntmps17
    go_wp2_with (first
      | ((with_reducible change wpList _ _ _ (Oper.mk (some 2) _ _ _ _ _ :: _) _ _); refine kBoxL _ _ _ rfl rfl rfl ?_; intro w1 hR1 hz1 hB1; go_frame)
      | ((with_reducible change wpList _ _ _ (Oper.mk (some 3) _ _ _ _ _ :: _) _ _); refine kBoxL _ _ _ rfl rfl rfl ?_; intro w2 hR2 hz2 hB2; have hR3 := hR1.below hB2 hR1.lt; have hB3 := hB1.trans (hB2.mono (Nat.le_of_lt hz1)); have ha2 := ha.below hB3; have hb2 := hb.below hB3; have hx2 := hx.below hB3; have hy2 := hy.below hB3; clear hR1 hB1 hB2 hz1 hz2; go_frame)
      | ((with_reducible change wpList _ _ _ (Oper.mk (some 5) _ _ _ _ _ :: _) _ _); refine kFld txCF0 _ _ 0 0 rfl rfl rfl rfl ?_; go_frame)
      | ((with_reducible change wpList _ _ _ (Oper.mk (some 6) _ _ _ _ _ :: _) _ _); refine kLd Tryd.underlying22 rfl _ _ 0 _ (.int .u32 (t.version : Int)) hR3 rfl rfl rfl rfl ?_; go_frame)
      | ((with_reducible change wpList _ _ _ (Oper.mk (some 7) _ _ _ _ _ :: _) _ _); refine kFld txCF0 _ _ 0 0 rfl rfl rfl rfl ?_; go_frame)
      | ((with_reducible change wpList _ _ _ (Oper.mk (some 8) _ _ _ _ _ :: _) _ _); refine kLd Tryd.underlying22 rfl _ _ 0 _ (.int .u32 (u.version : Int)) hR2 rfl rfl rfl rfl ?_; go_frame)
      | ((with_reducible change wpList _ _ _ (Oper.mk (some 9) _ _ _ _ _ :: _) _ _); refine kEqlI _ _ _ _ .u32 (t.version : Int) (u.version : Int) _ rfl rfl rfl rfl h1 ?_; go_frame)
      | ((with_reducible change wpList _ _ _ (Oper.mk (some 11) _ _ _ _ _ :: _) _ _); refine kFld txCF3 _ _ 0 3 rfl rfl rfl rfl ?_; go_frame)
      | ((with_reducible change wpList _ _ _ (Oper.mk (some 12) _ _ _ _ _ :: _) _ _); refine kLd Tryd.underlying22 rfl _ _ 3 _ (.int .u32 (t.end' : Int)) hR3 rfl rfl rfl rfl ?_; go_frame)
      | ((with_reducible change wpList _ _ _ (Oper.mk (some 13) _ _ _ _ _ :: _) _ _); refine kFld txCF3 _ _ 0 3 rfl rfl rfl rfl ?_; go_frame)
      | ((with_reducible change wpList _ _ _ (Oper.mk (some 14) _ _ _ _ _ :: _) _ _); refine kLd Tryd.underlying22 rfl _ _ 3 _ (.int .u32 (u.end' : Int)) hR2 rfl rfl rfl rfl ?_; go_frame)
      | ((with_reducible change wpList _ _ _ (Oper.mk (some 15) _ _ _ _ _ :: _) _ _); refine kEqlI _ _ _ _ .u32 (t.end' : Int) (u.end' : Int) _ rfl rfl rfl rfl h2 ?_; go_frame)
      | ((with_reducible change wpList _ _ _ (Oper.mk (some 18) _ _ _ _ _ :: _) _ _); refine kFld txCF1 _ _ 0 1 rfl rfl rfl rfl ?_; go_frame)
      | ((with_reducible change wpList _ _ _ (Oper.mk (some 19) _ _ _ _ _ :: _) _ _); refine kLd Tryd.underlying23 rfl _ _ 1 _ (a) hR3 rfl rfl rfl rfl ?_; go_frame)
      | ((with_reducible change wpList _ _ _ (Oper.mk (some 20) _ _ _ _ _ :: _) _ _); refine kFld txCF1 _ _ 0 1 rfl rfl rfl rfl ?_; go_frame)
      | ((with_reducible change wpList _ _ _ (Oper.mk (some 21) _ _ _ _ _ :: _) _ _); refine kLd Tryd.underlying23 rfl _ _ 1 _ (x) hR2 rfl rfl rfl rfl ?_; go_frame)
      | (go_at_call 44; refine (eqIns_any _ ha2 hx2 hti hui hl.1).mono ?_; rintro e w3 ⟨rfl, hBq⟩; rw [h3]; have hR5 := hR3.below hBq hR3.lt; have hR6 := hR2.below hBq hR2.lt; have hb3 := hb2.below hBq; have hy3 := hy2.below hBq; have hB5 := hB3.trans (hBq.mono hB3.size); clear hBq ha2 hb2 hx2 hy2 hR2 hR3 hB3; go_frame)
      | ((with_reducible change wpList _ _ _ (Oper.mk (some 25) _ _ _ _ _ :: _) _ _); refine kFld txCF2 _ _ 0 2 rfl rfl rfl rfl ?_; go_frame)
      | ((with_reducible change wpList _ _ _ (Oper.mk (some 26) _ _ _ _ _ :: _) _ _); refine kLd Tryd.underlying24 rfl _ _ 2 _ (b) hR5 rfl rfl rfl rfl ?_; go_frame)
      | ((with_reducible change wpList _ _ _ (Oper.mk (some 27) _ _ _ _ _ :: _) _ _); refine kFld txCF2 _ _ 0 2 rfl rfl rfl rfl ?_; go_frame)
      | ((with_reducible change wpList _ _ _ (Oper.mk (some 28) _ _ _ _ _ :: _) _ _); refine kLd Tryd.underlying24 rfl _ _ 2 _ (y) hR6 rfl rfl rfl rfl ?_; go_frame)
      | (go_at_call 46; refine (eqOuts_any _ hb3 hy3 hl.2).mono ?_; rintro e w4 ⟨rfl, hBq⟩; rw [h4]; have hB6 := hB5.trans (hBq.mono hB5.size); clear hBq hB5; go_frame))
    go_ret
    exact ⟨rfl, hB3⟩
  cases c2
  · go_enter Tryd.func17, Tryd.ntmps17
    go_wp2_with (first
      | ((with_reducible change wpList _ _ _ (Oper.mk (some 2) _ _ _ _ _ :: _) _ _); refine kBoxL _ _ _ rfl rfl rfl ?_; intro w1 hR1 hz1 hB1; go_frame)
      | ((with_reducible change wpList _ _ _ (Oper.mk (some 3) _ _ _ _ _ :: _) _ _); refine kBoxL _ _ _ rfl rfl rfl ?_; intro w2 hR2 hz2 hB2; have hR3 := hR1.below hB2 hR1.lt; have hB3 := hB1.trans (hB2.mono (Nat.le_of_lt hz1)); have ha2 := ha.below hB3; have hb2 := hb.below hB3; have hx2 := hx.below hB3; have hy2 := hy.below hB3; clear hR1 hB1 hB2 hz1 hz2; go_frame)
      | ((with_reducible change wpList _ _ _ (Oper.mk (some 5) _ _ _ _ _ :: _) _ _); refine kFld txCF0 _ _ 0 0 rfl rfl rfl rfl ?_; go_frame)
      | ((with_reducible change wpList _ _ _ (Oper.mk (some 6) _ _ _ _ _ :: _) _ _); refine kLd Tryd.underlying22 rfl _ _ 0 _ (.int .u32 (t.version : Int)) hR3 rfl rfl rfl rfl ?_; go_frame)
      | ((with_reducible change wpList _ _ _ (Oper.mk (some 7) _ _ _ _ _ :: _) _ _); refine kFld txCF0 _ _ 0 0 rfl rfl rfl rfl ?_; go_frame)
      | ((with_reducible change wpList _ _ _ (Oper.mk (some 8) _ _ _ _ _ :: _) _ _); refine kLd Tryd.underlying22 rfl _ _ 0 _ (.int .u32 (u.version : Int)) hR2 rfl rfl rfl rfl ?_; go_frame)
      | ((with_reducible change wpList _ _ _ (Oper.mk (some 9) _ _ _ _ _ :: _) _ _); refine kEqlI _ _ _ _ .u32 (t.version : Int) (u.version : Int) _ rfl rfl rfl rfl h1 ?_; go_frame)
      | ((with_reducible change wpList _ _ _ (Oper.mk (some 11) _ _ _ _ _ :: _) _ _); refine kFld txCF3 _ _ 0 3 rfl rfl rfl rfl ?_; go_frame)
      | ((with_reducible change wpList _ _ _ (Oper.mk (some 12) _ _ _ _ _ :: _) _ _); refine kLd Tryd.underlying22 rfl _ _ 3 _ (.int .u32 (t.end' : Int)) hR3 rfl rfl rfl rfl ?_; go_frame)
      | ((with_reducible change wpList _ _ _ (Oper.mk (some 13) _ _ _ _ _ :: _) _ _); refine kFld txCF3 _ _ 0 3 rfl rfl rfl rfl ?_; go_frame)
      | ((with_reducible change wpList _ _ _ (Oper.mk (some 14) _ _ _ _ _ :: _) _ _); refine kLd Tryd.underlying22 rfl _ _ 3 _ (.int .u32 (u.end' : Int)) hR2 rfl rfl rfl rfl ?_; go_frame)
      | ((with_reducible change wpList _ _ _ (Oper.mk (some 15) _ _ _ _ _ :: _) _ _); refine kEqlI _ _ _ _ .u32 (t.end' : Int) (u.end' : Int) _ rfl rfl rfl rfl h2 ?_; go_frame)
      | ((with_reducible change wpList _ _ _ (Oper.mk (some 18) _ _ _ _ _ :: _) _ _); refine kFld txCF1 _ _ 0 1 rfl rfl rfl rfl ?_; go_frame)
      | ((with_reducible change wpList _ _ _ (Oper.mk (some 19) _ _ _ _ _ :: _) _ _); refine kLd Tryd.underlying23 rfl _ _ 1 _ (a) hR3 rfl rfl rfl rfl ?_; go_frame)
      | ((with_reducible change wpList _ _ _ (Oper.mk (some 20) _ _ _ _ _ :: _) _ _); refine kFld txCF1 _ _ 0 1 rfl rfl rfl rfl ?_; go_frame)
      | ((with_reducible change wpList _ _ _ (Oper.mk (some 21) _ _ _ _ _ :: _) _ _); refine kLd Tryd.underlying23 rfl _ _ 1 _ (x) hR2 rfl rfl rfl rfl ?_; go_frame)
      | (go_at_call 44; refine (eqIns_any _ ha2 hx2 hti hui hl.1).mono ?_; rintro e w3 ⟨rfl, hBq⟩; rw [h3]; have hR5 := hR3.below hBq hR3.lt; have hR6 := hR2.below hBq hR2.lt; have hb3 := hb2.below hBq; have hy3 := hy2.below hBq; have hB5 := hB3.trans (hBq.mono hB3.size); clear hBq ha2 hb2 hx2 hy2 hR2 hR3 hB3; go_frame)
      | ((with_reducible change wpList _ _ _ (Oper.mk (some 25) _ _ _ _ _ :: _) _ _); refine kFld txCF2 _ _ 0 2 rfl rfl rfl rfl ?_; go_frame)
      | ((with_reducible change wpList _ _ _ (Oper.mk (some 26) _ _ _ _ _ :: _) _ _); refine kLd Tryd.underlying24 rfl _ _ 2 _ (b) hR5 rfl rfl rfl rfl ?_; go_frame)
      | ((with_reducible change wpList _ _ _ (Oper.mk (some 27) _ _ _ _ _ :: _) _ _); refine kFld txCF2 _ _ 0 2 rfl rfl rfl rfl ?_; go_frame)
      | ((with_reducible change wpList _ _ _ (Oper.mk (some 28) _ _ _ _ _ :: _) _ _); refine kLd Tryd.underlying24 rfl _ _ 2 _ (y) hR6 rfl rfl rfl rfl ?_; go_frame)
      | (go_at_call 46; refine (eqOuts_any _ hb3 hy3 hl.2).mono ?_; rintro e w4 ⟨rfl, hBq⟩; rw [h4]; have hB6 := hB5.trans (hBq.mono hB5.size); clear hBq hB5; go_frame))
    go_ret
    exact ⟨rfl, hB3⟩
  cases c3
  · go_enter Tryd.func17, Tryd.ntmps17
    go_wp2_with (first
      | ((with_reducible change wpList _ _ _ (Oper.mk (some 2) _ _ _ _ _ :: _) _ _); refine kBoxL _ _ _ rfl rfl rfl ?_; intro w1 hR1 hz1 hB1; go_frame)
      | ((with_reducible change wpList _ _ _ (Oper.mk (some 3) _ _ _ _ _ :: _) _ _); refine kBoxL _ _ _ rfl rfl rfl ?_; intro w2 hR2 hz2 hB2; have hR3 := hR1.below hB2 hR1.lt; have hB3 := hB1.trans (hB2.mono (Nat.le_of_lt hz1)); have ha2 := ha.below hB3; have hb2 := hb.below hB3; have hx2 := hx.below hB3; have hy2 := hy.below hB3; clear hR1 hB1 hB2 hz1 hz2; go_frame)
      | ((with_reducible change wpList _ _ _ (Oper.mk (some 5) _ _ _ _ _ :: _) _ _); refine kFld txCF0 _ _ 0 0 rfl rfl rfl rfl ?_; go_frame)
      | ((with_reducible change wpList _ _ _ (Oper.mk (some 6) _ _ _ _ _ :: _) _ _); refine kLd Tryd.underlying22 rfl _ _ 0 _ (.int .u32 (t.version : Int)) hR3 rfl rfl rfl rfl ?_; go_frame)
      | ((with_reducible change wpList _ _ _ (Oper.mk (some 7) _ _ _ _ _ :: _) _ _); refine kFld txCF0 _ _ 0 0 rfl rfl rfl rfl ?_; go_frame)
      | ((with_reducible change wpList _ _ _ (Oper.mk (some 8) _ _ _ _ _ :: _) _ _); refine kLd Tryd.underlying22 rfl _ _ 0 _ (.int .u32 (u.version : Int)) hR2 rfl rfl rfl rfl ?_; go_frame)
      | ((with_reducible change wpList _ _ _ (Oper.mk (some 9) _ _ _ _ _ :: _) _ _); refine kEqlI _ _ _ _ .u32 (t.version : Int) (u.version : Int) _ rfl rfl rfl rfl h1 ?_; go_frame)
      | ((with_reducible change wpList _ _ _ (Oper.mk (some 11) _ _ _ _ _ :: _) _ _); refine kFld txCF3 _ _ 0 3 rfl rfl rfl rfl ?_; go_frame)
      | ((with_reducible change wpList _ _ _ (Oper.mk (some 12) _ _ _ _ _ :: _) _ _); refine kLd Tryd.underlying22 rfl _ _ 3 _ (.int .u32 (t.end' : Int)) hR3 rfl rfl rfl rfl ?_; go_frame)
      | ((with_reducible change wpList _ _ _ (Oper.mk (some 13) _ _ _ _ _ :: _) _ _); refine kFld txCF3 _ _ 0 3 rfl rfl rfl rfl ?_; go_frame)
      | ((with_reducible change wpList _ _ _ (Oper.mk (some 14) _ _ _ _ _ :: _) _ _); refine kLd Tryd.underlying22 rfl _ _ 3 _ (.int .u32 (u.end' : Int)) hR2 rfl rfl rfl rfl ?_; go_frame)
      | ((with_reducible change wpList _ _ _ (Oper.mk (some 15) _ _ _ _ _ :: _) _ _); refine kEqlI _ _ _ _ .u32 (t.end' : Int) (u.end' : Int) _ rfl rfl rfl rfl h2 ?_; go_frame)
      | ((with_reducible change wpList _ _ _ (Oper.mk (some 18) _ _ _ _ _ :: _) _ _); refine kFld txCF1 _ _ 0 1 rfl rfl rfl rfl ?_; go_frame)
      | ((with_reducible change wpList _ _ _ (Oper.mk (some 19) _ _ _ _ _ :: _) _ _); refine kLd Tryd.underlying23 rfl _ _ 1 _ (a) hR3 rfl rfl rfl rfl ?_; go_frame)
      | ((with_reducible change wpList _ _ _ (Oper.mk (some 20) _ _ _ _ _ :: _) _ _); refine kFld txCF1 _ _ 0 1 rfl rfl rfl rfl ?_; go_frame)
      | ((with_reducible change wpList _ _ _ (Oper.mk (some 21) _ _ _ _ _ :: _) _ _); refine kLd Tryd.underlying23 rfl _ _ 1 _ (x) hR2 rfl rfl rfl rfl ?_; go_frame)
      | (go_at_call 44; refine (eqIns_any _ ha2 hx2 hti hui hl.1).mono ?_; rintro e w3 ⟨rfl, hBq⟩; rw [h3]; have hR5 := hR3.below hBq hR3.lt; have hR6 := hR2.below hBq hR2.lt; have hb3 := hb2.below hBq; have hy3 := hy2.below hBq; have hB5 := hB3.trans (hBq.mono hB3.size); clear hBq ha2 hb2 hx2 hy2 hR2 hR3 hB3; go_frame)
      | ((with_reducible change wpList _ _ _ (Oper.mk (some 25) _ _ _ _ _ :: _) _ _); refine kFld txCF2 _ _ 0 2 rfl rfl rfl rfl ?_; go_frame)
      | ((with_reducible change wpList _ _ _ (Oper.mk (some 26) _ _ _ _ _ :: _) _ _); refine kLd Tryd.underlying24 rfl _ _ 2 _ (b) hR5 rfl rfl rfl rfl ?_; go_frame)
      | ((with_reducible change wpList _ _ _ (Oper.mk (some 27) _ _ _ _ _ :: _) _ _); refine kFld txCF2 _ _ 0 2 rfl rfl rfl rfl ?_; go_frame)
      | ((with_reducible change wpList _ _ _ (Oper.mk (some 28) _ _ _ _ _ :: _) _ _); refine kLd Tryd.underlying24 rfl _ _ 2 _ (y) hR6 rfl rfl rfl rfl ?_; go_frame)
      | (go_at_call 46; refine (eqOuts_any _ hb3 hy3 hl.2).mono ?_; rintro e w4 ⟨rfl, hBq⟩; rw [h4]; have hB6 := hB5.trans (hBq.mono hB5.size); clear hBq hB5; go_frame))
    go_ret
    exact ⟨rfl, hB5⟩
  go_enter Tryd.func17, Tryd.ntmps17
  go_wp2_with (first
    | ((with_reducible change wpList _ _ _ (Oper.mk (some 2) _ _ _ _ _ :: _) _ _); refine kBoxL _ _ _ rfl rfl rfl ?_; intro w1 hR1 hz1 hB1; go_frame)
    | ((with_reducible change wpList _ _ _ (Oper.mk (some 3) _ _ _ _ _ :: _) _ _); refine kBoxL _ _ _ rfl rfl rfl ?_; intro w2 hR2 hz2 hB2; have hR3 := hR1.below hB2 hR1.lt; have hB3 := hB1.trans (hB2.mono (Nat.le_of_lt hz1)); have ha2 := ha.below hB3; have hb2 := hb.below hB3; have hx2 := hx.below hB3; have hy2 := hy.below hB3; clear hR1 hB1 hB2 hz1 hz2; go_frame)
    | ((with_reducible change wpList _ _ _ (Oper.mk (some 5) _ _ _ _ _ :: _) _ _); refine kFld txCF0 _ _ 0 0 rfl rfl rfl rfl ?_; go_frame)
    | ((with_reducible change wpList _ _ _ (Oper.mk (some 6) _ _ _ _ _ :: _) _ _); refine kLd Tryd.underlying22 rfl _ _ 0 _ (.int .u32 (t.version : Int)) hR3 rfl rfl rfl rfl ?_; go_frame)
    | ((with_reducible change wpList _ _ _ (Oper.mk (some 7) _ _ _ _ _ :: _) _ _); refine kFld txCF0 _ _ 0 0 rfl rfl rfl rfl ?_; go_frame)
    | ((with_reducible change wpList _ _ _ (Oper.mk (some 8) _ _ _ _ _ :: _) _ _); refine kLd Tryd.underlying22 rfl _ _ 0 _ (.int .u32 (u.version : Int)) hR2 rfl rfl rfl rfl ?_; go_frame)
    | ((with_reducible change wpList _ _ _ (Oper.mk (some 9) _ _ _ _ _ :: _) _ _); refine kEqlI _ _ _ _ .u32 (t.version : Int) (u.version : Int) _ rfl rfl rfl rfl h1 ?_; go_frame)
    | ((with_reducible change wpList _ _ _ (Oper.mk (some 11) _ _ _ _ _ :: _) _ _); refine kFld txCF3 _ _ 0 3 rfl rfl rfl rfl ?_; go_frame)
    | ((with_reducible change wpList _ _ _ (Oper.mk (some 12) _ _ _ _ _ :: _) _ _); refine kLd Tryd.underlying22 rfl _ _ 3 _ (.int .u32 (t.end' : Int)) hR3 rfl rfl rfl rfl ?_; go_frame)
    | ((with_reducible change wpList _ _ _ (Oper.mk (some 13) _ _ _ _ _ :: _) _ _); refine kFld txCF3 _ _ 0 3 rfl rfl rfl rfl ?_; go_frame)
    | ((with_reducible change wpList _ _ _ (Oper.mk (some 14) _ _ _ _ _ :: _) _ _); refine kLd Tryd.underlying22 rfl _ _ 3 _ (.int .u32 (u.end' : Int)) hR2 rfl rfl rfl rfl ?_; go_frame)
    | ((with_reducible change wpList _ _ _ (Oper.mk (some 15) _ _ _ _ _ :: _) _ _); refine kEqlI _ _ _ _ .u32 (t.end' : Int) (u.end' : Int) _ rfl rfl rfl rfl h2 ?_; go_frame)
    | ((with_reducible change wpList _ _ _ (Oper.mk (some 18) _ _ _ _ _ :: _) _ _); refine kFld txCF1 _ _ 0 1 rfl rfl rfl rfl ?_; go_frame)
    | ((with_reducible change wpList _ _ _ (Oper.mk (some 19) _ _ _ _ _ :: _) _ _); refine kLd Tryd.underlying23 rfl _ _ 1 _ (a) hR3 rfl rfl rfl rfl ?_; go_frame)
    | ((with_reducible change wpList _ _ _ (Oper.mk (some 20) _ _ _ _ _ :: _) _ _); refine kFld txCF1 _ _ 0 1 rfl rfl rfl rfl ?_; go_frame)
    | ((with_reducible change wpList _ _ _ (Oper.mk (some 21) _ _ _ _ _ :: _) _ _); refine kLd Tryd.underlying23 rfl _ _ 1 _ (x) hR2 rfl rfl rfl rfl ?_; go_frame)
    | (go_at_call 44; refine (eqIns_any _ ha2 hx2 hti hui hl.1).mono ?_; rintro e w3 ⟨rfl, hBq⟩; rw [h3]; have hR5 := hR3.below hBq hR3.lt; have hR6 := hR2.below hBq hR2.lt; have hb3 := hb2.below hBq; have hy3 := hy2.below hBq; have hB5 := hB3.trans (hBq.mono hB3.size); clear hBq ha2 hb2 hx2 hy2 hR2 hR3 hB3; go_frame)
    | ((with_reducible change wpList _ _ _ (Oper.mk (some 25) _ _ _ _ _ :: _) _ _); refine kFld txCF2 _ _ 0 2 rfl rfl rfl rfl ?_; go_frame)
    | ((with_reducible change wpList _ _ _ (Oper.mk (some 26) _ _ _ _ _ :: _) _ _); refine kLd Tryd.underlying24 rfl _ _ 2 _ (b) hR5 rfl rfl rfl rfl ?_; go_frame)
    | ((with_reducible change wpList _ _ _ (Oper.mk (some 27) _ _ _ _ _ :: _) _ _); refine kFld txCF2 _ _ 0 2 rfl rfl rfl rfl ?_; go_frame)
    | ((with_reducible change wpList _ _ _ (Oper.mk (some 28) _ _ _ _ _ :: _) _ _); refine kLd Tryd.underlying24 rfl _ _ 2 _ (y) hR6 rfl rfl rfl rfl ?_; go_frame)
    | (go_at_call 46; refine (eqOuts_any _ hb3 hy3 hl.2).mono ?_; rintro e w4 ⟨rfl, hBq⟩; rw [h4]; have hB6 := hB5.trans (hBq.mono hB5.size); clear hBq hB5; go_frame))
  go_ret
  exact ⟨rfl, hB6⟩

set_option maxRecDepth 100000 in
set_option maxHeartbeats 8000000 in
theorem ySame_any {t u : TxP} {a b x y : Value} (W0 : World) (ht : t.Is) (hf : t.Fits) (hu : u.Is) (hg : u.Fits) (ha : InsOf W0 a t.ins) (hb : OutsOf W0 b t.outs) (hx : InsOf W0 x u.ins) (hy : OutsOf W0 y u.outs) : Calls Tryd.prog 18 #[.agg (txC t.version a b t.end'), .agg (txC u.version x y u.end')] W0 (BoolPost W0 (txL t == txL u)) := by
  obtain ⟨c, hc⟩ : ∃ c, (txL t == txL u) = c := ⟨_, rfl⟩
  rw [hc]
  go_enter Tryd.func18, Tryd.ntmps18
  go_wp2_with (first
    | ((with_reducible change wpList _ _ _ (Oper.mk (some 2) _ _ _ _ _ :: _) _ _); refine kBoxL _ _ _ rfl rfl rfl ?_; intro w1 hR1 hz1 hB1; go_frame)
    | ((with_reducible change wpList _ _ _ (Oper.mk (some 3) _ _ _ _ _ :: _) _ _); refine kBoxL _ _ _ rfl rfl rfl ?_; intro w2 hR2 hz2 hB2; have hR3 := hR1.below hB2 hR1.lt; have hB := hB1.trans (hB2.mono (Nat.le_of_lt hz1)); clear hR1 hB1 hB2 hz1 hz2; go_frame))
  refine region_mixD [(0, true), (3, true), (1, false), (2, true), (4, false), (5, true), (6, true), (7, true)] (fun w => (Row w W0.heap.size 26 (txC t.version a b t.end')) ∧ (Row w w1.heap.size 26 (txC u.version x y u.end'))) (by kernel_rfl) (by kernel_rfl) rfl ?_
  intro q0 hBd hsd
  clear hsd
  have hR3_1 := hR3.below hBd hR3.lt
  have hR2_2 := hR2.below hBd hR2.lt
  have hB_3 := hB.trans (hBd.mono hB.size)
  clear hR3 hR2 hB hBd
  simp only [List.map_cons, List.map_nil]
  dsimp only [List.filterMap, List.getElem?_cons_zero, List.getElem?_cons_succ]
  have hS : (Row q0 W0.heap.size 26 (txC t.version a b t.end')) ∧ (Row q0 w1.heap.size 26 (txC u.version x y u.end')) := ⟨hR3_1, hR2_2⟩
  refine dY _ hS (yLoadRowC Tryd.underlying26 rfl _ _ (txC t.version a b t.end') info_TxC (fun _ h => h.1) rfl rfl rfl) ?_; go_frame
  refine dY _ hS (yLoadRowC Tryd.underlying26 rfl _ _ (txC u.version x y u.end') info_TxC (fun _ h => h.2) rfl rfl rfl) ?_; go_frame
  have ha1 := ha.below hB_3; have hb1 := hb.below hB_3
  refine dLoud ?_
  refine kCall1 16 _ _ _ rfl rfl (by kernel_rfl) rfl ?_
  refine (yBytes_any _ ht hf ha1 hb1).mono ?_
  rintro e b1 ⟨v1, rfl, hO1o, hBq⟩
  clear hS
  have hR3_4 := hR3_1.below hBq hR3_1.lt
  have hR2_5 := hR2_2.below hBq hR2_2.lt
  have hB_6 := hB_3.trans (hBq.mono hB_3.size)
  clear hR3_1 hR2_2 hB_3 hBq
  have hO1 := hO1o.vals
  clear hO1o
  have hS : (Row b1 W0.heap.size 26 (txC t.version a b t.end')) ∧ (Row b1 w1.heap.size 26 (txC u.version x y u.end')) ∧ (IsVals b1 v1 ((txL t).map VB)) := ⟨hR3_4, hR2_5, hO1⟩
  refine ⟨_, rfl, mixOn ⟨(fun w => (Row w W0.heap.size 26 (txC t.version a b t.end')) ∧ (Row w w1.heap.size 26 (txC u.version x y u.end')) ∧ (IsVals w v1 ((txL t).map VB))), (fun _ h => ⟨h.1, h.2.1⟩), hS, ?_⟩⟩
  go_frame
  refine dY _ hS (yStr _ _ _ _ v1 (txL t) rfl rfl rfl (fun _ h => h.2.2) Tryd.underlying28 Tryd.underlying5 Tryd.underlying9) ?_; go_frame
  have hx1 := hx.below hB_6; have hy1 := hy.below hB_6
  refine dLoud ?_
  refine kCall1 16 _ _ _ rfl rfl (by kernel_rfl) rfl ?_
  refine (yBytes_any _ hu hg hx1 hy1).mono ?_
  rintro e b2 ⟨v2, rfl, hO2o, hBq⟩
  clear hS
  have hR3_7 := hR3_4.below hBq hR3_4.lt
  have hR2_8 := hR2_5.below hBq hR2_5.lt
  have hO1_9 := hO1.below hBq
  have hB_10 := hB_6.trans (hBq.mono hB_6.size)
  clear hR3_4 hR2_5 hO1 hB_6 hBq
  have hO2 := hO2o.vals
  clear hO2o
  have hS : (Row b2 W0.heap.size 26 (txC t.version a b t.end')) ∧ (Row b2 w1.heap.size 26 (txC u.version x y u.end')) ∧ (IsVals b2 v1 ((txL t).map VB)) ∧ (IsVals b2 v2 ((txL u).map VB)) := ⟨hR3_7, hR2_8, hO1_9, hO2⟩
  refine ⟨_, rfl, mixOn ⟨(fun w => (Row w W0.heap.size 26 (txC t.version a b t.end')) ∧ (Row w w1.heap.size 26 (txC u.version x y u.end')) ∧ (IsVals w v1 ((txL t).map VB)) ∧ (IsVals w v2 ((txL u).map VB))), (fun _ h => ⟨h.1, h.2.1, h.2.2.1⟩), hS, ?_⟩⟩
  go_frame
  refine dY _ hS (yStr _ _ _ _ v2 (txL u) rfl rfl rfl (fun _ h => h.2.2.2) Tryd.underlying28 Tryd.underlying5 Tryd.underlying9) ?_; go_frame
  refine dY _ hS (yEqlStr _ _ _ _ (txL t) (txL u) c rfl rfl rfl rfl hc) ?_; go_frame
  refine dY _ hS (yAssign _ (.bool c) rfl rfl rfl) ?_; go_frame
  refine dDone ?_
  go_wp2
  go_ret
  exact ⟨rfl, hB_10⟩
def nullR (l : List UInt8) (n : Nat) : Bool := decide (l = z32) && decide ((n : Int) = ((4294967295 : Nat) : Int))
def nullI (i : InP) : Bool := nullR i.id i.at'
def baseB : List InP → Bool
  | [i] => nullI i
  | _ => false
theorem baseB_not {is : List InP} (h : is.length ≠ 1) : baseB is = false := by
  match is, h with
  | [], _ => rfl
  | [i], h => exact absurd rfl h
  | i :: j :: is, _ => rfl
theorem z32_len : z32.length = 32 := rfl
set_option maxRecDepth 100000 in
set_option maxHeartbeats 8000000 in
theorem tNull_any {i : InP} {u : Value} (w : World) (hi : i.id.length = 32) : Calls Tryd.prog 38 #[.agg (inC i u)] w (BoolPost w (nullI i)) := by
  have hr := run_equalRefC hi z32_len i.at' 4294967295
  go_enter Tryd.func38, Tryd.ntmps38
  go_wp2_with (first
    | ((with_reducible change wpList _ _ _ (Oper.mk (some 1) _ _ _ _ _ :: _) _ _); refine kBoxL _ _ _ rfl rfl rfl ?_; intro w1 hR hz1 hB; go_frame)
    | ((with_reducible change wpList _ _ _ (Oper.mk (some 3) _ _ _ _ _ :: _) _ _); refine kFld inCF0 _ _ 0 0 rfl rfl rfl rfl ?_; go_frame)
    | ((with_reducible change wpList _ _ _ (Oper.mk (some 4) _ _ _ _ _ :: _) _ _); refine kLoadInRef _ _ i u hR rfl rfl rfl ?_; go_frame)
    | ((with_reducible change wpList _ _ _ (Oper.mk (some 5) _ _ _ _ _ :: _) _ _); refine kBuildRefN _ rfl rfl rfl ?_; go_frame)
    | ((with_reducible change wpList _ _ _ (Oper.mk (some 6) _ _ _ _ _ :: _) _ _); refine kEqlSt _ _ _ _ eqGuard_RefC hr rfl rfl rfl rfl ?_; go_frame))
  go_ret
  exact ⟨rfl, hB⟩
set_option maxRecDepth 100000 in
set_option maxHeartbeats 8000000 in
theorem yNull_any {l : List UInt8} {n : Nat} (w : World) (hl : l.length = 32) : Calls Tryd.prog 51 #[.agg (refC l n)] w (BoolPost w (nullR l n)) := by
  have hr := run_equalRefC hl z32_len n 4294967295
  go_enter Tryd.func51, Tryd.ntmps51
  go_wp2_with (first
    | ((with_reducible change wpList _ _ _ (Oper.mk (some 1) _ _ _ _ _ :: _) _ _); refine kBoxL _ _ _ rfl rfl rfl ?_; intro w1 hR hz1 hB; go_frame)
    | ((with_reducible change wpList _ _ _ (Oper.mk (some 3) _ _ _ _ _ :: _) _ _); refine kLoadRef _ _ l n hR rfl rfl rfl ?_; go_frame)
    | ((with_reducible change wpList _ _ _ (Oper.mk (some 4) _ _ _ _ _ :: _) _ _); refine kBuildRefN _ rfl rfl rfl ?_; go_frame)
    | ((with_reducible change wpList _ _ _ (Oper.mk (some 5) _ _ _ _ _ :: _) _ _); refine kEqlSt _ _ _ _ eqGuard_RefC hr rfl rfl rfl rfl ?_; go_frame))
  go_ret
  exact ⟨rfl, hB⟩
section
variable {ops : Array Oper} {Q : Exit → Act → World → Prop} {rest : List Oper} {o : Oper} {a : Act} {w : World} {S : World → Prop}
/-- the first field at any address -/
theorem addr_add0 (b : Addr) : b.add 0 = b := by simp [Addr.add]
theorem run_fieldAtAny {P : Program} (T : TypeId) (k n fo : Nat) (fs : Array Field) (f : Field) (b : Addr) (hu : P.underlying T = some (.struct fs)) (hf : fs[k]? = some f) (h0 : f.offset = fo) (hn : (P.info? f.type).map (·.size) = some (n + 1)) (w : World) : (Instr.fieldAt T (.pointer (some b)) k).run P w = .ok (.pointer (some (b.add fo))) w := by
  unfold Instr.fieldAt
  rw [Sem.run_bind, run_underlying hu w]
  cases hq : P.info? f.type with
  | none => simp [hq] at hn
  | some i =>
    have hs : i.size = n + 1 := by simpa [hq] using hn
    simp [hf, Instr.sureAddr, fieldPlace, h0, sizeOf, typeInfo, hq, hs]
theorem kFldAt0 {P : Program} {T : TypeId} {n : Nat} (hF : ∃ f fs, P.underlying T = some (.struct fs) ∧ fs[0]? = some f ∧ f.offset = 0 ∧ (P.info? f.type).map (·.size) = some (n + 1)) (x : Operand) (b : Addr) (ho : o.op = .fieldAddr T x 0) (hg : Region.wanted o (yielded ops a.tmps) = true) (hx : a.eval x = .pointer (some b)) (h : wpList P ops Q rest (a.put o.dst (.pointer (some b))) w) : wpList P ops Q (o :: rest) a w := by
  obtain ⟨f, fs, h1, h2, h3, h4⟩ := hF
  refine kPure _ hg ?_ h
  have hrun := run_fieldAtAny (w := w) T 0 n 0 fs f b h1 h2 h3 h4
  rw [addr_add0] at hrun
  unfold execOp; simp only [ho, hx, Sem.run_bind, hrun, Result.andThen_ok, Sem.run_pure]
theorem kFldAtN {P : Program} {T : TypeId} {k n fo : Nat} (hF : ∃ f fs, P.underlying T = some (.struct fs) ∧ fs[k]? = some f ∧ f.offset = fo ∧ (P.info? f.type).map (·.size) = some (n + 1)) (x : Operand) (b : Addr) (ho : o.op = .fieldAddr T x k) (hg : Region.wanted o (yielded ops a.tmps) = true) (hx : a.eval x = .pointer (some b)) (h : wpList P ops Q rest (a.put o.dst (.pointer (some (b.add fo)))) w) : wpList P ops Q (o :: rest) a w := by
  obtain ⟨f, fs, h1, h2, h3, h4⟩ := hF
  refine kPure _ hg ?_ h
  have hrun := run_fieldAtAny (w := w) T k n fo fs f b h1 h2 h3 h4
  unfold execOp; simp only [ho, hx, Sem.run_bind, hrun, Result.andThen_ok, Sem.run_pure]
theorem kLoadRefAt (x : Operand) (b : Addr) (i : InP) (u : Value) (hb : ∀ (j : Nat) (t : Value), (inR (i, u))[j]? = some t → w.cell? (b.add j) = some t) (ho : o.op = .load 32 x) (hg : Region.wanted o (yielded ops a.tmps) = true) (hx : a.eval x = .pointer (some b)) (h : wpList Tryd.prog ops Q rest (a.put o.dst (.agg (refC i.id i.at'))) w) : wpList Tryd.prog ops Q (o :: rest) a w := by
  have hl : ((inR (i, u)).take 33).length = 33 := by rw [List.length_take, inR_len]; decide
  have hc : ((inR (i, u)).take 33).toArray = refC i.id i.at' := by
    rw [← inC_ref i u]; simp [inC]
  rw [← hc] at h
  exact kLoadRowAt Tryd.underlying32 rfl info_RefC x b _ hl (fun j t ht => hb j t (by rw [List.getElem?_take] at ht; split at ht; exact ht; cases ht)) ho hg hx h
end
set_option maxRecDepth 100000 in
set_option maxHeartbeats 8000000 in
theorem tBase_any {is : List InP} {n e : Nat} {a b : Value} (W0 : World) (ha : InsOf W0 a is) (hid : ∀ i ∈ is, i.id.length = 32) : Calls Tryd.prog 14 #[.agg (txC n a b e)] W0 (BoolPost W0 (baseB is)) := by
  obtain ⟨zs, es, ha⟩ := ha
  obtain ⟨N, hN⟩ : ∃ N, zs.length = N := ⟨_, rfl⟩
  have hiN : is.length = N := by rw [← fst_len es, hN]
  by_cases h1 : N = 1
  · have hd : decide ((N : Int) = 1) = true := by simp; omega
    obtain ⟨⟨i, u⟩, hz⟩ : ∃ z, zs[0]? = some z := ⟨_, List.getElem?_eq_getElem (by omega)⟩
    have hi0 := fst_at es hz
    have hii := hid i (List.mem_of_getElem? hi0)
    have hb1 : baseB is = nullI i := by
      match is, hi0, hiN with
      | [], h, _ => simp at h
      | [j], h, _ => simp at h; subst h; rfl
      | j :: k :: is, _, h => simp at h; omega
    rw [hb1]
    clear hb1 h1
    go_enter Tryd.func14, Tryd.ntmps14
    go_wp2_with (first
      | ((with_reducible change wpList _ _ _ (Oper.mk (some 1) _ _ _ _ _ :: _) _ _); refine kBoxL _ _ _ rfl rfl rfl ?_; intro w1 hR hz1 hB; have ha1 := ha.below hB; clear hz1; go_frame)
      | ((with_reducible change wpList _ _ _ (Oper.mk (some 3) _ _ _ _ _ :: _) _ _); refine kFld txCF1 _ _ 0 1 rfl rfl rfl rfl ?_; go_frame)
      | ((with_reducible change wpList _ _ _ (Oper.mk (some 4) _ _ _ _ _ :: _) _ _); refine kLd Tryd.underlying23 rfl _ _ 1 _ a hR rfl rfl rfl rfl ?_; go_frame)
      | ((with_reducible change wpList _ _ _ (Oper.mk (some 5) _ _ _ _ _ :: _) _ _); refine kLenIns _ a zs N ha1 hN rfl rfl rfl ?_; go_frame)
      | ((with_reducible change wpList _ _ _ (Oper.mk (some 6) _ _ _ _ _ :: _) _ _); refine kEqlI _ _ _ _ .i64 (N : Int) 1 true rfl rfl rfl rfl hd ?_; go_frame)
      | ((with_reducible change wpList _ _ _ (Oper.mk (some 8) _ _ _ _ _ :: _) _ _); refine kFld txCF1 _ _ 0 1 rfl rfl rfl rfl ?_; go_frame)
      | ((with_reducible change wpList _ _ _ (Oper.mk (some 9) _ _ _ _ _ :: _) _ _); refine kLd Tryd.underlying23 rfl _ _ 1 _ a hR rfl rfl rfl rfl ?_; go_frame)
      | ((with_reducible change wpList _ _ _ (Oper.mk (some 10) _ _ _ _ _ :: _) _ _); refine kIndexIn _ _ a zs 0 (i, u) ha1 hz rfl rfl rfl rfl ?_; intro bb hbb; go_frame)
      | ((with_reducible change wpList _ _ _ (Oper.mk (some 11) _ _ _ _ _ :: _) _ _); refine kLoadInAt _ bb i u hbb rfl rfl rfl ?_; go_frame)
      | (go_at_call 38; refine (tNull_any _ hii).mono ?_; rintro e w2 ⟨rfl, hBq⟩; have hB2 := hB.trans (hBq.mono hB.size); clear hBq; go_frame))
    go_ret
    exact ⟨rfl, hB2⟩
  · have hd : decide ((N : Int) = 1) = false := by simp; omega
    rw [baseB_not (by omega)]
    go_enter Tryd.func14, Tryd.ntmps14
    go_wp2_with (first
      | ((with_reducible change wpList _ _ _ (Oper.mk (some 1) _ _ _ _ _ :: _) _ _); refine kBoxL _ _ _ rfl rfl rfl ?_; intro w1 hR hz1 hB; have ha1 := ha.below hB; clear hz1; go_frame)
      | ((with_reducible change wpList _ _ _ (Oper.mk (some 3) _ _ _ _ _ :: _) _ _); refine kFld txCF1 _ _ 0 1 rfl rfl rfl rfl ?_; go_frame)
      | ((with_reducible change wpList _ _ _ (Oper.mk (some 4) _ _ _ _ _ :: _) _ _); refine kLd Tryd.underlying23 rfl _ _ 1 _ a hR rfl rfl rfl rfl ?_; go_frame)
      | ((with_reducible change wpList _ _ _ (Oper.mk (some 5) _ _ _ _ _ :: _) _ _); refine kLenIns _ a zs N ha1 hN rfl rfl rfl ?_; go_frame)
      | ((with_reducible change wpList _ _ _ (Oper.mk (some 6) _ _ _ _ _ :: _) _ _); refine kEqlI _ _ _ _ .i64 (N : Int) 1 false rfl rfl rfl rfl hd ?_; go_frame))
    go_ret
    exact ⟨rfl, hB⟩
set_option maxRecDepth 100000 in
set_option maxHeartbeats 8000000 in
theorem yBase_any {is : List InP} {n e : Nat} {a b : Value} (W0 : World) (ha : InsOf W0 a is) (hid : ∀ i ∈ is, i.id.length = 32) : Calls Tryd.prog 22 #[.agg (txC n a b e)] W0 (BoolPost W0 (baseB is)) := by
  obtain ⟨zs, es, ha⟩ := ha
  obtain ⟨N, hN⟩ : ∃ N, zs.length = N := ⟨_, rfl⟩
  have hiN : is.length = N := by rw [← fst_len es, hN]
  by_cases h1 : N = 1
  · have hd : decide ((N : Int) = 1) = true := by simp; omega
    obtain ⟨⟨i, u⟩, hz⟩ : ∃ z, zs[0]? = some z := ⟨_, List.getElem?_eq_getElem (by omega)⟩
    have hi0 := fst_at es hz
    have hii := hid i (List.mem_of_getElem? hi0)
    have hb1 : baseB is = nullI i := by
      match is, hi0, hiN with
      | [], h, _ => simp at h
      | [j], h, _ => simp at h; subst h; rfl
      | j :: k :: is, _, h => simp at h; omega
    rw [hb1]
    clear hb1 h1
    go_enter Tryd.func22, Tryd.ntmps22
    go_wp2_with (first
      | ((with_reducible change wpList _ _ _ (Oper.mk (some 1) _ _ _ _ _ :: _) _ _); refine kBoxL _ _ _ rfl rfl rfl ?_; intro w1 hR hz1 hB; have ha1 := ha.below hB; clear hz1; go_frame)
      | ((with_reducible change wpList _ _ _ (Oper.mk (some 3) _ _ _ _ _ :: _) _ _); refine kFld txCF1 _ _ 0 1 rfl rfl rfl rfl ?_; go_frame)
      | ((with_reducible change wpList _ _ _ (Oper.mk (some 4) _ _ _ _ _ :: _) _ _); refine kLd Tryd.underlying23 rfl _ _ 1 _ a hR rfl rfl rfl rfl ?_; go_frame)
      | ((with_reducible change wpList _ _ _ (Oper.mk (some 5) _ _ _ _ _ :: _) _ _); refine kLenIns _ a zs N ha1 hN rfl rfl rfl ?_; go_frame)
      | ((with_reducible change wpList _ _ _ (Oper.mk (some 6) _ _ _ _ _ :: _) _ _); refine kEqlI _ _ _ _ .i64 (N : Int) 1 true rfl rfl rfl rfl hd ?_; go_frame)
      | ((with_reducible change wpList _ _ _ (Oper.mk (some 8) _ _ _ _ _ :: _) _ _); refine kFld txCF1 _ _ 0 1 rfl rfl rfl rfl ?_; go_frame)
      | ((with_reducible change wpList _ _ _ (Oper.mk (some 9) _ _ _ _ _ :: _) _ _); refine kLd Tryd.underlying23 rfl _ _ 1 _ a hR rfl rfl rfl rfl ?_; go_frame)
      | ((with_reducible change wpList _ _ _ (Oper.mk (some 10) _ _ _ _ _ :: _) _ _); refine kIndexIn _ _ a zs 0 (i, u) ha1 hz rfl rfl rfl rfl ?_; intro bb hbb; go_frame)
      | ((with_reducible change wpList _ _ _ (Oper.mk (some 11) _ _ _ _ _ :: _) _ _); refine kFldAt0 inCF0 _ bb rfl rfl rfl ?_; go_frame)
      | ((with_reducible change wpList _ _ _ (Oper.mk (some 12) _ _ _ _ _ :: _) _ _); refine kLoadRefAt _ bb i u hbb rfl rfl rfl ?_; go_frame)
      | (go_at_call 51; refine (yNull_any _ hii).mono ?_; rintro e w2 ⟨rfl, hBq⟩; have hB2 := hB.trans (hBq.mono hB.size); clear hBq; go_frame))
    go_ret
    exact ⟨rfl, hB2⟩
  · have hd : decide ((N : Int) = 1) = false := by simp; omega
    rw [baseB_not (by omega)]
    go_enter Tryd.func22, Tryd.ntmps22
    go_wp2_with (first
      | ((with_reducible change wpList _ _ _ (Oper.mk (some 1) _ _ _ _ _ :: _) _ _); refine kBoxL _ _ _ rfl rfl rfl ?_; intro w1 hR hz1 hB; have ha1 := ha.below hB; clear hz1; go_frame)
      | ((with_reducible change wpList _ _ _ (Oper.mk (some 3) _ _ _ _ _ :: _) _ _); refine kFld txCF1 _ _ 0 1 rfl rfl rfl rfl ?_; go_frame)
      | ((with_reducible change wpList _ _ _ (Oper.mk (some 4) _ _ _ _ _ :: _) _ _); refine kLd Tryd.underlying23 rfl _ _ 1 _ a hR rfl rfl rfl rfl ?_; go_frame)
      | ((with_reducible change wpList _ _ _ (Oper.mk (some 5) _ _ _ _ _ :: _) _ _); refine kLenIns _ a zs N ha1 hN rfl rfl rfl ?_; go_frame)
      | ((with_reducible change wpList _ _ _ (Oper.mk (some 6) _ _ _ _ _ :: _) _ _); refine kEqlI _ _ _ _ .i64 (N : Int) 1 false rfl rfl rfl rfl hd ?_; go_frame))
    go_ret
    exact ⟨rfl, hB⟩
end Go.Proofs.YtaoaecbdjdcpdaaDoor

/-
  Layer 10: a map whose keys are references and whose elements are numbers: looked up, added to in place.
-/
namespace Go.Proofs.YtaoaecbdjdcpdaaDoor
open Go Go.RowKit
open Go.ChangeMaps (setBlock)

def mEnt (j : Nat) (e : (List UInt8 × Nat) × Int) : MapEntry := ⟨.agg (refC e.1.1 e.1.2), .int .i64 e.2, j⟩
def mEnts : Nat → List ((List UInt8 × Nat) × Int) → List MapEntry
  | _, [] => []
  | j, e :: E => mEnt j e :: mEnts (j + 1) E
theorem mEnts_len : ∀ (j : Nat) (E : List ((List UInt8 × Nat) × Int)), (mEnts j E).length = E.length
  | _, [] => rfl
  | j, e :: E => by simp [mEnts, mEnts_len (j + 1) E]
theorem mEnts_append : ∀ (j : Nat) (E : List ((List UInt8 × Nat) × Int)) (e : (List UInt8 × Nat) × Int), mEnts j (E ++ [e]) = mEnts j E ++ [mEnt (j + E.length) e]
  | _, [], _ => rfl
  | j, x :: E, e => by
    rw [List.cons_append, mEnts, mEnts_append (j + 1) E e, mEnts, List.length_cons, List.cons_append, show j + 1 + E.length = j + (E.length + 1) by omega]
theorem mEnts_at : ∀ (j : Nat) (E : List ((List UInt8 × Nat) × Int)) (q : Nat), (mEnts j E)[q]? = (E[q]?).map (mEnt (j + q))
  | _, [], q => by simp [mEnts]
  | j, x :: E, 0 => by simp [mEnts]
  | j, x :: E, q + 1 => by
    rw [mEnts, List.getElem?_cons_succ, List.getElem?_cons_succ, mEnts_at (j + 1) E q, show j + 1 + q = j + (q + 1) by omega]
theorem mEnts_set (j : Nat) (E : List ((List UInt8 × Nat) × Int)) (q : Nat) (e : (List UInt8 × Nat) × Int) : (mEnts j E).set q (mEnt (j + q) e) = mEnts j (E.set q e) := by
  refine List.ext_getElem? fun p => ?_
  rw [List.getElem?_set, mEnts_at, mEnts_at, List.getElem?_set, mEnts_len]
  split
  · rename_i h; subst h
    split <;> simp
  · rfl
theorem mEnts_born : ∀ (j : Nat) (E : List ((List UInt8 × Nat) × Int)) (q : Nat), q < E.length → (mEnts j E).findIdx? (fun e => (e.born : Int) == ((j + q : Nat) : Int)) = some q
  | _, [], _, h => by simp at h
  | j, x :: E, 0, _ => by rw [mEnts, List.findIdx?_cons]; simp [mEnt]
  | j, x :: E, q + 1, h => by
    have ih := mEnts_born (j + 1) E q (by simpa using h)
    rw [show j + 1 + q = j + (q + 1) by omega] at ih
    rw [mEnts, List.findIdx?_cons, ih]
    have hne : (((mEnt j x).born : Int) == ((j + (q + 1) : Nat) : Int)) = false := by simp only [beq_eq_false_iff_ne, mEnt]; omega
    rw [hne]; rfl
theorem run_eqRef {l m : List UInt8} (hl : l.length = 32) (hm : m.length = 32) (n k : Nat) (w : World) : (Op.equal 32 (.agg (refC l n)) (.agg (refC m k))).run Tryd.prog w = .ok (decide ((m, k) = (l, n))) w := by
  have h := run_equalRefC hl hm n k w
  have e : (decide (l = m) && decide ((n : Int) = (k : Int))) = decide ((m, k) = (l, n)) := by
    rw [Bool.eq_iff_iff]
    simp only [Bool.and_eq_true, decide_eq_true_eq, Prod.mk.injEq]
    constructor
    · rintro ⟨h1, h2⟩; exact ⟨h1.symm, by omega⟩
    · rintro ⟨h1, h2⟩; exact ⟨h1.symm, by omega⟩
  rw [e] at h
  exact h
def Len32 (E : List ((List UInt8 × Nat) × Int)) : Prop := ∀ e ∈ E, e.1.1.length = 32
theorem find_none {l : List UInt8} (hl : l.length = 32) (n : Nat) (w : World) : ∀ (E : List ((List UInt8 × Nat) × Int)) (j i : Nat), Len32 E → (∀ e ∈ E, e.1 ≠ (l, n)) → (Instr.findAsking 32 (.agg (refC l n)) (mEnts j E) i).run Tryd.prog w = .ok none w
  | [], _, _, _, _ => by simp [mEnts, Instr.findAsking]
  | e :: E, j, i, hE, hn => by
    have h1 := run_eqRef hl (hE e (by simp)) n e.1.2 w
    have h2 : decide ((e.1.1, e.1.2) = (l, n)) = false := decide_eq_false (hn e (by simp))
    rw [h2] at h1
    simp [mEnts, mEnt, Instr.findAsking, h1, find_none hl n w E (j + 1) (i + 1) (fun x hx => hE x (by simp [hx])) (fun x hx => hn x (by simp [hx]))]
theorem find_some {l : List UInt8} (hl : l.length = 32) (n : Nat) (w : World) : ∀ (E : List ((List UInt8 × Nat) × Int)) (j i q : Nat) (z : Int), Len32 E → E[q]? = some ((l, n), z) → (∀ p, p < q → ∀ e, E[p]? = some e → e.1 ≠ (l, n)) → (Instr.findAsking 32 (.agg (refC l n)) (mEnts j E) i).run Tryd.prog w = .ok (some (i + q, .int .i64 z)) w
  | [], _, _, q, _, _, h, _ => by simp at h
  | e :: E, j, i, 0, z, hE, h, hn => by
    simp only [List.getElem?_cons_zero, Option.some.injEq] at h
    subst h
    have h1 := run_eqRef hl hl n n w
    rw [decide_eq_true rfl] at h1
    simp [mEnts, mEnt, Instr.findAsking, h1]
  | e :: E, j, i, q + 1, z, hE, h, hn => by
    have h1 := run_eqRef hl (hE e (by simp)) n e.1.2 w
    have h2 : decide ((e.1.1, e.1.2) = (l, n)) = false := decide_eq_false (hn 0 (by omega) e rfl)
    rw [h2] at h1
    have ih := find_some hl n w E (j + 1) (i + 1) q z (fun x hx => hE x (by simp [hx])) (by simpa using h) (fun p hp x hx => hn (p + 1) (by omega) x (by simpa using hx))
    rw [show i + 1 + q = i + (q + 1) by omega] at ih
    simp [mEnts, mEnt, Instr.findAsking, h1, ih]
theorem run_checkRef (l : List UInt8) (n : Nat) (b : Bool) (w : World) : (Instr.checkKey b 10000 32 (.agg (refC l n))).run Tryd.prog w = .ok () w := by
  cases b <;> kernel_rfl
theorem findKey_any (k : Value) (cs : Array Value) (hk : k = .agg cs) (E : List ((List UInt8 × Nat) × Int)) (j : Nat) (w : World) : (Instr.findKey 32 k (mEnts j E)).run Tryd.prog w = (if E = [] then .ok none w else (Instr.findAsking 32 k (mEnts j E) 0).run Tryd.prog w) := by
  subst hk
  unfold Instr.findKey
  rw [Sem.run_bind, run_underlying Tryd.underlying32]
  cases E with
  | nil => simp [mEnts, Instr.findNow]
  | cons e E => simp [mEnts, mEnt, Instr.findNow, Instr.sameNow]
theorem fk_none {l : List UInt8} (hl : l.length = 32) (n : Nat) (w : World) (E : List ((List UInt8 × Nat) × Int)) (hE : Len32 E) (hn : ∀ e ∈ E, e.1 ≠ (l, n)) : (Instr.findKey 32 (.agg (refC l n)) (mEnts 0 E)).run Tryd.prog w = .ok none w := by
  rw [findKey_any _ _ rfl]
  split
  · rfl
  · exact find_none hl n w E 0 0 hE hn
theorem fk_some {l : List UInt8} (hl : l.length = 32) (n : Nat) (w : World) (E : List ((List UInt8 × Nat) × Int)) (q : Nat) (z : Int) (hE : Len32 E) (h : E[q]? = some ((l, n), z)) (hn : ∀ p, p < q → ∀ e, E[p]? = some e → e.1 ≠ (l, n)) : (Instr.findKey 32 (.agg (refC l n)) (mEnts 0 E)).run Tryd.prog w = .ok (some (q, .int .i64 z)) w := by
  rw [findKey_any _ _ rfl, if_neg (by rintro rfl; simp at h)]
  have := find_some hl n w E 0 0 q z hE h hn
  rw [Nat.zero_add] at this
  exact this
/-- the map at block b: these references, so often each, in the order in which they came -/
def MapRow (w : World) (b : Nat) (E : List ((List UInt8 × Nat) × Int)) : Prop := w.heap[b]? = some (.map (mEnts 0 E).toArray E.length)
theorem MapRow.lt {w : World} {b : Nat} {E : List ((List UInt8 × Nat) × Int)} (h : MapRow w b E) : b < w.heap.size := (Array.getElem?_eq_some_iff.1 h).1
theorem MapRow.below {w w' : World} {b : Nat} {E : List ((List UInt8 × Nat) × Int)} (h : MapRow w b E) (hb : Below w.heap.size w w') : MapRow w' b E := (hb.block b h.lt).trans h
theorem MapRow.wrote {w w' : World} {b g : Nat} {E : List ((List UInt8 × Nat) × Int)} (h : MapRow w b E) (hW : Wrote g w w') (hg : b ≠ g) : MapRow w' b E := (hW.other b hg).trans h
theorem wrote_setBlock (w : World) (b : Nat) (o : Obj) : Wrote b w (setBlock w b o) := ⟨rfl, rfl, rfl, by simp [setBlock], fun k hk => by simp [setBlock, Array.getElem?_setIfInBounds, Ne.symm hk]⟩
theorem setBlock_at {w : World} {b : Nat} (o : Obj) (h : b < w.heap.size) : (setBlock w b o).heap[b]? = some o := by simp [setBlock, h]
theorem zero_intM (w : World) : (zeroValue 3).run Tryd.prog w = .ok (.int .i64 0) w := by kernel_rfl
theorem run_lookup_none {l : List UInt8} (hl : l.length = 32) (n : Nat) {w : World} {b : Nat} {E : List ((List UInt8 × Nat) × Int)} (h : MapRow w b E) (hE : Len32 E) (hn : ∀ e ∈ E, e.1 ≠ (l, n)) : (Instr.lookup 101 (.map (some b)) (.agg (refC l n)) false).run Tryd.prog w = .ok (.int .i64 0) w := by
  have hz := zero_intM w
  have hf := fk_none hl n w E hE hn
  have hc := run_checkRef l n (mEnts 0 E).toArray.isEmpty w
  unfold Instr.lookup
  rw [Sem.run_bind, run_underlying Tryd.underlying101]
  simp only [Result.andThen_ok, Sem.run_bind, MapKept.run_getObj_map h, Sem.run_pure, hc, hf, hz]
  rfl
theorem run_lookup_some {l : List UInt8} (hl : l.length = 32) (n : Nat) {w : World} {b : Nat} {E : List ((List UInt8 × Nat) × Int)} (q : Nat) (z : Int) (h : MapRow w b E) (hE : Len32 E) (hq : E[q]? = some ((l, n), z)) (hn : ∀ p, p < q → ∀ e, E[p]? = some e → e.1 ≠ (l, n)) : (Instr.lookup 101 (.map (some b)) (.agg (refC l n)) false).run Tryd.prog w = .ok (.int .i64 z) w := by
  have hf := fk_some hl n w E q z hE hq hn
  have hc := run_checkRef l n (mEnts 0 E).toArray.isEmpty w
  unfold Instr.lookup
  rw [Sem.run_bind, run_underlying Tryd.underlying101]
  simp only [Result.andThen_ok, Sem.run_bind, MapKept.run_getObj_map h, Sem.run_pure, hc, hf]
  rfl
theorem run_mapEntry_none {l : List UInt8} (hl : l.length = 32) (n : Nat) {w : World} {b : Nat} {E : List ((List UInt8 × Nat) × Int)} (h : MapRow w b E) (hE : Len32 E) (hn : ∀ e ∈ E, e.1 ≠ (l, n)) : (Instr.mapEntry 101 (.map (some b)) (.agg (refC l n))).run Tryd.prog w = .ok (.tuple #[.int .i64 0, .int .i64 (E.length : Int)]) (setBlock w b (.map (mEnts 0 (E ++ [((l, n), 0)])).toArray (E.length + 1))) := by
  have hf := fk_none hl n w E hE hn
  have hc := run_checkRef l n false w
  have hz := zero_intM w
  have hs := fun o => MapKept.run_setObj_map (P := Tryd.prog) o h
  have e1 : (mEnts 0 E).toArray.push { key := .agg (refC l n), val := .int .i64 0, born := E.length } = (mEnts 0 (E ++ [((l, n), 0)])).toArray := by
    rw [mEnts_append, Nat.zero_add, List.push_toArray]; rfl
  unfold Instr.mapEntry
  rw [Sem.run_bind, run_underlying Tryd.underlying101]
  simp only [Result.andThen_ok, Sem.run_bind, MapKept.run_getObj_map h, Sem.run_pure, hc, hf, hz, hs, e1]
  rfl
theorem sameBits_agg (n : Nat) (a b : Array Value) : Instr.sameBits (n + 1) (.agg a) (.agg b) = (a.size == b.size && (a.toList.zip b.toList).all fun (x, y) => Instr.sameBits n x y) := rfl
theorem same_ref (l : List UInt8) (n : Nat) : Instr.sameBits 10000 (.agg (refC l n)) (.agg (refC l n)) = true := by
  have hz : ∀ cs : List Value, (∀ v ∈ cs, ∃ k z, v = Value.int k z) → ((cs.zip cs).all fun (x, y) => Instr.sameBits 9999 x y) = true := by
    intro cs
    induction cs with
    | nil => intro _; rfl
    | cons v cs ih =>
      intro h
      obtain ⟨k, z, rfl⟩ := h v (by simp)
      simp only [List.zip_cons_cons, List.all_cons, ih fun x hx => h x (by simp [hx]), Bool.and_true]
      simp [Instr.sameBits]
  have hl : ∀ v ∈ (refC l n).toList, ∃ k z, v = Value.int k z := by
    intro v hv
    simp only [refC, List.mem_append, List.mem_map, List.mem_singleton] at hv
    rcases hv with ⟨j, -, rfl⟩ | rfl
    · exact ⟨_, _, rfl⟩
    · exact ⟨_, _, rfl⟩
  rw [show (10000 : Nat) = 9999 + 1 from rfl, sameBits_agg, hz _ hl]; simp
theorem run_stays (l : List UInt8) (n : Nat) (w : World) : (Instr.keyThatStays (.agg (refC l n)) (.agg (refC l n))).run Tryd.prog w = .ok (.agg (refC l n)) w := by
  unfold Instr.keyThatStays
  rw [same_ref]; rfl
theorem run_mapEntry_some {l : List UInt8} (hl : l.length = 32) (n : Nat) {w : World} {b : Nat} {E : List ((List UInt8 × Nat) × Int)} (q : Nat) (z : Int) (h : MapRow w b E) (hE : Len32 E) (hq : E[q]? = some ((l, n), z)) (hn : ∀ p, p < q → ∀ e, E[p]? = some e → e.1 ≠ (l, n)) : (Instr.mapEntry 101 (.map (some b)) (.agg (refC l n))).run Tryd.prog w = .ok (.tuple #[.int .i64 z, .int .i64 (q : Int)]) (setBlock w b (.map (mEnts 0 E).toArray E.length)) := by
  have hf := fk_some hl n w E q z hE hq hn
  have hc := run_checkRef l n false w
  have hs := fun o => MapKept.run_setObj_map (P := Tryd.prog) o h
  have hst := run_stays l n w
  have hat : (mEnts 0 E).toArray[q]? = some (mEnt q ((l, n), z)) := by rw [List.getElem?_toArray, mEnts_at, hq, Nat.zero_add]; rfl
  have e1 : (mEnts 0 E).toArray.modify q (fun e => { e with key := Value.agg (refC l n) }) = (mEnts 0 E).toArray := by
    rw [List.modify_toArray]
    refine congrArg List.toArray (List.ext_getElem? fun p => ?_)
    rw [List.getElem?_modify]
    by_cases hp : q = p
    · subst hp
      have hat' : (mEnts 0 E)[q]? = some (mEnt q ((l, n), z)) := by rw [← List.getElem?_toArray]; exact hat
      rw [hat']; simp [mEnt]
    · simp [hp]
  unfold Instr.mapEntry
  rw [Sem.run_bind, run_underlying Tryd.underlying101]
  simp only [Result.andThen_ok, Sem.run_bind, MapKept.run_getObj_map h, Sem.run_pure, hc, hf, hat, Option.map_some, Option.getD_some, mEnt, hst, e1, hs]
  rfl
theorem run_entryStore {w : World} {b : Nat} {E : List ((List UInt8 × Nat) × Int)} (T : TypeId) (q : Nat) (z y : Int) (r : List UInt8 × Nat) (h : MapRow w b E) (hq : E[q]? = some (r, y)) : (Instr.entryStore T (.map (some b)) (.int .i64 (q : Int)) (.int .i64 z)).run Tryd.prog w = .ok () (setBlock w b (.map (mEnts 0 (E.set q (r, z))).toArray E.length)) := by
  have hs := fun o => MapKept.run_setObj_map (P := Tryd.prog) o h
  have hlt : q < E.length := (List.getElem?_eq_some_iff.1 hq).1
  have hb := mEnts_born 0 E q hlt
  rw [Nat.zero_add] at hb
  have hfi : (mEnts 0 E).toArray.findIdx? (fun e => (e.born : Int) == (q : Int)) = some q := by rw [List.findIdx?_toArray]; exact hb
  have e1 : (mEnts 0 E).toArray.modify q (fun e => { e with val := Value.int .i64 z }) = (mEnts 0 (E.set q (r, z))).toArray := by
    rw [List.modify_toArray, ← mEnts_set]
    refine congrArg List.toArray (List.ext_getElem? fun p => ?_)
    rw [List.getElem?_modify, List.getElem?_set, mEnts_len]
    by_cases hp : q = p
    · subst hp
      rw [mEnts_at, hq]; simp [mEnt, hlt]
    · simp [hp]
  unfold Instr.entryStore
  simp only [Sem.run_bind, MapKept.run_getObj_map h, Result.andThen_ok, asInt, asIntOf, Sem.run_pure, hfi, e1, hs]
  rfl
end Go.Proofs.YtaoaecbdjdcpdaaDoor
