/-
  Layer 10: the walks of what writes: transactions as bytes, the program's and the reference's.
-/
import Derived.Test.YtmfjgehlkbndjaaGreatDoorTxCells
namespace Go.Proofs.YtmfjgehlkbndjaaGreatDoor
open Go Go.RowKit

theorem inL_le {i : InP} (h : i.unlock.length ≤ 2000) (hid : i.id.length = 32) : (inL i).length ≤ 2060 := by
  have h1 := textL_le h
  unfold inL refL
  rw [List.length_append, List.length_append, List.length_append, fixedL_len, fixedL_len, hid]
  omega
def insL (is : List InP) : List UInt8 := (is.map inL).flatten
def outsL (os : List (Int × List UInt8)) : List UInt8 := (os.map outPL).flatten
theorem insL_step {is : List InP} {k : Nat} {i : InP} (h : is[k]? = some i) : insL (is.drop k) = inL i ++ insL (is.drop (k + 1)) := by
  have hk := (List.getElem?_eq_some_iff.1 h)
  obtain ⟨hk, rfl⟩ := hk
  rw [List.drop_eq_getElem_cons hk]; unfold insL; rw [List.map_cons, List.flatten_cons]
theorem outsL_step {os : List (Int × List UInt8)} {k : Nat} {i : Int × List UInt8} (h : os[k]? = some i) : outsL (os.drop k) = outPL i ++ outsL (os.drop (k + 1)) := by
  have hk := (List.getElem?_eq_some_iff.1 h)
  obtain ⟨hk, rfl⟩ := hk
  rw [List.drop_eq_getElem_cons hk]; unfold outsL; rw [List.map_cons, List.flatten_cons]
theorem fst_at {α : Type} {zs : List (α × Value)} {l : List α} (h : zs.map Prod.fst = l) {k : Nat} {z : α × Value} (hz : zs[k]? = some z) : l[k]? = some z.1 := by
  rw [← h, List.getElem?_map, hz]; rfl
theorem fst_len {α : Type} {zs : List (α × Value)} {l : List α} (h : zs.map Prod.fst = l) : zs.length = l.length := by rw [← h, List.length_map]
theorem inL3 (X : List UInt8) (i : InP) : X ++ inL i = X ++ refL i.id i.at' ++ textL i.unlock ++ fixedL i.order 4 := by unfold inL; simp only [List.append_assoc]
theorem txL_split (t : TxP) : txL t = (fixedL t.version 4 ++ countL t.ins.length) ++ insL t.ins ++ countL t.outs.length ++ outsL t.outs ++ fixedL t.end' 4 := by
  unfold txL insL outsL
  simp only [List.append_assoc]
set_option maxRecDepth 100000 in
set_option maxHeartbeats 8000000 in
theorem tWord_any {n : Nat} (hn : n < 4294967296) (W0 : World) : Calls Tryz.prog 71 #[.int .u32 (n : Int)] W0 (POwnPost W0 (fixedL n 4)) := by
  go_enter Tryz.func71, Tryz.ntmps71
  go_wp2_with (first
    | ((with_reducible change wpList _ _ _ (Oper.mk (some 4) _ _ _ _ _ :: _) _ _); refine kConvWU _ n hn rfl rfl rfl ?_; go_frame)
    | (go_at_call 66; refine (pcFixed_any (l := []) n 4 _ (isVals_nil _) (by simp)).mono ?_; rintro e w5 ⟨v5, rfl, hO5, hB5⟩; go_frame))
  go_ret
  rw [clamp4, List.nil_append] at hO5
  exact ⟨_, rfl, hO5, hB5⟩
set_option maxRecDepth 100000 in
set_option maxHeartbeats 8000000 in
theorem tCount_any {n : Nat} (hn : n < 1000000) (W0 : World) : Calls Tryz.prog 72 #[.int .i64 (n : Int)] W0 (POwnPost W0 (countL n)) := by
  go_enter Tryz.func72, Tryz.ntmps72
  go_wp2_with (first
    | ((with_reducible change wpList _ _ _ (Oper.mk (some 4) _ _ _ _ _ :: _) _ _); refine kConvIU _ n (by omega) rfl rfl rfl ?_; go_frame)
    | (go_at_call 41; refine (pcCount_any (l := []) n _ (isVals_nil _) (by simp)).mono ?_; rintro e w5 ⟨v5, rfl, hO5, hB5⟩; go_frame))
  go_ret
  rw [List.nil_append] at hO5
  exact ⟨_, rfl, hO5, hB5⟩
set_option maxRecDepth 100000 in
set_option maxHeartbeats 8000000 in
theorem tIn_any {i : InP} {u : Value} (W0 : World) (hi : i.Is) (hv : IsVals W0 u (i.unlock.map VB)) (hl : i.unlock.length ≤ 2000) : Calls Tryz.prog 73 #[.agg (inC i u)] W0 (POwnPost W0 (inL i)) := by
  obtain ⟨iy, hiy, hzy, hsy⟩ := bysInfoC
  have hll := inL_le hl hi.1
  go_enter Tryz.func73, Tryz.ntmps73
  go_wp2_with (first
    | ((with_reducible change wpList _ _ _ (Oper.mk (some 1) _ _ _ _ _ :: _) _ _); refine kBoxL _ _ _ rfl rfl rfl ?_; intro w1 hR hz1 hB; clear hz1; have hv1 := hv.below hB; go_frame))
  refine region_symT 6 _ [] [] [.val (.pointer (some ⟨W0.heap.size, 0, none⟩)), .val (.agg (refC i.id i.at')), .prop (fun w v => OwnB w w1.heap.size v (refL i.id i.at')) (fun _ _ _ hb h => h.below hb), .val (.pointer (some ⟨W0.heap.size, 33, none⟩)), .val (u), .prop (fun w v => AreLists w v [i.unlock]) (fun _ _ _ hb h => h.below hb)] rfl (by kernel_rfl) (by kernel_rfl) (by kernel_rfl) (by kernel_rfl) rfl (by intro s hs; cases hs) (steps_all ⟨?_, ?_, ?_, ?_, ?_, ?_, trivial⟩) ?_
  · exact fun A W sz ot hbel ap dp => kFld inCF0 _ _ 0 0 rfl rfl rfl (tO ot 1) (tV ap sz (Below.refl _ _) rfl)
  · exact fun A W sz ot hbel ap dp => kLoadInRef _ _ i u (hR.below hbel hR.lt) rfl rfl (tD dp 0 .data) (tV ap sz (Below.refl _ _) rfl)
  · exact fun A W sz ot hbel ap dp => kCall1 109 _ _ _ rfl rfl (by kernel_rfl) (tD dp 1 .data) ((coRefBytes_any hi.1 hi.2.1 _).mono (fun e W1 ⟨v, he, hO, hB'⟩ => ⟨v, he, tV ap sz hB' (own_less hbel.size hO)⟩))
  · exact fun A W sz ot hbel ap dp => kFld inCF1 _ _ 0 33 rfl rfl rfl (tO ot 1) (tV ap sz (Below.refl _ _) rfl)
  · exact fun A W sz ot hbel ap dp => kLd Tryz.underlying38 rfl _ _ 33 _ u (hR.below hbel hR.lt) (inC_33 _ _) rfl rfl (tD dp 3 .data) (tV ap sz (Below.refl _ _) rfl)
  · exact fun A W sz ot hbel ap dp => kBuildSlice1 _ _ _ u rfl rfl Tryz.underlying109 iy _ hiy hzy hsy (tD dp 4 .data) hv1.sl.one (fun W1 hR1 _ hB' => tV ap sz hB' (areLists_one hR1 ((hv1.below hbel).below hB')))
  intro w2 hB2
  dsimp only [AllV]
  rintro u2 hu2 u5 hu5 hap
  dsimp only [putAll, List.take, List.drop]
  go_frame
  clear hap
  have hBB := hB.trans (hB2.mono hB.size)
  have hR2 := hR.below hB2 hR.lt
  have hsz := hBB.size
  have hrl : (refL i.id i.at').length = 36 := by unfold refL; rw [List.length_append, fixedL_len, hi.1]
  go_wp2_with (first
    | (go_at_call 108; refine (pcText_any _ hu2.vals hu5 (by omega) (by simp) (by intro L hL; simp at hL; subst hL; omega)).mono ?_; rintro e w5 ⟨v5, rfl, hO5, hB5⟩; have hO6 := own_less hsz hO5; have hB6 := hBB.trans (hB5.mono hsz); have hR5 := hR2.below hB5 hR2.lt; have hsz6 := hB6.size; clear hO5 hB5; go_frame)
    | ((with_reducible change wpList _ _ _ (Oper.mk (some 12) _ _ _ _ _ :: _) _ _); refine kFld inCF2 _ _ 0 34 rfl rfl rfl rfl ?_; go_frame)
    | ((with_reducible change wpList _ _ _ (Oper.mk (some 13) _ _ _ _ _ :: _) _ _); refine kLd Tryz.underlying22 rfl _ _ 34 _ (.int .u32 (i.order : Int)) hR5 (inC_34 _ _) rfl rfl rfl ?_; go_frame)
    | (go_at_call 71; refine (tWord_any hi.2.2 _).mono ?_; rintro e w7 ⟨v7, rfl, hO7, hB7⟩; have hO8 := hO6.below hB7; have hB8 := hB6.trans (hB7.mono hsz6); have hsz8 := hB8.size; clear hB7; go_frame)
    | ((with_reducible change wpList _ _ _ (Oper.mk (some 15) _ _ _ _ _ :: _) _ _); refine kAppB _ _ rfl rfl W0.heap.size _ _ (refL i.id i.at' ++ textsL [i.unlock]) (fixedL i.order 4) hO8 hO7.vals rfl rfl (by rw [List.length_append, textsL_one, fixedL_len, hrl]; have := textL_le hl; omega) hsz8 ?_; intro v9 w9 hO9 hB9; have hB10 := hB8.trans hB9; clear hB9; go_frame))
  go_ret
  rw [textsL_one, List.append_assoc] at hO9
  exact ⟨_, rfl, hO9, hB10⟩
set_option maxRecDepth 100000 in
set_option maxHeartbeats 8000000 in
theorem tBytes_any {t : TxP} {a b : Value} (W0 : World) (ht : t.Is) (hf : t.Fits) (ha : InsOf W0 a t.ins) (hb : OutsOf W0 b t.outs) : Calls Tryz.prog 42 #[.agg (txC t.version a b t.end')] W0 (POwnPost W0 (txL t)) := by
  obtain ⟨zi, ei, hi⟩ := ha
  obtain ⟨zo, eo, ho⟩ := hb
  obtain ⟨N, hN⟩ : ∃ N, t.ins.length = N := ⟨_, rfl⟩
  obtain ⟨M, hM⟩ : ∃ M, t.outs.length = M := ⟨_, rfl⟩
  have hzN : zi.length = N := by rw [fst_len ei, hN]
  have hzM : zo.length = M := by rw [fst_len eo, hM]
  have hN2 : N ≤ 200 := by rw [← hN]; exact hf.1
  have hM2 : M ≤ 200 := by rw [← hM]; exact hf.2.1
  rw [txL_split, hN, hM]
  obtain ⟨hts, hte, hti, hto⟩ := ht
  obtain ⟨-, -, hfi, hfo⟩ := hf
  obtain ⟨n, is, os, e⟩ := t
  dsimp only at *
  obtain ⟨R, hRR⟩ : ∃ R, fixedL n 4 ++ countL N ++ insL is ++ countL M ++ outsL os ++ fixedL e 4 = R := ⟨_, rfl⟩
  rw [hRR]
  have hRR' : Hid (fixedL n 4 ++ countL N ++ insL is ++ countL M ++ outsL os ++ fixedL e 4 = R) := hRR
  clear hRR
  have hcl := countL_le N
  have hcm := countL_le M
  have hw4 : (fixedL n 4).length = 4 := fixedL_len n 4
  have he4 : (fixedL e 4).length = 4 := fixedL_len e 4
  go_enter Tryz.func42, Tryz.ntmps42
  go_wp2_with (first
    | ((with_reducible change wpList _ _ _ (Oper.mk (some 1) _ _ _ _ _ :: _) _ _); refine kBoxL _ _ _ rfl rfl rfl ?_; intro w1 hR hz1 hB1; clear hz1; have hi1 := hi.below hB1; have ho1 := ho.below hB1; have hB := Below.refl w1.heap.size w1; go_frame)
    | ((with_reducible change wpList _ _ _ (Oper.mk (some 8) _ _ _ _ _ :: _) _ _); refine kFld txCF0 _ _ 0 0 rfl rfl rfl rfl ?_; go_frame)
    | ((with_reducible change wpList _ _ _ (Oper.mk (some 9) _ _ _ _ _ :: _) _ _); refine kLd Tryz.underlying22 rfl _ _ 0 _ (.int .u32 (n : Int)) hR rfl rfl rfl rfl ?_; go_frame)
    | (go_at_call 71; refine (tWord_any hts _).mono ?_; rintro e w2 ⟨v2, rfl, hO2, hBq⟩; have hR2 := hR.below hBq hR.lt; have hB2 := hB.trans hBq; clear hBq hB; go_frame)
    | ((with_reducible change wpList _ _ _ (Oper.mk (some 12) _ _ _ _ _ :: _) _ _); refine kFld txCF1 _ _ 0 1 rfl rfl rfl rfl ?_; go_frame)
    | ((with_reducible change wpList _ _ _ (Oper.mk (some 13) _ _ _ _ _ :: _) _ _); refine kLd Tryz.underlying31 rfl _ _ 1 _ (a) hR2 rfl rfl rfl rfl ?_; go_frame)
    | ((with_reducible change wpList _ _ _ (Oper.mk (some 14) _ _ _ _ _ :: _) _ _); refine kLenIns _ a zi N (hi1.below hB2) hzN rfl rfl rfl ?_; go_frame)
    | (go_at_call 72; refine (tCount_any (n := N) (by omega) _).mono ?_; rintro e w3 ⟨v3, rfl, hO3, hBq⟩; have hB3 := hB2.trans (hBq.mono hB2.size); have hO2b := hO2.below hBq; clear hBq hB2 hR2; go_frame)
    | ((with_reducible change wpList _ _ _ (Oper.mk (some 16) _ _ _ _ _ :: _) _ _); refine kAppB _ _ rfl rfl w1.heap.size _ _ (fixedL n 4) (countL N) hO2b hO3.vals rfl rfl (by omega) hB3.size ?_; intro v4 w4 hO4 hBq; have hB4 := hB3.trans hBq; clear hBq hB3; go_frame)
    | ((with_reducible change wpList _ _ _ (Oper.mk (some 17) _ _ _ _ _ :: _) _ _); refine kFld txCF1 _ _ 0 1 rfl rfl rfl rfl ?_; go_frame)
    | ((with_reducible change wpList _ _ _ (Oper.mk (some 18) _ _ _ _ _ :: _) _ _); refine kLd Tryz.underlying31 rfl _ _ 1 _ (a) (hR.below hB4 hR.lt) rfl rfl rfl rfl ?_; go_frame)
    | ((with_reducible change wpList _ _ _ (Oper.mk (some 19) _ _ _ _ _ :: _) _ _); refine kLenIns _ a zi N (hi1.below hB4) hzN rfl rfl rfl ?_; go_frame))
  have hL1 : (fixedL n 4 ++ countL N).length ≤ 13 := by rw [List.length_append]; omega
  obtain ⟨T1, hT1⟩ : ∃ T1, fixedL n 4 ++ countL N ++ insL is = T1 := ⟨_, rfl⟩
  have hRR : Hid (T1 ++ countL M ++ outsL os ++ fixedL e 4 = R) := by rw [← hT1]; exact hRR'.out
  clear hRR'
  clear hO2b hO3
  go_loopw [20, 3] (fun x y wr => ∃ (k : Nat) (X : List UInt8), k ≤ N ∧ x = .int .i64 k ∧ OwnB wr w1.heap.size y X ∧ X ++ insL (is.drop k) = T1 ∧ X.length ≤ 13 + k * 2060 ∧ Below w1.heap.size w1 wr) (fun x _ _ => N - (intOf x).toNat)
  case atStart => exact ⟨0, _, by omega, rfl, hO4, by rw [List.drop_zero]; exact hT1, by omega, hB4⟩
  case round =>
    clear hT1 hO4 hB4
    obtain ⟨k, X, hk, rfl, hO, hX, hXl, hB⟩ := hrel
    have hsz := hB.size
    by_cases hlt : k < N
    · have hd : decide ((k : Int) < (N : Int)) = true := by simp; omega
      obtain ⟨⟨i, u⟩, hz⟩ : ∃ z, zi[k]? = some z := ⟨_, List.getElem?_eq_getElem (by omega)⟩
      have hik := fst_at ei hz
      have hmem : i ∈ is := List.mem_of_getElem? hik
      have hiI := hti i hmem
      have hiF := hfi i hmem
      have hu1 := hi1.2 _ (List.mem_of_getElem? hz)
      have hvr := hi1.below hB
      have hil := inL_le hiF hiI.1
      have hrl : (refL i.id i.at').length = 36 := by unfold refL; rw [List.length_append, fixedL_len, hiI.1]
      have htl := textL_le hiF
      have hfl : (fixedL i.order 4).length = 4 := fixedL_len _ 4
      rw [insL_step hik, ← List.append_assoc] at hX
      go_wp2_with (first
        | ((with_reducible change wpList _ _ _ (Oper.mk (some 21) _ _ _ _ _ :: _) _ _); refine kLssI _ _ _ _ .i64 (k : Int) (N : Int) true rfl rfl rfl rfl hd ?_; go_frame)
        | ((with_reducible change wpList _ _ _ (Oper.mk (some 22) _ _ _ _ _ :: _) _ _); refine kIndexIn _ _ a zi k (i, u) hvr hz rfl rfl rfl rfl ?_; intro bb hbb; go_frame)
        | ((with_reducible change wpList _ _ _ (Oper.mk (some 23) _ _ _ _ _ :: _) _ _); refine kLoadInAt _ bb i u hbb rfl rfl rfl ?_; clear hbb hvr; go_frame)
        | ((with_reducible change wpList _ _ _ (Oper.mk (some 5) _ _ _ _ _ :: _) _ _); refine kAllocL _ _ rfl rfl zero_InC ?_; intro w5 hR5 hz5 hBq; have hB5 := hB.trans (hBq.mono hsz); have hO5 := hO.below hBq; have hsz5 := hB5.size; clear hB hO hBq hz5; go_frame)
        | ((with_reducible change wpList _ _ _ (Oper.mk none _ _ _ _ _ :: _) _ _); refine kStoreIn _ _ _ i u _ hR5 (inC_size _ _) hu1.sl.one rfl rfl rfl rfl ?_; intro w6 hR6 hW6; have hB6 := hB5.trans (hW6.below hsz); have hO6 := own_wroteN hO5 hR5 (by decide) hW6; have hu6 := hu1.below hB6; have hsz6 := hB6.size; clear hB5 hO5 hW6 hR5 hsz5; go_frame)
        | ((with_reducible change wpList _ _ _ (Oper.mk (some 25) _ _ _ _ _ :: _) _ _); refine kLoadIn _ _ i u hR6 rfl rfl rfl ?_; go_frame)
        | (go_at_call 73; refine (tIn_any _ hiI hu6 hiF).mono ?_; rintro e w7 ⟨v7, rfl, hO7, hBq⟩; have hB7 := hB6.trans (hBq.mono hsz6); have hO7b := hO6.below hBq; clear hBq hB6 hO6; go_frame)
        | ((with_reducible change wpList _ _ _ (Oper.mk (some 27) _ _ _ _ _ :: _) _ _); refine kAppB _ _ rfl rfl w1.heap.size _ _ (X) (inL i) hO7b hO7.vals rfl rfl (by omega) hB7.size ?_; intro v8 w8 hO8 hBq; have hB8 := hB7.trans hBq; clear hBq hB7; go_frame)
        | ((with_reducible change wpList _ _ _ (Oper.mk (some 28) _ _ _ _ _ :: _) _ _); refine kAddI _ _ _ _ (k : Int) 1 ((k + 1 : Nat) : Int) (by omega) rfl rfl rfl rfl ?_; go_frame))
      go_roundw
      case rel => exact ⟨k + 1, (X ++ inL i), by omega, rfl, hO8, hX, by rw [List.length_append]; omega, hB8⟩
      case measure => simp [intOf]; omega
    · have hd : decide ((k : Int) < (N : Int)) = false := by simp; omega
      have hX1 : X = T1 := by rw [← hX, List.drop_of_length_le (by omega)]; simp [insL]
      subst hX1
      have hTl : X.length ≤ 13 + 200 * 2060 := by have := Nat.mul_le_mul_right 2060 (show k ≤ 200 by omega); omega
      clear hX hXl hlt
      have hR1 := hR.below hB hR.lt
      go_wp2_with (first
        | ((with_reducible change wpList _ _ _ (Oper.mk (some 21) _ _ _ _ _ :: _) _ _); refine kLssI _ _ _ _ .i64 (k : Int) (N : Int) false rfl rfl rfl rfl hd ?_; go_frame)
        | ((with_reducible change wpList _ _ _ (Oper.mk (some 30) _ _ _ _ _ :: _) _ _); refine kFld txCF2 _ _ 0 2 rfl rfl rfl rfl ?_; go_frame)
        | ((with_reducible change wpList _ _ _ (Oper.mk (some 31) _ _ _ _ _ :: _) _ _); refine kLd Tryz.underlying32 rfl _ _ 2 _ (b) hR1 rfl rfl rfl rfl ?_; go_frame)
        | ((with_reducible change wpList _ _ _ (Oper.mk (some 32) _ _ _ _ _ :: _) _ _); refine kLenOutsT _ b zo M (ho1.below hB) hzM rfl rfl rfl ?_; go_frame)
        | (go_at_call 72; refine (tCount_any (n := M) (by omega) _).mono ?_; rintro e w3 ⟨v3, rfl, hO3, hBq⟩; have hB3 := hB.trans (hBq.mono hB.size); have hO2b := hO.below hBq; clear hBq hB hR1; go_frame)
        | ((with_reducible change wpList _ _ _ (Oper.mk (some 34) _ _ _ _ _ :: _) _ _); refine kAppB _ _ rfl rfl w1.heap.size _ _ (X) (countL M) hO2b hO3.vals rfl rfl (by omega) hB3.size ?_; intro v4 w4 hO4 hBq; have hB4 := hB3.trans hBq; clear hBq hB3; go_frame)
        | ((with_reducible change wpList _ _ _ (Oper.mk (some 35) _ _ _ _ _ :: _) _ _); refine kFld txCF2 _ _ 0 2 rfl rfl rfl rfl ?_; go_frame)
        | ((with_reducible change wpList _ _ _ (Oper.mk (some 36) _ _ _ _ _ :: _) _ _); refine kLd Tryz.underlying32 rfl _ _ 2 _ (b) (hR.below hB4 hR.lt) rfl rfl rfl rfl ?_; go_frame)
        | ((with_reducible change wpList _ _ _ (Oper.mk (some 37) _ _ _ _ _ :: _) _ _); refine kLenOutsT _ b zo M (ho1.below hB4) hzM rfl rfl rfl ?_; go_frame))
      have hL2 : (X ++ countL M).length ≤ 412022 := by rw [List.length_append]; omega
      obtain ⟨T2, hT2⟩ : ∃ T2, X ++ countL M ++ outsL os = T2 := ⟨_, rfl⟩
      have hR3 : Hid (T2 ++ fixedL e 4 = R) := by rw [← hT2]; exact hRR.out
      clear hRR
      clear hO2b hO3 hO hd hsz
      go_loopw [38, 3] (fun x y wr => ∃ (k : Nat) (X : List UInt8), k ≤ M ∧ x = .int .i64 k ∧ OwnB wr w1.heap.size y X ∧ X ++ outsL (os.drop k) = T2 ∧ X.length ≤ 412022 + k * 2060 ∧ Below w1.heap.size w1 wr) (fun x _ _ => M - (intOf x).toNat)
      case atStart => exact ⟨0, _, by omega, rfl, hO4, by rw [List.drop_zero]; exact hT2, by omega, hB4⟩
      case round =>
        clear hT2 hO4 hB4 hTl hL2
        obtain ⟨k, X, hk, rfl, hO, hX, hXl, hB⟩ := hrel
        have hsz := hB.size
        by_cases hlt : k < M
        · have hd : decide ((k : Int) < (M : Int)) = true := by simp; omega
          obtain ⟨⟨⟨q, l⟩, u⟩, hz⟩ : ∃ z, zo[k]? = some z := ⟨_, List.getElem?_eq_getElem (by omega)⟩
          have hik := fst_at eo hz
          have hmem : (q, l) ∈ os := List.mem_of_getElem? hik
          have hiF : l.length ≤ 2000 := hfo _ hmem
          have hu1 : IsVals w1 u (l.map VB) := ho1.2 _ (List.mem_of_getElem? hz)
          have hvr := ho1.below hB
          have hil : (outL q l).length ≤ 2017 := outL_le hiF
          rw [outsL_step hik, ← List.append_assoc] at hX
          go_wp2_with (first
            | ((with_reducible change wpList _ _ _ (Oper.mk (some 39) _ _ _ _ _ :: _) _ _); refine kLssI _ _ _ _ .i64 (k : Int) (M : Int) true rfl rfl rfl rfl hd ?_; go_frame)
            | ((with_reducible change wpList _ _ _ (Oper.mk (some 40) _ _ _ _ _ :: _) _ _); refine kIndexOutT _ _ b zo k ((q, l), u) hvr hz rfl rfl rfl rfl ?_; intro bb hbb; go_frame)
            | ((with_reducible change wpList _ _ _ (Oper.mk (some 41) _ _ _ _ _ :: _) _ _); refine kLoadOutT _ bb q l u hbb rfl rfl rfl ?_; clear hbb hvr; go_frame)
            | ((with_reducible change wpList _ _ _ (Oper.mk (some 7) _ _ _ _ _ :: _) _ _); refine kAllocL _ _ rfl rfl zero_OutC ?_; intro w5 hR5 hz5 hBq; have hB5 := hB.trans (hBq.mono hsz); have hO5 := hO.below hBq; have hsz5 := hB5.size; clear hB hO hBq hz5; go_frame)
            | ((with_reducible change wpList _ _ _ (Oper.mk none _ _ _ _ _ :: _) _ _); refine kStoreOut _ _ _ q u _ hR5 rfl hu1 rfl rfl rfl rfl ?_; intro w6 hR6 hW6; have hB6 := hB5.trans (hW6.below hsz); have hO6 := own_wroteN hO5 hR5 (by decide) hW6; have hu6 := hu1.below hB6; have hsz6 := hB6.size; clear hB5 hO5 hW6 hR5 hsz5; go_frame)
            | ((with_reducible change wpList _ _ _ (Oper.mk (some 43) _ _ _ _ _ :: _) _ _); refine kLoadOut _ _ q u hR6 rfl rfl rfl ?_; go_frame)
            | (go_at_call 74; refine (coOutBytes_any _ hu6 (by omega)).mono ?_; rintro e w7 ⟨v7, rfl, hO7, hBq⟩; have hB7 := hB6.trans (hBq.mono hsz6); have hO7b := hO6.below hBq; clear hBq hB6 hO6; go_frame)
            | ((with_reducible change wpList _ _ _ (Oper.mk (some 45) _ _ _ _ _ :: _) _ _); refine kAppB _ _ rfl rfl w1.heap.size _ _ (X) (outL q l) hO7b hO7.vals rfl rfl (by omega) hB7.size ?_; intro v8 w8 hO8 hBq; have hB8 := hB7.trans hBq; clear hBq hB7; go_frame)
            | ((with_reducible change wpList _ _ _ (Oper.mk (some 46) _ _ _ _ _ :: _) _ _); refine kAddI _ _ _ _ (k : Int) 1 ((k + 1 : Nat) : Int) (by omega) rfl rfl rfl rfl ?_; go_frame))
          go_roundw
          case rel => exact ⟨k + 1, (X ++ outL q l), by omega, rfl, hO8, hX, by rw [List.length_append]; omega, hB8⟩
          case measure => simp [intOf]; omega
        · have hd : decide ((k : Int) < (M : Int)) = false := by simp; omega
          have hX1 : X = T2 := by rw [← hX, List.drop_of_length_le (by omega)]; simp [outsL]
          subst hX1
          have hTl : X.length ≤ 412022 + 200 * 2060 := by have := Nat.mul_le_mul_right 2060 (show k ≤ 200 by omega); omega
          clear hX hXl hlt
          have hR1 := hR.below hB hR.lt
          go_wp2_with (first
            | ((with_reducible change wpList _ _ _ (Oper.mk (some 39) _ _ _ _ _ :: _) _ _); refine kLssI _ _ _ _ .i64 (k : Int) (M : Int) false rfl rfl rfl rfl hd ?_; go_frame)
            | ((with_reducible change wpList _ _ _ (Oper.mk (some 48) _ _ _ _ _ :: _) _ _); refine kFld txCF3 _ _ 0 3 rfl rfl rfl rfl ?_; go_frame)
            | ((with_reducible change wpList _ _ _ (Oper.mk (some 49) _ _ _ _ _ :: _) _ _); refine kLd Tryz.underlying22 rfl _ _ 3 _ (.int .u32 (e : Int)) hR1 rfl rfl rfl rfl ?_; go_frame)
            | (go_at_call 71; refine (tWord_any hte _).mono ?_; rintro e w3 ⟨v3, rfl, hO3, hBq⟩; have hB3 := hB.trans (hBq.mono hB.size); have hO2b := hO.below hBq; clear hBq hB hR1; go_frame)
            | ((with_reducible change wpList _ _ _ (Oper.mk (some 51) _ _ _ _ _ :: _) _ _); refine kAppB _ _ rfl rfl w1.heap.size _ _ (X) (fixedL e 4) hO2b hO3.vals rfl rfl (by omega) hB3.size ?_; intro v4 w4 hO4 hBq; have hB4 := hB3.trans hBq; clear hBq hB3; go_frame))
          go_ret
          rw [hR3.out] at hO4
          exact ⟨_, rfl, own_less hB1.size hO4, hB1.trans (hB4.mono hB1.size)⟩
set_option maxRecDepth 100000 in
set_option maxHeartbeats 8000000 in
theorem yBytes_any {t : TxP} {a b : Value} (W0 : World) (ht : t.Is) (hf : t.Fits) (ha : InsOf W0 a t.ins) (hb : OutsOf W0 b t.outs) : Calls Tryz.prog 45 #[.agg (txC t.version a b t.end')] W0 (POwnPost W0 (txL t)) := by
  obtain ⟨zi, ei, hi⟩ := ha
  obtain ⟨zo, eo, ho⟩ := hb
  obtain ⟨N, hN⟩ : ∃ N, t.ins.length = N := ⟨_, rfl⟩
  obtain ⟨M, hM⟩ : ∃ M, t.outs.length = M := ⟨_, rfl⟩
  have hzN : zi.length = N := by rw [fst_len ei, hN]
  have hzM : zo.length = M := by rw [fst_len eo, hM]
  have hN2 : N ≤ 200 := by rw [← hN]; exact hf.1
  have hM2 : M ≤ 200 := by rw [← hM]; exact hf.2.1
  rw [txL_split, hN, hM]
  obtain ⟨hts, hte, hti, hto⟩ := ht
  obtain ⟨-, -, hfi, hfo⟩ := hf
  obtain ⟨n, is, os, e⟩ := t
  dsimp only at *
  obtain ⟨R, hRR⟩ : ∃ R, fixedL n 4 ++ countL N ++ insL is ++ countL M ++ outsL os ++ fixedL e 4 = R := ⟨_, rfl⟩
  rw [hRR]
  have hRR' : Hid (fixedL n 4 ++ countL N ++ insL is ++ countL M ++ outsL os ++ fixedL e 4 = R) := hRR
  clear hRR
  have hcl := countL_le N
  have hcm := countL_le M
  have hw4 : (fixedL n 4).length = 4 := fixedL_len n 4
  have he4 : (fixedL e 4).length = 4 := fixedL_len e 4
  go_enter Tryz.func45, Tryz.ntmps45
  go_wp2_with (first
    | ((with_reducible change wpList _ _ _ (Oper.mk (some 1) _ _ _ _ _ :: _) _ _); refine kBoxL _ _ _ rfl rfl rfl ?_; intro w1 hR hz1 hB1; clear hz1; have hi1 := hi.below hB1; have ho1 := ho.below hB1; have hB := Below.refl w1.heap.size w1; go_frame)
    | ((with_reducible change wpList _ _ _ (Oper.mk (some 8) _ _ _ _ _ :: _) _ _); refine kFld txCF0 _ _ 0 0 rfl rfl rfl rfl ?_; go_frame)
    | ((with_reducible change wpList _ _ _ (Oper.mk (some 9) _ _ _ _ _ :: _) _ _); refine kLd Tryz.underlying22 rfl _ _ 0 _ (.int .u32 (n : Int)) hR rfl rfl rfl rfl ?_; go_frame)
    | ((with_reducible change wpList _ _ _ (Oper.mk (some 10) _ _ _ _ _ :: _) _ _); refine kConvWU _ n hts rfl rfl rfl ?_; go_frame)
    | (go_at_call 38; (with_reducible change Calls _ _ #[.int .u64 (n : Int), _] _ _); refine (jFixed_any n (by omega) 4 _).mono ?_; rintro e w2 ⟨v2, rfl, hO2, hBq⟩; rw [clamp4] at hO2; have hR2 := hR.below hBq hR.lt; have hB2 := hB.trans hBq; clear hBq hB; go_frame)
    | ((with_reducible change wpList _ _ _ (Oper.mk (some 13) _ _ _ _ _ :: _) _ _); refine kFld txCF1 _ _ 0 1 rfl rfl rfl rfl ?_; go_frame)
    | ((with_reducible change wpList _ _ _ (Oper.mk (some 14) _ _ _ _ _ :: _) _ _); refine kLd Tryz.underlying31 rfl _ _ 1 _ (a) hR2 rfl rfl rfl rfl ?_; go_frame)
    | ((with_reducible change wpList _ _ _ (Oper.mk (some 15) _ _ _ _ _ :: _) _ _); refine kLenIns _ a zi N (hi1.below hB2) hzN rfl rfl rfl ?_; go_frame)
    | ((with_reducible change wpList _ _ _ (Oper.mk (some 16) _ _ _ _ _ :: _) _ _); refine kConvIU _ N (by omega) rfl rfl rfl ?_; go_frame)
    | (go_at_call 44; refine (jCount_any (n := N) (by omega) _).mono ?_; rintro e w3 ⟨v3, rfl, hO3, hBq⟩; have hB3 := hB2.trans (hBq.mono hB2.size); have hO2b := hO2.below hBq; clear hBq hB2 hR2; go_frame)
    | ((with_reducible change wpList _ _ _ (Oper.mk (some 18) _ _ _ _ _ :: _) _ _); refine kAppB _ _ rfl rfl w1.heap.size _ _ (fixedL n 4) (countL N) hO2b hO3.vals rfl rfl (by omega) hB3.size ?_; intro v4 w4 hO4 hBq; have hB4 := hB3.trans hBq; clear hBq hB3; go_frame)
    | ((with_reducible change wpList _ _ _ (Oper.mk (some 19) _ _ _ _ _ :: _) _ _); refine kFld txCF1 _ _ 0 1 rfl rfl rfl rfl ?_; go_frame)
    | ((with_reducible change wpList _ _ _ (Oper.mk (some 20) _ _ _ _ _ :: _) _ _); refine kLd Tryz.underlying31 rfl _ _ 1 _ (a) (hR.below hB4 hR.lt) rfl rfl rfl rfl ?_; go_frame)
    | ((with_reducible change wpList _ _ _ (Oper.mk (some 21) _ _ _ _ _ :: _) _ _); refine kLenIns _ a zi N (hi1.below hB4) hzN rfl rfl rfl ?_; go_frame))
  have hL1 : (fixedL n 4 ++ countL N).length ≤ 13 := by rw [List.length_append]; omega
  obtain ⟨T1, hT1⟩ : ∃ T1, fixedL n 4 ++ countL N ++ insL is = T1 := ⟨_, rfl⟩
  have hRR : Hid (T1 ++ countL M ++ outsL os ++ fixedL e 4 = R) := by rw [← hT1]; exact hRR'.out
  clear hRR'
  clear hO2b hO3
  go_loopw [22, 3] (fun x y wr => ∃ (k : Nat) (X : List UInt8), k ≤ N ∧ x = .int .i64 k ∧ OwnB wr w1.heap.size y X ∧ X ++ insL (is.drop k) = T1 ∧ X.length ≤ 13 + k * 2060 ∧ Below w1.heap.size w1 wr) (fun x _ _ => N - (intOf x).toNat)
  case atStart => exact ⟨0, _, by omega, rfl, hO4, by rw [List.drop_zero]; exact hT1, by omega, hB4⟩
  case round =>
    clear hT1 hO4 hB4
    obtain ⟨k, X, hk, rfl, hO, hX, hXl, hB⟩ := hrel
    have hsz := hB.size
    by_cases hlt : k < N
    · have hd : decide ((k : Int) < (N : Int)) = true := by simp; omega
      obtain ⟨⟨i, u⟩, hz⟩ : ∃ z, zi[k]? = some z := ⟨_, List.getElem?_eq_getElem (by omega)⟩
      have hik := fst_at ei hz
      have hmem : i ∈ is := List.mem_of_getElem? hik
      have hiI := hti i hmem
      have hiF := hfi i hmem
      have hu1 := hi1.2 _ (List.mem_of_getElem? hz)
      have hvr := hi1.below hB
      have hil := inL_le hiF hiI.1
      have hrl : (refL i.id i.at').length = 36 := by unfold refL; rw [List.length_append, fixedL_len, hiI.1]
      have htl := textL_le hiF
      have hfl : (fixedL i.order 4).length = 4 := fixedL_len _ 4
      rw [insL_step hik, ← List.append_assoc] at hX
      go_wp2_with (first
        | ((with_reducible change wpList _ _ _ (Oper.mk (some 23) _ _ _ _ _ :: _) _ _); refine kLssI _ _ _ _ .i64 (k : Int) (N : Int) true rfl rfl rfl rfl hd ?_; go_frame)
        | ((with_reducible change wpList _ _ _ (Oper.mk (some 24) _ _ _ _ _ :: _) _ _); refine kIndexIn _ _ a zi k (i, u) hvr hz rfl rfl rfl rfl ?_; intro bb hbb; go_frame)
        | ((with_reducible change wpList _ _ _ (Oper.mk (some 25) _ _ _ _ _ :: _) _ _); refine kLoadInAt _ bb i u hbb rfl rfl rfl ?_; clear hbb hvr; go_frame)
        | ((with_reducible change wpList _ _ _ (Oper.mk (some 5) _ _ _ _ _ :: _) _ _); refine kAllocL _ _ rfl rfl zero_InC ?_; intro w5 hR5 hz5 hBq; have hB5 := hB.trans (hBq.mono hsz); have hO5 := hO.below hBq; have hsz5 := hB5.size; clear hB hO hBq hz5; go_frame)
        | ((with_reducible change wpList _ _ _ (Oper.mk none _ _ _ _ _ :: _) _ _); refine kStoreIn _ _ _ i u _ hR5 (inC_size _ _) hu1.sl.one rfl rfl rfl rfl ?_; intro w6 hR6 hW6; have hB6 := hB5.trans (hW6.below hsz); have hO6 := own_wroteN hO5 hR5 (by decide) hW6; have hu6 := hu1.below hB6; have hsz6 := hB6.size; clear hB5 hO5 hW6 hR5 hsz5; go_frame)
        | ((with_reducible change wpList _ _ _ (Oper.mk (some 27) _ _ _ _ _ :: _) _ _); refine kFld inCF0 _ _ 0 0 rfl rfl rfl rfl ?_; go_frame)
        | ((with_reducible change wpList _ _ _ (Oper.mk (some 28) _ _ _ _ _ :: _) _ _); refine kLoadInRef _ _ i u hR6 rfl rfl rfl ?_; go_frame)
        | (go_at_call 77; refine (zRefBytes_any hiI.1 hiI.2.1 _).mono ?_; rintro e w7 ⟨v7, rfl, hO7, hBq⟩; have hR7 := hR6.below hBq hR6.lt; have hgl := hR6.lt; have hB7 := hB6.trans (hBq.mono hsz6); have hO7b := hO6.below hBq; clear hBq hB6 hO6 hR6 hgl; go_frame)
        | ((with_reducible change wpList _ _ _ (Oper.mk (some 30) _ _ _ _ _ :: _) _ _); refine kAppBg _ _ rfl rfl w1.heap.size _ _ X (refL i.id i.at') hO7b hO7.vals rfl rfl (by omega) hB7.size ?_; intro v8 w8 hO8 hBq hgq; have hR8 := row_app hO7b hR7 (by decide) hgq; have hB8 := hB7.trans hBq; have hu8 := hu1.below hB8; clear hBq hgq hB7 hR7 hO7 hO7b; go_frame)
        | ((with_reducible change wpList _ _ _ (Oper.mk (some 32) _ _ _ _ _ :: _) _ _); refine kFld inCF1 _ _ 0 33 rfl rfl rfl rfl ?_; go_frame)
        | ((with_reducible change wpList _ _ _ (Oper.mk (some 33) _ _ _ _ _ :: _) _ _); refine kLd Tryz.underlying38 rfl _ _ 33 _ u hR8 (inC_33 _ _) rfl rfl rfl ?_; go_frame)
        | (go_at_call 78; refine (jText_any _ hu8 (by omega)).mono ?_; rintro e w9 ⟨v9, rfl, hO9, hBq⟩; have hR9 := hR8.below hBq hR8.lt; have hB9 := hB8.trans (hBq.mono hB8.size); have hO9b := hO8.below hBq; clear hBq hB8 hO8 hR8; go_frame)
        | ((with_reducible change wpList _ _ _ (Oper.mk (some 35) _ _ _ _ _ :: _) _ _); refine kAppBg _ _ rfl rfl w1.heap.size _ _ (X ++ refL i.id i.at') (textL i.unlock) hO9b hO9.vals rfl rfl (by rw [List.length_append]; omega) hB9.size ?_; intro v10 w10 hO10 hBq hgq; have hR10 := row_app hO9b hR9 (by decide) hgq; have hB10 := hB9.trans hBq; clear hBq hgq hB9 hR9 hO9 hO9b; go_frame)
        | ((with_reducible change wpList _ _ _ (Oper.mk (some 37) _ _ _ _ _ :: _) _ _); refine kFld inCF2 _ _ 0 34 rfl rfl rfl rfl ?_; go_frame)
        | ((with_reducible change wpList _ _ _ (Oper.mk (some 38) _ _ _ _ _ :: _) _ _); refine kLd Tryz.underlying22 rfl _ _ 34 _ (.int .u32 (i.order : Int)) hR10 (inC_34 _ _) rfl rfl rfl ?_; go_frame)
        | ((with_reducible change wpList _ _ _ (Oper.mk (some 39) _ _ _ _ _ :: _) _ _); refine kConvWU _ i.order hiI.2.2 rfl rfl rfl ?_; go_frame)
        | (go_at_call 38; (with_reducible change Calls _ _ #[.int .u64 (i.order : Int), _] _ _); refine (jFixed_any i.order (by have := hiI.2.2; omega) 4 _).mono ?_; rintro e w11 ⟨v11, rfl, hO11, hBq⟩; rw [clamp4] at hO11; have hB11 := hB10.trans (hBq.mono hB10.size); have hO11b := hO10.below hBq; clear hBq hB10 hO10 hR10; go_frame)
        | ((with_reducible change wpList _ _ _ (Oper.mk (some 41) _ _ _ _ _ :: _) _ _); refine kAppB _ _ rfl rfl w1.heap.size _ _ (X ++ refL i.id i.at' ++ textL i.unlock) (fixedL i.order 4) hO11b hO11.vals rfl rfl (by rw [List.length_append, List.length_append]; omega) hB11.size ?_; intro v12 w12 hO12 hBq; have hB12 := hB11.trans hBq; clear hBq hB11; go_frame)
        | ((with_reducible change wpList _ _ _ (Oper.mk (some 42) _ _ _ _ _ :: _) _ _); refine kAddI _ _ _ _ (k : Int) 1 ((k + 1 : Nat) : Int) (by omega) rfl rfl rfl rfl ?_; go_frame))
      go_roundw
      case rel => exact ⟨k + 1, (X ++ inL i), by omega, rfl, (by rw [inL3]; exact hO12), hX, by rw [List.length_append]; omega, hB12⟩
      case measure => simp [intOf]; omega
    · have hd : decide ((k : Int) < (N : Int)) = false := by simp; omega
      have hX1 : X = T1 := by rw [← hX, List.drop_of_length_le (by omega)]; simp [insL]
      subst hX1
      have hTl : X.length ≤ 13 + 200 * 2060 := by have := Nat.mul_le_mul_right 2060 (show k ≤ 200 by omega); omega
      clear hX hXl hlt
      have hR1 := hR.below hB hR.lt
      go_wp2_with (first
        | ((with_reducible change wpList _ _ _ (Oper.mk (some 23) _ _ _ _ _ :: _) _ _); refine kLssI _ _ _ _ .i64 (k : Int) (N : Int) false rfl rfl rfl rfl hd ?_; go_frame)
        | ((with_reducible change wpList _ _ _ (Oper.mk (some 44) _ _ _ _ _ :: _) _ _); refine kFld txCF2 _ _ 0 2 rfl rfl rfl rfl ?_; go_frame)
        | ((with_reducible change wpList _ _ _ (Oper.mk (some 45) _ _ _ _ _ :: _) _ _); refine kLd Tryz.underlying32 rfl _ _ 2 _ (b) hR1 rfl rfl rfl rfl ?_; go_frame)
        | ((with_reducible change wpList _ _ _ (Oper.mk (some 46) _ _ _ _ _ :: _) _ _); refine kLenOutsT _ b zo M (ho1.below hB) hzM rfl rfl rfl ?_; go_frame)
        | ((with_reducible change wpList _ _ _ (Oper.mk (some 47) _ _ _ _ _ :: _) _ _); refine kConvIU _ M (by omega) rfl rfl rfl ?_; go_frame)
        | (go_at_call 44; refine (jCount_any (n := M) (by omega) _).mono ?_; rintro e w3 ⟨v3, rfl, hO3, hBq⟩; have hB3 := hB.trans (hBq.mono hB.size); have hO2b := hO.below hBq; clear hBq hB hR1; go_frame)
        | ((with_reducible change wpList _ _ _ (Oper.mk (some 49) _ _ _ _ _ :: _) _ _); refine kAppB _ _ rfl rfl w1.heap.size _ _ (X) (countL M) hO2b hO3.vals rfl rfl (by omega) hB3.size ?_; intro v4 w4 hO4 hBq; have hB4 := hB3.trans hBq; clear hBq hB3; go_frame)
        | ((with_reducible change wpList _ _ _ (Oper.mk (some 50) _ _ _ _ _ :: _) _ _); refine kFld txCF2 _ _ 0 2 rfl rfl rfl rfl ?_; go_frame)
        | ((with_reducible change wpList _ _ _ (Oper.mk (some 51) _ _ _ _ _ :: _) _ _); refine kLd Tryz.underlying32 rfl _ _ 2 _ (b) (hR.below hB4 hR.lt) rfl rfl rfl rfl ?_; go_frame)
        | ((with_reducible change wpList _ _ _ (Oper.mk (some 52) _ _ _ _ _ :: _) _ _); refine kLenOutsT _ b zo M (ho1.below hB4) hzM rfl rfl rfl ?_; go_frame))
      have hL2 : (X ++ countL M).length ≤ 412022 := by rw [List.length_append]; omega
      obtain ⟨T2, hT2⟩ : ∃ T2, X ++ countL M ++ outsL os = T2 := ⟨_, rfl⟩
      have hR3 : Hid (T2 ++ fixedL e 4 = R) := by rw [← hT2]; exact hRR.out
      clear hRR
      clear hO2b hO3 hO hd hsz
      go_loopw [53, 3] (fun x y wr => ∃ (k : Nat) (X : List UInt8), k ≤ M ∧ x = .int .i64 k ∧ OwnB wr w1.heap.size y X ∧ X ++ outsL (os.drop k) = T2 ∧ X.length ≤ 412022 + k * 2060 ∧ Below w1.heap.size w1 wr) (fun x _ _ => M - (intOf x).toNat)
      case atStart => exact ⟨0, _, by omega, rfl, hO4, by rw [List.drop_zero]; exact hT2, by omega, hB4⟩
      case round =>
        clear hT2 hO4 hB4 hTl hL2
        obtain ⟨k, X, hk, rfl, hO, hX, hXl, hB⟩ := hrel
        have hsz := hB.size
        by_cases hlt : k < M
        · have hd : decide ((k : Int) < (M : Int)) = true := by simp; omega
          obtain ⟨⟨⟨q, l⟩, u⟩, hz⟩ : ∃ z, zo[k]? = some z := ⟨_, List.getElem?_eq_getElem (by omega)⟩
          have hik := fst_at eo hz
          have hmem : (q, l) ∈ os := List.mem_of_getElem? hik
          have hiF : l.length ≤ 2000 := hfo _ hmem
          have hu1 : IsVals w1 u (l.map VB) := ho1.2 _ (List.mem_of_getElem? hz)
          have hvr := ho1.below hB
          have hil : (outL q l).length ≤ 2017 := outL_le hiF
          rw [outsL_step hik, ← List.append_assoc] at hX
          go_wp2_with (first
            | ((with_reducible change wpList _ _ _ (Oper.mk (some 54) _ _ _ _ _ :: _) _ _); refine kLssI _ _ _ _ .i64 (k : Int) (M : Int) true rfl rfl rfl rfl hd ?_; go_frame)
            | ((with_reducible change wpList _ _ _ (Oper.mk (some 55) _ _ _ _ _ :: _) _ _); refine kIndexOutT _ _ b zo k ((q, l), u) hvr hz rfl rfl rfl rfl ?_; intro bb hbb; go_frame)
            | ((with_reducible change wpList _ _ _ (Oper.mk (some 56) _ _ _ _ _ :: _) _ _); refine kLoadOutT _ bb q l u hbb rfl rfl rfl ?_; clear hbb hvr; go_frame)
            | ((with_reducible change wpList _ _ _ (Oper.mk (some 7) _ _ _ _ _ :: _) _ _); refine kAllocL _ _ rfl rfl zero_OutC ?_; intro w5 hR5 hz5 hBq; have hB5 := hB.trans (hBq.mono hsz); have hO5 := hO.below hBq; have hsz5 := hB5.size; clear hB hO hBq hz5; go_frame)
            | ((with_reducible change wpList _ _ _ (Oper.mk none _ _ _ _ _ :: _) _ _); refine kStoreOut _ _ _ q u _ hR5 rfl hu1 rfl rfl rfl rfl ?_; intro w6 hR6 hW6; have hB6 := hB5.trans (hW6.below hsz); have hO6 := own_wroteN hO5 hR5 (by decide) hW6; have hu6 := hu1.below hB6; have hsz6 := hB6.size; clear hB5 hO5 hW6 hR5 hsz5; go_frame)
            | ((with_reducible change wpList _ _ _ (Oper.mk (some 58) _ _ _ _ _ :: _) _ _); refine kLoadOut _ _ q u hR6 rfl rfl rfl ?_; go_frame)
            | (go_at_call 79; refine (zOutBytes_any _ hu6 (by omega)).mono ?_; rintro e w7 ⟨v7, rfl, hO7, hBq⟩; have hB7 := hB6.trans (hBq.mono hsz6); have hO7b := hO6.below hBq; clear hBq hB6 hO6; go_frame)
            | ((with_reducible change wpList _ _ _ (Oper.mk (some 60) _ _ _ _ _ :: _) _ _); refine kAppB _ _ rfl rfl w1.heap.size _ _ (X) (outL q l) hO7b hO7.vals rfl rfl (by omega) hB7.size ?_; intro v8 w8 hO8 hBq; have hB8 := hB7.trans hBq; clear hBq hB7; go_frame)
            | ((with_reducible change wpList _ _ _ (Oper.mk (some 61) _ _ _ _ _ :: _) _ _); refine kAddI _ _ _ _ (k : Int) 1 ((k + 1 : Nat) : Int) (by omega) rfl rfl rfl rfl ?_; go_frame))
          go_roundw
          case rel => exact ⟨k + 1, (X ++ outL q l), by omega, rfl, hO8, hX, by rw [List.length_append]; omega, hB8⟩
          case measure => simp [intOf]; omega
        · have hd : decide ((k : Int) < (M : Int)) = false := by simp; omega
          have hX1 : X = T2 := by rw [← hX, List.drop_of_length_le (by omega)]; simp [outsL]
          subst hX1
          have hTl : X.length ≤ 412022 + 200 * 2060 := by have := Nat.mul_le_mul_right 2060 (show k ≤ 200 by omega); omega
          clear hX hXl hlt
          have hR1 := hR.below hB hR.lt
          go_wp2_with (first
            | ((with_reducible change wpList _ _ _ (Oper.mk (some 54) _ _ _ _ _ :: _) _ _); refine kLssI _ _ _ _ .i64 (k : Int) (M : Int) false rfl rfl rfl rfl hd ?_; go_frame)
            | ((with_reducible change wpList _ _ _ (Oper.mk (some 63) _ _ _ _ _ :: _) _ _); refine kFld txCF3 _ _ 0 3 rfl rfl rfl rfl ?_; go_frame)
            | ((with_reducible change wpList _ _ _ (Oper.mk (some 64) _ _ _ _ _ :: _) _ _); refine kLd Tryz.underlying22 rfl _ _ 3 _ (.int .u32 (e : Int)) hR1 rfl rfl rfl rfl ?_; go_frame)
            | ((with_reducible change wpList _ _ _ (Oper.mk (some 65) _ _ _ _ _ :: _) _ _); refine kConvWU _ e hte rfl rfl rfl ?_; go_frame)
            | (go_at_call 38; (with_reducible change Calls _ _ #[.int .u64 (e : Int), _] _ _); refine (jFixed_any e (by omega) 4 _).mono ?_; rintro e w3 ⟨v3, rfl, hO3, hBq⟩; rw [clamp4] at hO3; have hB3 := hB.trans (hBq.mono hB.size); have hO2b := hO.below hBq; clear hBq hB hR1; go_frame)
            | ((with_reducible change wpList _ _ _ (Oper.mk (some 67) _ _ _ _ _ :: _) _ _); refine kAppB _ _ rfl rfl w1.heap.size _ _ (X) (fixedL e 4) hO2b hO3.vals rfl rfl (by omega) hB3.size ?_; intro v4 w4 hO4 hBq; have hB4 := hB3.trans hBq; clear hBq hB3; go_frame))
          go_ret
          rw [hR3.out] at hO4
          exact ⟨_, rfl, own_less hB1.size hO4, hB1.trans (hB4.mono hB1.size)⟩
end Go.Proofs.YtmfjgehlkbndjaaGreatDoor
