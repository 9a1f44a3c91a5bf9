/-
  The walk of the statement DigestShorts.
-/
import Derived.Test.YtofaminpdcapkaaDoorLawTellsW
import Derived.Test.YtofaminpdcapkaaDoorKit4
namespace Go.Proofs.YtofaminpdcapkaaDoor
open Go Go.RowKit

theorem areLists_two {w : World} {g : Nat} {E : TypeId} {x y : Value} {l m : List UInt8} (h : Row w g E #[x, y]) (hx : IsVals w x (l.map VB)) (hy : IsVals w y (m.map VB)) : AreLists w (.slice (some ⟨g, 0, none⟩) 2 2) [l, m] :=
  ⟨[x, y], rfl, isVals_lit (l := [x, y]) h, fun i u L h1 h2 => by
    match i, h1, h2 with
    | 0, h1, h2 => simp at h1 h2; subst h1; subst h2; exact hx
    | 1, h1, h2 => simp at h1 h2; subst h1; subst h2; exact hy
    | i + 2, h1, h2 => simp at h1⟩
theorem tab_take (l : List UInt8) (n : Nat) (h : n ≤ l.length) : (tab n fun p => VB (at8 l p)) = ((l.take n).map VB).toArray := by
  rw [← tab_list (l.take n) n (by simp; omega)]
  exact tab_congr fun p hp => by rw [at8_lt _ _ (by omega), at8_lt _ _ (by simp; omega)]; simp
theorem row_take {w : World} {g : Nat} {l : List UInt8} {n : Nat} {E : TypeId} (h : Row w g E (tab n fun p => VB (at8 l p))) (hl : n ≤ l.length) : IsVals w (.slice (some ⟨g, 0, none⟩) n n) ((l.take n).map VB) := by
  rw [tab_take l n hl] at h
  have := isVals_lit h
  rw [List.length_map, List.length_take, Nat.min_eq_left hl] at this
  exact this
theorem row_upto {w : World} {g : Nat} {l : List UInt8} {n m : Nat} {E : TypeId} (h : Row w g E (tab m fun p => VB (at8 l p))) (hl : l.length = m) (hn : n ≤ m) : IsVals w (.slice (some ⟨g, 0, none⟩) n m) ((l.take n).map VB) := by
  have := isVals_to (row_vals h hl) (n := n) (by simp; omega)
  rw [← List.map_take] at this
  exact this

theorem bxor8 (a b : UInt8) : bits .xor .u8 (B a) (B b) = B (a ^^^ b) := by
  unfold B; rw [u8_xor_nat _ _ a.toNat_lt b.toNat_lt, UInt8.toNat_xor]
theorem kIndexAddrG {P : Program} {ops : Array Oper} {Q : Exit → Act → World → Prop} {rest : List Oper} {o : Oper} {a : Act} {w : World} (T E : TypeId) (x y : Operand) (k : IntKind) (g len cap : Nat) (i : Int) (j : Nat) (ho : o.op = .indexAddr T x y) (hg : Region.wanted o (yielded ops a.tmps) = true)
    (hx : a.eval x = .slice (some ⟨g, 0, none⟩) len cap) (hy : a.eval y = .int k i) (ht : P.underlying T = some (.slice E)) (hs : (P.info? E).map (·.size) = some 1) (hi : i = (j : Int)) (hj : j < len)
    (h : wpList P ops Q rest (a.put o.dst (.pointer (some ⟨g, j, none⟩))) w) : wpList P ops Q (o :: rest) a w := by
  refine BigFrame.wpList_want hg fun K hK => ?_
  unfold Oper.wp execOp
  simp only [ho, hx, hy, Sem.run_bind, run_indexAddrG ht hs hi hj, Result.andThen_ok, Sem.run_pure]
  exact hK _ _ h
/-- one element of a slice of the call's own is written -/
theorem own_set {w' : World} {g n cap k : Nat} {l : List UInt8} {cur : Array Value} {b : UInt8} (hr : Row w' g 5 (cur.setIfInBounds k (VB b))) (ht : cur.toList.take n = l.map VB) (hn : n ≤ cur.size) (hc : n ≤ cap) : IsVals w' (.slice (some ⟨g, 0, none⟩) n cap) ((l.set k b).map VB) := by
  have h := isVals_row hr 0 n cap (by simpa using hn) hc
  have e : ((cur.setIfInBounds k (VB b)).extract 0 (0 + n)).toList = (l.set k b).map VB := by
    rw [List.map_set, ← ht, ← List.take_set]
    simp
  rw [e] at h; exact h

theorem cell_of_take {cur : Array Value} {n : Nat} {l : List UInt8} (h : cur.toList.take n = l.map VB) (k : Nat) (hk : k < l.length) : cur[k]? = some (VB (at8 l k)) := by
  have e : (cur.toList.take n)[k]? = some (VB (at8 l k)) := by rw [h]; exact vals_at l k hk
  rw [List.getElem?_take] at e
  split at e
  · rw [← Array.getElem?_toList]; exact e
  · cases e

set_option maxRecDepth 100000 in
set_option maxHeartbeats 2000000 in
theorem DigestShorts_any (B0 : List UInt8) (vb : Value) (at0 : Int) (w : World) (hK : Keys w) (hb : IsVals w vb (B0.map VB)) :
    Calls Tryd.prog 8 #[vb, .int .i64 at0] w fun e w' => e = .returned (.bool true) ∧ Below w.heap.size w w' := by
  obtain ⟨i, hi, hz, hs1, hby⟩ := byteInfo
  obtain ⟨ib, hib, hzb, hsb⟩ := bytesInfo
  by_cases h1 : B0.length ≤ 1000
  · have hd1 : decide ((B0.length : Int) > 1000) = false := by simp; omega
    go_enter Tryd.func8, Tryd.ntmps8
    go_wp2_with (first
      | (go_at_call 10; refine (alive_any _ hK).mono ?_; rintro e w1 ⟨rfl, hB1⟩; have hs1' := hB1.size)
      | ((with_reducible change wpList _ _ _ (Oper.mk (some 12) _ _ _ _ _ :: _) _ _); refine kLenN _ _ _ _ _ B0.length rfl rfl rfl (hb.below hB1) (by simp) Tryd.underlying25 ?_)
      | ((with_reducible change wpList _ _ _ (Oper.mk (some 15) _ _ _ _ _ :: _) _ _); refine kBuildSlice1 _ _ _ vb rfl rfl Tryd.underlying34 ib _ hib hzb hsb rfl hb.one ?_; intro w2 hR2 hz2 hB2; clear hz2; have hB02 := hB1.trans (hB2.mono hs1'); have hs2 := hB02.size)
      | (go_at_call 13; refine (Twice_any [B0] _ _ (hK.below hB02) (areLists_one hR2 (hb.below hB02)) (by simp) (by simp; omega)).mono ?_; rintro e w3 ⟨rfl, hB3⟩; have hB03 := hB02.trans (hB3.mono hs2); have hs3 := hB03.size; rw [show [B0].flatten = B0 by simp])
      | ((with_reducible change wpList _ _ _ (Oper.mk (some 18) _ _ _ _ _ :: _) _ _); refine kBuildSlice1 _ _ _ vb rfl rfl Tryd.underlying34 ib _ hib hzb hsb rfl hb.one ?_; intro w4 hR4 hz4 hB4; clear hz4; have hB04 := hB03.trans (hB4.mono hs3); have hs4 := hB04.size)
      | (go_at_call 15; refine (Short_any [B0] _ _ (hK.below hB04) (areLists_one hR4 (hb.below hB04)) (by simp) (by simp; omega)).mono ?_; rintro e w5 ⟨rfl, hB5⟩; have hB05 := hB04.trans (hB5.mono hs4); have hs5 := hB05.size; rw [show [B0].flatten = B0 by simp])
      | ((with_reducible change wpList _ _ _ (Oper.mk (some 5) _ _ _ _ _ :: _) _ _); refine kAlloc _ _ rfl rfl zero_Hash ?_; intro w6 hR6 hz6' hB6; have hz6 : w5.heap.size + 1 ≤ w6.heap.size := (by omega); clear hz6')
      | ((with_reducible change wpList _ _ _ (Oper.mk (some 6) _ _ _ _ _ :: _) _ _); refine kAlloc _ _ rfl rfl zero_Short ?_; intro w7 hR7 hz7' hB7; have hz7 : w6.heap.size + 1 ≤ w7.heap.size := (by omega); clear hz7')
      | ((with_reducible change wpList _ _ _ (Oper.mk none (Op.store _ (Operand.tmp 5) _) _ _ _ _ :: _) _ _); refine kStoreRow _ _ _ _ _ _ _ rfl rfl rfl rfl (hR6.below hB7 hR6.lt) (by rw [tab_size]; exact info_Hash) (by simp only [tab_size]) (tab_one _ _ fun _ _ => rfl) ?_; intro w8 hR8 hW8; have hz8 : w7.heap.size ≤ w8.heap.size := (by have := hW8.size; omega))
      | ((with_reducible change wpList _ _ _ (Oper.mk none (Op.store _ (Operand.tmp 6) _) _ _ _ _ :: _) _ _); refine kStoreRow _ _ _ _ _ _ _ rfl rfl rfl rfl (hW8.row hR7 (by omega)) (by rw [tab_size]; exact info_Short) (by simp only [tab_size]) (tab_one _ _ fun _ _ => rfl) ?_; intro w9 hR9 hW9; have hz9 : w8.heap.size ≤ w9.heap.size := (by have := hW9.size; omega); have hB09 := (((hB05.trans (hB6.mono hs5)).trans (hB7.mono (by omega))).trans (hW8.below (by omega))).trans (hW9.below (by omega)); have hs9 := hB09.size; have hR59 := hW9.row hR8 (by omega))
      | ((with_reducible change wpList _ _ _ (Oper.mk (some 21) _ _ _ _ _ :: _) _ _); refine kBuildSlice1 _ _ _ vb rfl rfl Tryd.underlying34 ib _ hib hzb hsb rfl hb.one ?_; intro w10 hR10 hz10 hB10; clear hz10; have hB010 := hB09.trans (hB10.mono hs9); have hs10 := hB010.size; have ht10 := hB10.size)
      | (go_at_call 9; refine (Sum_any [B0] _ _ (hK.below hB010) (areLists_one hR10 (hb.below hB010)) (by simp) (by simp; omega)).mono ?_; rintro e w11 ⟨rfl, hB11⟩; have hB911 := hB10.trans (hB11.mono ht10); have ht11 := hB911.size; rw [show [B0].flatten = B0 by simp])
      | ((with_reducible change wpList _ _ _ (Oper.mk (some 7) _ _ _ _ _ :: _) _ _); refine kAlloc _ _ rfl rfl zero_Hash ?_; intro w12 hR12 hz12' hB12; have hz12 : w11.heap.size + 1 ≤ w12.heap.size := (by omega); clear hz12')
      | ((with_reducible change wpList _ _ _ (Oper.mk none (Op.store _ (Operand.tmp 7) _) _ _ _ _ :: _) _ _); refine kStoreRow _ _ _ _ _ _ _ rfl rfl rfl rfl hR12 (by rw [tab_size]; exact info_Hash) (by simp only [tab_size]) (tab_one _ _ fun _ _ => rfl) ?_; intro w13 hR13 hW13; have hB913 := (hB911.trans (hB12.mono ht11)).trans (hW13.below ht11); have ht13 := hB913.size; have hB013 := hB09.trans (hB913.mono hs9); have hs13 := hB013.size))
    have hR513 := hR59.below hB913 hR59.lt
    have hR613 := hR9.below hB913 hR9.lt
    clear hB1 hR2 hB2 hB02 hs2 hB3 hB03 hs3 hR4 hB4 hB04 hs4 hB5 hB05 hs5 hR6 hB6 hR7 hB7 hR8 hW8 hR9 hW9 hR59 hR10 hB10 hB010 hs10 ht10 hB11 hB911 hR12 hB12 hW13 hB913 hB09
    go_frame
    refine region_mixP [(0, true), (3, true), (1, false), (2, false), (4, true), (5, true), (6, true), (7, true), (8, true), (9, true), (10, true)] (fun w' => Below w13.heap.size w13 w') (by kernel_rfl) (by kernel_rfl) rfl ?_
    intro q0 hq0 _
    simp only [List.map_cons, List.map_nil, List.filterMap_cons, List.filterMap_nil, List.getElem?_cons_zero, List.getElem?_cons_succ, List.length_cons, List.length_nil, List.drop_succ_cons, List.drop_zero]
    refine mixSliceArrAll _ _ _ 32 w11.heap.size hq0 rfl rfl rfl Tryd.underlying23 info_byte ?_; go_frame
    refine mixLoadRow _ _ _ w5.heap.size _ _ hq0 rfl rfl rfl (fun _ h => hR513.below h hR513.lt) Tryd.underlying23 rfl (by rw [tab_size]; exact info_Hash) ?_; go_frame
    refine mixLoud ?_
    refine kBuildSlice1 _ _ _ (.slice (some ⟨w11.heap.size, 0, none⟩) 32 32) rfl rfl Tryd.underlying34 ib _ hib hzb hsb rfl rfl ?_
    intro q1 hP1 hz1 hQ1
    clear hz1
    have hq1 := hq0.trans (hQ1.mono hq0.size)
    have hB1 := hB013.trans (hq1.mono hs13)
    refine mixOn ⟨hq1, ?_⟩
    go_frame
    refine mixLoud ?_
    refine kCall1 9 _ _ _ rfl rfl (by kernel_rfl) rfl ?_
    refine (Sum_any [sha B0] _ _ (hK.below hB1) (areLists_one hP1 ((row_vals hR13 (sha_len _)).below hq1)) (by simp) (by simp [sha_len])).mono ?_
    rintro e q2 ⟨rfl, hQ2⟩
    refine ⟨_, rfl, ?_⟩
    have hq2 := hq1.trans (hQ2.mono hq1.size)
    refine mixOn ⟨hq2, ?_⟩
    rw [show [sha B0].flatten = sha B0 by simp]
    go_frame
    refine mixNeqArr _ _ _ _ _ 32 .u8 _ (fun j => _) (fun j => _) false hq2 rfl rfl rfl rfl Tryd.underlying23 Tryd.underlying5 info_byte (by kernel_rfl) (by rw [all_refl]; rfl) ?_; go_frame
    refine mixMove _ (.bool false) hq2 rfl rfl rfl ?_; go_frame
    refine mixSliceArrTo _ _ _ _ 32 w5.heap.size 20 _ _ hq2 rfl rfl rfl rfl Tryd.underlying23 info_byte rfl (by decide) ?_; go_frame
    refine mixToString _ _ _ _ _ ((sha (sha B0)).take 20) hq2 rfl rfl rfl (fun _ h => (row_upto hR513 (sha_len _) (by decide)).below h) Tryd.underlying25 Tryd.underlying5 Tryd.underlying9 ?_; go_frame
    refine mixSliceArrAll _ _ _ 20 w6.heap.size hq2 rfl rfl rfl Tryd.underlying30 info_byte ?_; go_frame
    refine mixToString _ _ _ _ _ ((sha (sha B0)).take 20) hq2 rfl rfl rfl (fun _ h => (row_take hR613 (by rw [sha_len]; decide)).below h) Tryd.underlying25 Tryd.underlying5 Tryd.underlying9 ?_; go_frame
    refine mixNeqStr _ _ _ _ _ _ false hq2 rfl rfl rfl rfl (by simp) ?_; go_frame
    refine mixEnd ?_
    have hB2 := hB013.trans (hq2.mono hs13)
    have hsq2 := hB2.size
    have hR62 := hR613.below hq2 hR613.lt
    clear hR13 hR513 hR613 hP1 hQ1 hQ2 hq1 hq0 hB1 hq2 hB013 hz6 hz7 hz8 hz9 hz12 ht11 ht13 hs13 hs9
    by_cases hneg : at0 < 0
    · have hdn : decide (at0 < 0) = true := by simp; omega
      go_wp2
      go_ret
      exact ⟨rfl, hB2⟩
    · have hdn : decide (at0 < 0) = false := by simp; omega
      by_cases hge : at0 ≥ (B0.length : Int)
      · have hdg : decide (at0 ≥ (B0.length : Int)) = true := by simp; omega
        go_wp2_with (first
          | ((with_reducible change wpList _ _ _ (Oper.mk (some 40) _ _ _ _ _ :: _) _ _); refine kLenN _ _ _ _ _ B0.length rfl rfl rfl (hb.below hB2) (by simp) Tryd.underlying25 ?_))
        go_ret
        exact ⟨rfl, hB2⟩
      · have hdg : decide (at0 ≥ (B0.length : Int)) = false := by simp; omega
        obtain ⟨k, rfl⟩ := Int.eq_ofNat_of_zero_le (show 0 ≤ at0 by omega)
        have hk : k < B0.length := by omega
        go_wp2_with (first
          | ((with_reducible change wpList _ _ _ (Oper.mk (some 40) _ _ _ _ _ :: _) _ _); refine kLenN _ _ _ _ _ B0.length rfl rfl rfl (hb.below hB2) (by simp) Tryd.underlying25 ?_)
          | ((with_reducible change wpList _ _ _ (Oper.mk (some 43) _ _ _ _ _ :: _) _ _); refine kBuildSlice0 _ _ rfl rfl Tryd.underlying25 i hi ?_; intro q3 hP3 hz3 hQ3; clear hz3; have hO3 := own_empty (Nat.le_refl q2.heap.size) hP3; have hB3 := hB2.trans (hQ3.mono hsq2); have hz3 := hQ3.size)
          | ((with_reducible change wpList _ _ _ (Oper.mk (some 45) _ _ _ _ _ :: _) _ _); refine kAppend _ _ _ _ rfl rfl q2.heap.size i _ Tryd.underlying25 hi hz hs1 rfl _ _ [] (B0.map VB) rfl hO3 rfl (hb.below hB3) (vb_one B0) (by unfold maxLen; simp; omega) (by rw [hby]; simp; omega) hz3 ?_; intro v4 q4 hO4 hG4; have hQ4 := hQ3.trans (below_grown hO3 hG4 hz3); have hB4 := hB2.trans (hQ4.mono hsq2); rw [List.nil_append] at hO4; rcases hO4.2 with ⟨_, hi0⟩ | ⟨gc, cap, cur, rfl, hbg, hgr, hnc, hcm, hcs, htake⟩; (exfalso; rw [List.length_map] at hi0; omega); (rw [List.length_map] at hnc; rw [List.length_map, Nat.mul_one] at htake; rw [Nat.mul_one] at hcs; have hRc : Row q4 gc 5 cur := hgr; have hcell := cell_of_take htake k hk; clear hG4 hgr hO4 hP3 hO3))
          | ((with_reducible change wpList _ _ _ (Oper.mk _ (Op.indexAddr _ _ _) _ _ _ _ :: _) _ _); refine kIndexAddrG _ _ _ _ _ gc B0.length cap _ k rfl rfl rfl rfl Tryd.underlying25 info_byte rfl hk ?_)
          | ((with_reducible change wpList _ _ _ (Oper.mk (some 49) _ _ _ _ _ :: _) _ _); refine kLoad1 _ _ _ _ _ _ (VB (at8 B0 k)) _ rfl rfl rfl hRc Tryd.underlying5 rfl hcell ?_)
          | ((with_reducible change wpList _ _ _ (Oper.mk none _ _ _ _ _ :: _) _ _); refine kStore1 _ _ _ _ _ k _ (VB (at8 B0 k ^^^ 4)) rfl rfl rfl (congrArg (Value.int IntKind.u8) (bxor8 (at8 B0 k) 4)) hRc info_byte (by omega) rfl ?_; intro q5 hR5 hW5))
        have hC := own_set hR5 htake (by omega) hnc
        have hg6 := hR62.lt
        have hR6 := hW5.row (hR62.below hQ4 hg6) (by omega)
        have hB5 := hB4.trans (hW5.below (by omega))
        have hs5 := hB5.size
        have hll : (B0.set k (at8 B0 k ^^^ 4)).length ≤ 1000 := by simpa using h1
        generalize hC0 : B0.set k (at8 B0 k ^^^ 4) = C0 at hC hll
        generalize hcc : Value.slice (some ⟨gc, 0, none⟩) B0.length cap = vcc at hC
        obtain ⟨bb, hbb⟩ : ∃ bb, ((List.range 20).all fun j => B (at8 (sha (sha C0)) j) == B (at8 (sha (sha B0)) j)) = bb := ⟨_, rfl⟩
        clear hR5 hW5 hcell hRc htake hcs hnc hQ4 hR62 hB4 hB3 hQ3 hB2 hC0 hcc
        have hbk : IsVals q5 vb (B0.map VB) := hb.below hB5
        have hto := isVals_to (n := k) hbk (by simp; omega)
        have hfr := isVals_from (n := k) hbk (by simp; omega)
        rw [← List.map_take] at hto
        rw [← List.map_drop] at hfr
        refine region_mixP [(0, true), (3, true), (5, true), (7, true), (1, false), (2, false), (4, true), (6, false), (8, false), (9, true), (10, true), (11, true), (12, true), (13, true), (14, true), (15, true), (16, true), (17, true), (20, true), (18, false), (19, false), (21, true), (22, true)] (fun w' => Below q5.heap.size q5 w') (by kernel_rfl) (by kernel_rfl) rfl ?_
        intro r0 hr0 _
        simp only [List.map_cons, List.map_nil, List.filterMap_cons, List.filterMap_nil, List.getElem?_cons_zero, List.getElem?_cons_succ, List.length_cons, List.length_nil, List.drop_succ_cons, List.drop_zero]
        refine mixMove _ vcc hr0 rfl rfl rfl ?_; go_frame
        refine mixLoadRow _ _ _ w6.heap.size _ _ hr0 rfl rfl rfl (fun _ h => hR6.below h hR6.lt) Tryd.underlying30 rfl (by rw [tab_size]; exact info_Short) ?_; go_frame
        refine mixMove _ vcc hr0 rfl rfl rfl ?_; go_frame
        refine mixMove _ vb hr0 rfl rfl rfl ?_; go_frame
        refine mixLoud ?_
        refine kBuildSlice1 _ _ _ vcc rfl rfl Tryd.underlying34 ib _ hib hzb hsb rfl hC.one ?_
        intro r1 hP1 hz1 hQ1
        clear hz1
        have hr1 := hr0.trans (hQ1.mono hr0.size)
        have hw1 := hB5.trans (hr1.mono hs5)
        refine mixOn ⟨hr1, ?_⟩
        go_frame
        refine mixLoud ?_
        refine kCall1 15 _ _ _ rfl rfl (by kernel_rfl) rfl ?_
        refine (Short_any [C0] _ _ (hK.below hw1) (areLists_one hP1 (hC.below hr1)) (by simp) (by simp; omega)).mono ?_
        rintro e r2 ⟨rfl, hQ2⟩
        refine ⟨_, rfl, ?_⟩
        have hr2 := hr1.trans (hQ2.mono hr1.size)
        refine mixOn ⟨hr2, ?_⟩
        rw [show [C0].flatten = C0 by simp]
        go_frame
        refine mixEqlArr _ _ _ _ _ 20 .u8 _ (fun j => B (at8 (sha (sha C0)) j)) (fun j => B (at8 (sha (sha B0)) j)) bb hr2 rfl rfl rfl rfl Tryd.underlying30 Tryd.underlying5 info_byte (by kernel_rfl) hbb ?_; go_frame
        refine mixLoud ?_
        refine kCall1 16 _ _ vcc rfl rfl (by kernel_rfl) rfl ?_
        refine (rShort_any C0 _ _ (hC.below hr2) (by omega)).mono ?_
        rintro e r3 ⟨rfl, hQ3⟩
        refine ⟨_, rfl, ?_⟩
        have hr3 := hr2.trans (hQ3.mono hr2.size)
        refine mixOn ⟨hr3, ?_⟩
        go_frame
        refine mixLoud ?_
        refine kCall1 16 _ _ vb rfl rfl (by kernel_rfl) rfl ?_
        refine (rShort_any B0 _ _ (hbk.below hr3) (by omega)).mono ?_
        rintro e r4 ⟨rfl, hQ4⟩
        refine ⟨_, rfl, ?_⟩
        have hr4 := hr3.trans (hQ4.mono hr3.size)
        refine mixOn ⟨hr4, ?_⟩
        go_frame
        refine mixEqlArr _ _ _ _ _ 20 .u8 _ (fun j => B (at8 (sha (sha C0)) j)) (fun j => B (at8 (sha (sha B0)) j)) bb hr4 rfl rfl rfl rfl Tryd.underlying30 Tryd.underlying5 info_byte (by kernel_rfl) hbb ?_; go_frame
        refine mixQuiet (.bool true) hr4 rfl (fun w _ => by go_simp) ?_; go_frame
        refine mixMove _ (.bool true) hr4 rfl rfl rfl ?_; go_frame
        refine mixMove _ vb hr4 rfl rfl rfl ?_; go_frame
        refine mixMove _ (.int .i64 (k : Int)) hr4 rfl rfl rfl ?_; go_frame
        refine mixSliceTo _ _ _ _ vb (B0.map VB) _ _ k hr4 rfl rfl rfl rfl Tryd.underlying25 info_byte (fun _ h => hbk.below h) rfl (by simp; omega) ?_; go_frame
        refine mixMove _ vb hr4 rfl rfl rfl ?_; go_frame
        refine mixMove _ (.int .i64 (k : Int)) hr4 rfl rfl rfl ?_; go_frame
        refine mixSliceFrom _ _ _ _ vb (B0.map VB) _ _ k hr4 rfl rfl rfl rfl Tryd.underlying25 info_byte (fun _ h => hbk.below h) rfl (by simp; omega) ?_; go_frame
        refine mixLoadRow _ _ _ w6.heap.size _ _ hr4 rfl rfl rfl (fun _ h => hR6.below h hR6.lt) Tryd.underlying30 rfl (by rw [tab_size]; exact info_Short) ?_; go_frame
        refine mixLoud ?_
        refine kBuildSlice2 _ _ _ _ (toV vb k) (fromV vb k) rfl rfl Tryd.underlying34 ib _ hib hzb hsb rfl hto.one rfl hfr.one ?_
        intro r5 hP5 hz5 hQ5
        clear hz5
        have hr5 := hr4.trans (hQ5.mono hr4.size)
        have hw5 := hB5.trans (hr5.mono hs5)
        refine mixOn ⟨hr5, ?_⟩
        go_frame
        refine mixLoud ?_
        refine kCall1 15 _ _ _ rfl rfl (by kernel_rfl) rfl ?_
        refine (Short_any [B0.take k, B0.drop k] _ _ (hK.below hw5) (areLists_two hP5 (hto.below hr5) (hfr.below hr5)) (by simp) (by simp; omega)).mono ?_
        rintro e r6 ⟨rfl, hQ6⟩
        refine ⟨_, rfl, ?_⟩
        have hr6 := hr5.trans (hQ6.mono hr5.size)
        refine mixOn ⟨hr6, ?_⟩
        rw [show [B0.take k, B0.drop k].flatten = B0 by simp]
        go_frame
        refine mixEqlArr _ _ _ _ _ 20 .u8 _ (fun j => _) (fun j => _) true hr6 rfl rfl rfl rfl Tryd.underlying30 Tryd.underlying5 info_byte (by kernel_rfl) (all_refl _ _) ?_; go_frame
        refine mixQuiet (.bool true) hr6 rfl (fun w _ => by go_simp) ?_; go_frame
        refine mixEnd ?_
        go_wp2
        go_ret
        exact ⟨rfl, hB5.trans (hr6.mono hs5)⟩
  · have hd1 : decide ((B0.length : Int) > 1000) = true := by simp; omega
    go_enter Tryd.func8, Tryd.ntmps8
    go_wp2_with (first
      | (go_at_call 10; refine (alive_any _ hK).mono ?_; rintro e w1 ⟨rfl, hB1⟩)
      | ((with_reducible change wpList _ _ _ (Oper.mk (some 12) _ _ _ _ _ :: _) _ _); refine kLenN _ _ _ _ _ B0.length rfl rfl rfl (hb.below hB1) (by simp) Tryd.underlying25 ?_))
    go_ret
    exact ⟨rfl, hB1⟩
end Go.Proofs.YtofaminpdcapkaaDoor
