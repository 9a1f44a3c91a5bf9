/-
  Layer 8: the walks of the program's dropped, words and Lock.
-/
import Derived.Test.YtnaclalbeocpkaaDoorLbRight
import Derived.Test.YtnaclalbeocpkaaDoorKitT
namespace Go.Proofs.YtnaclalbeocpkaaDoor
open Go Go.RowKit

theorem bysInfo0L : (Tryd.prog.info? 22).map (fun i => (i.zero, i.size, i.bytes)) = some (some (.slice none 0 0), 1, 24) := by kernel_rfl
theorem bysInfoL : ∃ i, Tryd.prog.info? 22 = some i ∧ i.zero = some (.slice none 0 0) ∧ i.size = 1 ∧ i.bytes = 24 := by
  have h := bysInfo0L
  cases hi : Tryd.prog.info? 22 with
  | none => rw [hi] at h; cases h
  | some i =>
    rw [hi] at h
    simp only [Option.map_some, Option.some.injEq, Prod.mk.injEq] at h
    exact ⟨i, rfl, h⟩
/-- how many pieces a kind pushes -/
def cntN (k : Nat) : Nat := if k = 1 then 1 else if k = 2 then 3 else if k = 3 then 2 else 0
/-- the variable pieceCounts holds them -/
def Counts (w : World) : Prop := ∀ j, j < 4 → w.cell? ⟨0, j, none⟩ = some (.int .i64 (cntN j : Int))
theorem Counts.below {w w' : World} (h : Counts w) (hb : Below w.heap.size w w') : Counts w' := fun i hi => by
  have := h i hi
  rw [hb.cell (block_lt_of_cell this)]; exact this
def dropL (k : Nat) : List UInt8 := List.replicate ((1 + cntN k) / 2) 109 ++ if (1 + cntN k) % 2 = 1 then [117] else []
theorem info_int8L : (Tryd.prog.info? 3).map (·.size) = some 1 := by kernel_rfl
theorem cntN_le (k : Nat) : cntN k ≤ 3 := by unfold cntN; split <;> (try split) <;> (try split) <;> omega
def CallsD (k : Nat) (v : Value) (l : List UInt8) (base : Nat) (w : World) : Prop := Calls Tryd.prog 27 #[v, .int .i64 (k : Int)] w fun e w' => ∃ v', e = .returned v' ∧ OwnB w' base v' (l ++ dropL k) ∧ Below base w w'
set_option maxRecDepth 100000 in
set_option maxHeartbeats 8000000 in
theorem lbDropped_any {k : Nat} (hk : k < 4) {l : List UInt8} {v : Value} {base : Nat} (w : World) (hG : Counts w) (hv : OwnB w base v l) (hb : base ≤ w.heap.size) (hl : l.length ≤ 1000000) : CallsD k v l base w := by
  unfold CallsD
  obtain ⟨i, hi, hz, hs1, hby⟩ := b8Info
  obtain ⟨c, hc⟩ : ∃ c, cntN k = c := ⟨_, rfl⟩
  have hc3 : c ≤ 3 := by rw [← hc]; exact cntN_le k
  have hcell : w.cell? ⟨0, k, none⟩ = some (.int .i64 (c : Int)) := by rw [← hc]; exact hG k hk
  have hD : dropL k = List.replicate ((1 + c) / 2) 109 ++ if (1 + c) % 2 = 1 then [117] else [] := by unfold dropL; rw [hc]
  rw [hD]
  obtain ⟨N, hN⟩ : ∃ N, (1 + c) / 2 = N := ⟨_, rfl⟩
  rw [hN]
  obtain ⟨p, hp⟩ : ∃ p, 1 + c = p := ⟨_, rfl⟩
  have hp4 : p ≤ 4 := by omega
  rw [hp]
  have hNp : p / 2 = N := by rw [← hp]; exact hN
  obtain ⟨T, hT⟩ : ∃ T : List UInt8, (if p % 2 = 1 then [117] else []) = T := ⟨_, rfl⟩
  rw [hT]
  clear hD
  go_enter Tryd.func27, Tryd.ntmps27
  go_wp2_with (first
    | ((with_reducible change wpList _ _ _ (Oper.mk (some 7) _ _ _ _ _ :: _) _ _); refine kIndexAddr1 _ _ _ _ .i64 _ (k : Int) k 4 rfl rfl rfl rfl Tryd.underlying64 info_int8L rfl hk ?_; go_frame)
    | ((with_reducible change wpList _ _ _ (Oper.mk (some 8) _ _ _ _ _ :: _) _ _); refine kLoadCell _ _ _ (.int .i64 (c : Int)) _ rfl rfl rfl hcell Tryd.underlying3 rfl ?_; go_frame)
    | ((with_reducible change wpList _ _ _ (Oper.mk (some 9) _ _ _ _ _ :: _) _ _); refine kAddI _ _ _ _ 1 (c : Int) (p : Int) (by omega) rfl rfl rfl rfl ?_; go_frame)
    | ((with_reducible change wpList _ _ _ (Oper.mk (some 11) _ _ _ _ _ :: _) _ _); refine kQuoI _ _ _ _ p 2 (by decide) (by omega) rfl rfl rfl rfl ?_; rw [hNp]; go_frame))
  go_loopw [12, 0] (fun i t wr => ∃ j : Nat, j ≤ N ∧ i = .int .i64 j ∧ OwnB wr base t (l ++ List.replicate j 109) ∧ Below base w wr) (fun i _ _ => N - (intOf i).toNat)
  case atStart => exact ⟨0, by omega, rfl, by rw [List.replicate_zero, List.append_nil]; exact hv, Below.refl _ _⟩
  case round =>
    clear hv
    obtain ⟨j, hj, rfl, hO, hB⟩ := hrel
    have hbs : base ≤ wr.heap.size := Nat.le_trans hb hB.size
    by_cases hlt : j < N
    · have hd : decide ((j : Int) < (N : Int)) = true := by simp; omega
      go_wp2_with (first
        | ((with_reducible change wpList _ _ _ (Oper.mk (some 13) _ _ _ _ _ :: _) _ _); refine kLssI _ _ _ _ .i64 (j : Int) (N : Int) true rfl rfl rfl rfl hd ?_; go_frame)
        | ((with_reducible change wpList _ _ _ (Oper.mk (some 15) _ _ _ _ _ :: _) _ _); refine kBuildSlice1 _ _ _ (VB 109) rfl rfl Tryd.underlying22 i _ hi hz hs1 rfl rfl ?_; intro w2 hR hz2 hB2; clear hz2; have hO2 := hO.below hB2; have hB3 := hB.trans (hB2.mono hbs); have hbs2 := Nat.le_trans hb hB3.size; have hV2 : IsVals w2 _ (([109] : List UInt8).map VB) := isVals_lit (l := [VB 109]) hR; clear hR hO hB hB2; go_frame)
        | ((with_reducible change wpList _ _ _ (Oper.mk (some 16) _ _ _ _ _ :: _) _ _); refine kAppB _ _ rfl rfl base _ _ (l ++ List.replicate j 109) [109] hO2 hV2 rfl rfl (by simp; omega) hbs2 ?_; intro v4 w4 hO4 hB4; have hB5 := hB3.trans hB4; clear hO2 hV2 hB3 hB4; go_frame)
        | ((with_reducible change wpList _ _ _ (Oper.mk (some 17) _ _ _ _ _ :: _) _ _); refine kAddI _ _ _ _ (j : Int) 1 ((j + 1 : Nat) : Int) (by omega) rfl rfl rfl rfl ?_; go_frame))
      go_roundw
      case rel => exact ⟨j + 1, by omega, rfl, by rw [List.replicate_succ', ← List.append_assoc]; exact hO4, hB5⟩
      case measure => simp [intOf]; omega
    · have hd : decide ((j : Int) < (N : Int)) = false := by simp; omega
      obtain rfl : j = N := by omega
      by_cases h1 : p % 2 = 1
      · rw [if_pos h1] at hT
        subst hT
        have he : decide (((p % 2 : Nat) : Int) = 1) = true := by rw [h1]; rfl
        go_wp2_with (first
          | ((with_reducible change wpList _ _ _ (Oper.mk (some 13) _ _ _ _ _ :: _) _ _); refine kLssI _ _ _ _ .i64 (j : Int) (j : Int) false rfl rfl rfl rfl hd ?_; go_frame)
          | ((with_reducible change wpList _ _ _ (Oper.mk (some 19) _ _ _ _ _ :: _) _ _); refine kRemI _ _ _ _ p 2 (by decide) rfl rfl rfl rfl ?_; go_frame)
          | ((with_reducible change wpList _ _ _ (Oper.mk (some 20) _ _ _ _ _ :: _) _ _); refine kEqlI _ _ _ _ .i64 ((p % 2 : Nat) : Int) 1 true rfl rfl rfl rfl he ?_; go_frame)
          | ((with_reducible change wpList _ _ _ (Oper.mk (some 22) _ _ _ _ _ :: _) _ _); refine kBuildSlice1 _ _ _ (VB 117) rfl rfl Tryd.underlying22 i _ hi hz hs1 rfl rfl ?_; intro w2 hR hz2 hB2; clear hz2; have hO2 := hO.below hB2; have hB3 := hB.trans (hB2.mono hbs); have hbs2 := Nat.le_trans hb hB3.size; have hV2 : IsVals w2 _ (([117] : List UInt8).map VB) := isVals_lit (l := [VB 117]) hR; clear hR hO hB hB2; go_frame)
          | ((with_reducible change wpList _ _ _ (Oper.mk (some 23) _ _ _ _ _ :: _) _ _); refine kAppB _ _ rfl rfl base _ _ (l ++ List.replicate j 109) [117] hO2 hV2 rfl rfl (by simp; omega) hbs2 ?_; intro v4 w4 hO4 hB4; have hB5 := hB3.trans hB4; clear hO2 hV2 hB3 hB4; go_frame))
        go_ret
        exact ⟨_, rfl, by rw [← List.append_assoc]; exact hO4, hB5⟩
      · rw [if_neg h1] at hT
        subst hT
        have he : decide (((p % 2 : Nat) : Int) = 1) = false := by simp; omega
        go_wp2_with (first
          | ((with_reducible change wpList _ _ _ (Oper.mk (some 13) _ _ _ _ _ :: _) _ _); refine kLssI _ _ _ _ .i64 (j : Int) (j : Int) false rfl rfl rfl rfl hd ?_; go_frame)
          | ((with_reducible change wpList _ _ _ (Oper.mk (some 19) _ _ _ _ _ :: _) _ _); refine kRemI _ _ _ _ p 2 (by decide) rfl rfl rfl rfl ?_; go_frame)
          | ((with_reducible change wpList _ _ _ (Oper.mk (some 20) _ _ _ _ _ :: _) _ _); refine kEqlI _ _ _ _ .i64 ((p % 2 : Nat) : Int) 1 false rfl rfl rfl rfl he ?_; go_frame))
        go_ret
        exact ⟨_, rfl, by rw [List.append_nil]; exact hO, hB⟩
theorem Row.onL {w w' : World} {g : Nat} {T : TypeId} {cs : Array Value} (h : Row w g T cs) (hb : Below w.heap.size w w') : Row w' g T cs := h.below hb h.lt
theorem vals_oneS8 {w : World} {v : Value} {l : List Value} (h : IsVals w v l) : v.oneCell' = true := by
  obtain ⟨ao, c, rfl, -⟩ := h; rfl
theorem areLists_twoL {w : World} {g : Nat} {E : TypeId} {x y : Value} {l m : List UInt8} (h : Row w g E #[x, y]) (hx : IsVals w x (l.map VB)) (hy : IsVals w y (m.map VB)) : AreLists w (.slice (some ⟨g, 0, none⟩) 2 2) [l, m] :=
  ⟨[x, y], rfl, isVals_lit (l := [x, y]) h, fun i z L hz hL => by
    match i, hz, hL with
    | 0, hz, hL => cases hz; cases hL; exact hx
    | 1, hz, hL => cases hz; cases hL; exact hy
    | i + 2, hz, _ => simp at hz⟩
theorem areLists_threeL {w : World} {g : Nat} {E : TypeId} {x y z : Value} {l m n : List UInt8} (h : Row w g E #[x, y, z]) (hx : IsVals w x (l.map VB)) (hy : IsVals w y (m.map VB)) (hz : IsVals w z (n.map VB)) : AreLists w (.slice (some ⟨g, 0, none⟩) 3 3) [l, m, n] :=
  ⟨[x, y, z], rfl, isVals_lit (l := [x, y, z]) h, fun i u L hu hL => by
    match i, hu, hL with
    | 0, hu, hL => cases hu; cases hL; exact hx
    | 1, hu, hL => cases hu; cases hL; exact hy
    | 2, hu, hL => cases hu; cases hL; exact hz
    | i + 3, hu, _ => simp at hu⟩
set_option maxRecDepth 100000 in
set_option maxHeartbeats 8000000 in
theorem lbWords_any {d : Deed} (hd : d.Is) (hn : d.name.length ≤ 1000 ∧ d.value.length ≤ 1000 ∧ d.rand.length ≤ 1000) (w : World) (hG : Counts w) : Calls Tryd.prog 17 #[deedV d] w (POwnPost w (wordsL d)) := by
  obtain ⟨i, hi, hz, hs1, hby⟩ := b8Info
  obtain ⟨iy, hiy, hzy, hsy, hbyy⟩ := bysInfoL
  have hd20 : d.commit.length = 20 := hd
  by_cases k1 : d.kind = 1
  · have hk := k1
    have hW : wordsL d = [81] ++ pushesL [d.commit] ++ dropL 1 := by simp [wordsL, hk, pushesL, dropL, cntN]
    rw [hW]
    have hsm : ∀ L ∈ [d.commit], L.length ≤ 1000 := by intro L hL; simp at hL; subst hL; omega
    have hpl : (pushesL [d.commit]).length ≤ 4000 := by have := pushesL_le [d.commit] 1000 hsm; simp at this ⊢; omega
    go_enter Tryd.func17, Tryd.ntmps17
    go_wp2_with (first
      | ((with_reducible change wpList _ _ _ (Oper.mk (some 1) _ _ _ _ _ :: _) _ _); refine kBoxD _ _ rfl rfl rfl ?_; intro w1 hR hz hB; clear hz; go_frame)
      | ((with_reducible change wpList _ _ _ (Oper.mk (some 3) _ _ _ _ _ :: _) _ _); refine kDeed0 _ _ rfl rfl rfl ?_; go_frame)
      | ((with_reducible change wpList _ _ _ (Oper.mk (some 4) _ _ _ _ _ :: _) _ _); refine kLoadK _ _ _ hR rfl rfl rfl ?_; rw [hk]; go_frame))
    refine region_symT 7 _ [] [] [.prop (fun w v => IsVals w v (([81] : List UInt8).map VB)) (fun _ _ _ hb h => h.below hb), .val (.pointer (some ⟨w.heap.size, 4, none⟩)), .val (.slice (some ⟨w.heap.size, 4, none⟩) 20 20), .prop (fun w v => AreLists w v [d.commit]) (fun _ _ _ hb h => h.below hb), .prop (fun w v => OwnB w w1.heap.size v ([81] ++ pushesL [d.commit])) (fun _ _ _ hb h => h.below hb), .val (.pointer (some ⟨w.heap.size, 0, none⟩)), .val (.int .i64 d.kind)] rfl (by kernel_rfl) (by kernel_rfl) (by kernel_rfl) (by kernel_rfl) rfl (by intro s hs; cases hs) (steps_all ⟨?_, ?_, ?_, ?_, ?_, ?_, ?_, trivial⟩) ?_
    · exact fun A W sz ot hbel ap dp => kBuildSlice1 _ _ _ (VB 81) rfl rfl Tryd.underlying22 i _ hi hz hs1 rfl rfl (fun W1 hR _ hB' => tV ap sz hB' (isVals_lit (l := [VB 81]) hR))
    · exact fun A W sz ot hbel ap dp => kDeed4 _ _ rfl rfl (tO ot 1) (tV ap sz (Below.refl _ _) rfl)
    · exact fun A W sz ot hbel ap dp => kSliceArr _ _ _ 20 _ 4 rfl rfl (tD dp 1 .data) Tryd.underlying27 info_b8P (tV ap sz (Below.refl _ _) rfl)
    · exact fun A W sz ot hbel ap dp => kBuildSlice1 _ _ _ (.slice (some ⟨w.heap.size, 4, none⟩) 20 20) rfl rfl Tryd.underlying57 iy _ hiy hzy hsy (tD dp 2 .data) rfl (fun W1 hR1 _ hB' => tV ap sz hB' (areLists_one hR1 (commit_vals hd ((hR.onL hbel).onL hB'))))
    · exact fun A W sz ot hbel ap dp => kCall2 28 _ _ _ _ _ rfl rfl (by kernel_rfl) rfl rfl ((scPush_any _ (tD dp 0 .data) (tD dp 3 .data) (by simp) (by simp) hsm).mono (fun e W1 ⟨v, he, hO, hB'⟩ => ⟨v, he, tV ap sz hB' (own_less hbel.size hO)⟩))
    · exact fun A W sz ot hbel ap dp => kDeed0 _ _ rfl rfl (tO ot 1) (tV ap sz (Below.refl _ _) rfl)
    · exact fun A W sz ot hbel ap dp => kLoadK _ _ _ (hR.onL hbel) rfl rfl (tD dp 5 .data) (tV ap sz (Below.refl _ _) rfl)
    intro w2 hB2
    dsimp only [AllV]
    rintro u0 hu0 u3 hu3 u4 hu4 hap
    dsimp only [putAll, List.take, List.drop]
    go_frame
    clear hap
    have hB4 := hB.trans (hB2.mono hB.size)
    rw [hk] at *
    go_wp2_with (first
      | (go_at_call 27; refine (lbDropped_any (k := 1) (by decide) _ (hG.below hB4) hu4 (hB2.size) (by simp; omega)).mono ?_; rintro e w3 ⟨v3, rfl, hO3, hB3⟩; go_frame))
    go_ret
    exact ⟨_, rfl, own_less hB.size hO3, (hB4.trans (hB3.mono hB.size))⟩
  by_cases k2 : d.kind = 2
  · have hk := k2
    have hW : wordsL d = [82] ++ pushesL [d.name, d.rand, d.value] ++ dropL 2 := by simp [wordsL, hk, pushesL, dropL, cntN]
    rw [hW]
    have hsm : ∀ L ∈ [d.name, d.rand, d.value], L.length ≤ 1000 := by intro L hL; simp at hL; rcases hL with rfl | rfl | rfl <;> omega
    have hpl : (pushesL [d.name, d.rand, d.value]).length ≤ 4000 := by have := pushesL_le [d.name, d.rand, d.value] 1000 hsm; simp at this ⊢; omega
    go_enter Tryd.func17, Tryd.ntmps17
    go_wp2_with (first
      | ((with_reducible change wpList _ _ _ (Oper.mk (some 1) _ _ _ _ _ :: _) _ _); refine kBoxD _ _ rfl rfl rfl ?_; intro w1 hR hz hB; clear hz; go_frame)
      | ((with_reducible change wpList _ _ _ (Oper.mk (some 3) _ _ _ _ _ :: _) _ _); refine kDeed0 _ _ rfl rfl rfl ?_; go_frame)
      | ((with_reducible change wpList _ _ _ (Oper.mk (some 4) _ _ _ _ _ :: _) _ _); refine kLoadK _ _ _ hR rfl rfl rfl ?_; rw [hk]; go_frame))
    refine region_symT 14 _ [] [] [.prop (fun w v => IsVals w v (([82] : List UInt8).map VB)) (fun _ _ _ hb h => h.below hb), .val (.pointer (some ⟨w.heap.size, 1, none⟩)), .val (textV d.name), .prop (fun w v => IsVals w v (d.name.map VB)) (fun _ _ _ hb h => h.below hb), .val (.pointer (some ⟨w.heap.size, 3, none⟩)), .val (textV d.rand), .prop (fun w v => IsVals w v (d.rand.map VB)) (fun _ _ _ hb h => h.below hb), .val (.pointer (some ⟨w.heap.size, 2, none⟩)), .val (textV d.value), .prop (fun w v => IsVals w v (d.value.map VB)) (fun _ _ _ hb h => h.below hb), .prop (fun w v => AreLists w v [d.name, d.rand, d.value]) (fun _ _ _ hb h => h.below hb), .prop (fun w v => OwnB w w1.heap.size v ([82] ++ pushesL [d.name, d.rand, d.value])) (fun _ _ _ hb h => h.below hb), .val (.pointer (some ⟨w.heap.size, 0, none⟩)), .val (.int .i64 d.kind)] rfl (by kernel_rfl) (by kernel_rfl) (by kernel_rfl) (by kernel_rfl) rfl (by intro s hs; cases hs) (steps_all ⟨?_, ?_, ?_, ?_, ?_, ?_, ?_, ?_, ?_, ?_, ?_, ?_, ?_, ?_, trivial⟩) ?_
    · exact fun A W sz ot hbel ap dp => kBuildSlice1 _ _ _ (VB 82) rfl rfl Tryd.underlying22 i _ hi hz hs1 rfl rfl (fun W1 hR _ hB' => tV ap sz hB' (isVals_lit (l := [VB 82]) hR))
    · exact fun A W sz ot hbel ap dp => kDeed1 _ _ rfl rfl (tO ot 1) (tV ap sz (Below.refl _ _) rfl)
    · exact fun A W sz ot hbel ap dp => kLoadN1 _ _ _ (hR.onL hbel) rfl rfl (tD dp 1 .data) (tV ap sz (Below.refl _ _) rfl)
    · exact fun A W sz ot hbel ap dp => kToBytes _ _ _ _ d.name rfl rfl (tD dp 2 .data) Tryd.underlying9 Tryd.underlying22 Tryd.underlying5 (fun v W1 hB' hV => tV ap sz hB' hV)
    · exact fun A W sz ot hbel ap dp => kDeed3 _ _ rfl rfl (tO ot 1) (tV ap sz (Below.refl _ _) rfl)
    · exact fun A W sz ot hbel ap dp => kLoadN3 _ _ _ (hR.onL hbel) rfl rfl (tD dp 4 .data) (tV ap sz (Below.refl _ _) rfl)
    · exact fun A W sz ot hbel ap dp => kToBytes _ _ _ _ d.rand rfl rfl (tD dp 5 .data) Tryd.underlying9 Tryd.underlying22 Tryd.underlying5 (fun v W1 hB' hV => tV ap sz hB' hV)
    · exact fun A W sz ot hbel ap dp => kDeed2 _ _ rfl rfl (tO ot 1) (tV ap sz (Below.refl _ _) rfl)
    · exact fun A W sz ot hbel ap dp => kLoadN2 _ _ _ (hR.onL hbel) rfl rfl (tD dp 7 .data) (tV ap sz (Below.refl _ _) rfl)
    · exact fun A W sz ot hbel ap dp => kToBytes _ _ _ _ d.value rfl rfl (tD dp 8 .data) Tryd.underlying9 Tryd.underlying22 Tryd.underlying5 (fun v W1 hB' hV => tV ap sz hB' hV)
    · exact fun A W sz ot hbel ap dp => kBuildSlice3 _ _ _ _ _ _ _ _ rfl rfl Tryd.underlying57 iy _ hiy hzy hsy rfl (vals_oneS8 (tD dp 3 .data)) rfl (vals_oneS8 (tD dp 6 .data)) rfl (vals_oneS8 (tD dp 9 .data)) (fun W1 hR1 _ hB' => tV ap sz hB' (areLists_threeL hR1 ((tD dp 3 .data : IsVals W _ _).below hB') ((tD dp 6 .data : IsVals W _ _).below hB') ((tD dp 9 .data : IsVals W _ _).below hB')))
    · exact fun A W sz ot hbel ap dp => kCall2 28 _ _ _ _ _ rfl rfl (by kernel_rfl) rfl rfl ((scPush_any _ (tD dp 0 .data) (tD dp 10 .data) (by simp) (by simp) hsm).mono (fun e W1 ⟨v, he, hO, hB'⟩ => ⟨v, he, tV ap sz hB' (own_less hbel.size hO)⟩))
    · exact fun A W sz ot hbel ap dp => kDeed0 _ _ rfl rfl (tO ot 1) (tV ap sz (Below.refl _ _) rfl)
    · exact fun A W sz ot hbel ap dp => kLoadK _ _ _ (hR.onL hbel) rfl rfl (tD dp 12 .data) (tV ap sz (Below.refl _ _) rfl)
    intro w2 hB2
    dsimp only [AllV]
    rintro u0 hu0 u3 hu3 u6 hu6 u9 hu9 u10 hu10 u11 hu11 hap
    dsimp only [putAll, List.take, List.drop]
    go_frame
    clear hap
    have hB4 := hB.trans (hB2.mono hB.size)
    rw [hk] at *
    go_wp2_with (first
      | (go_at_call 27; refine (lbDropped_any (k := 2) (by decide) _ (hG.below hB4) hu11 (hB2.size) (by simp; omega)).mono ?_; rintro e w3 ⟨v3, rfl, hO3, hB3⟩; go_frame))
    go_ret
    exact ⟨_, rfl, own_less hB.size hO3, (hB4.trans (hB3.mono hB.size))⟩
  by_cases k3 : d.kind = 3
  · have hk := k3
    have hW : wordsL d = [83] ++ pushesL [d.name, d.value] ++ dropL 3 := by simp [wordsL, hk, pushesL, dropL, cntN]
    rw [hW]
    have hsm : ∀ L ∈ [d.name, d.value], L.length ≤ 1000 := by intro L hL; simp at hL; rcases hL with rfl | rfl <;> omega
    have hpl : (pushesL [d.name, d.value]).length ≤ 4000 := by have := pushesL_le [d.name, d.value] 1000 hsm; simp at this ⊢; omega
    go_enter Tryd.func17, Tryd.ntmps17
    go_wp2_with (first
      | ((with_reducible change wpList _ _ _ (Oper.mk (some 1) _ _ _ _ _ :: _) _ _); refine kBoxD _ _ rfl rfl rfl ?_; intro w1 hR hz hB; clear hz; go_frame)
      | ((with_reducible change wpList _ _ _ (Oper.mk (some 3) _ _ _ _ _ :: _) _ _); refine kDeed0 _ _ rfl rfl rfl ?_; go_frame)
      | ((with_reducible change wpList _ _ _ (Oper.mk (some 4) _ _ _ _ _ :: _) _ _); refine kLoadK _ _ _ hR rfl rfl rfl ?_; rw [hk]; go_frame))
    refine region_symT 11 _ [] [] [.prop (fun w v => IsVals w v (([83] : List UInt8).map VB)) (fun _ _ _ hb h => h.below hb), .val (.pointer (some ⟨w.heap.size, 1, none⟩)), .val (textV d.name), .prop (fun w v => IsVals w v (d.name.map VB)) (fun _ _ _ hb h => h.below hb), .val (.pointer (some ⟨w.heap.size, 2, none⟩)), .val (textV d.value), .prop (fun w v => IsVals w v (d.value.map VB)) (fun _ _ _ hb h => h.below hb), .prop (fun w v => AreLists w v [d.name, d.value]) (fun _ _ _ hb h => h.below hb), .prop (fun w v => OwnB w w1.heap.size v ([83] ++ pushesL [d.name, d.value])) (fun _ _ _ hb h => h.below hb), .val (.pointer (some ⟨w.heap.size, 0, none⟩)), .val (.int .i64 d.kind)] rfl (by kernel_rfl) (by kernel_rfl) (by kernel_rfl) (by kernel_rfl) rfl (by intro s hs; cases hs) (steps_all ⟨?_, ?_, ?_, ?_, ?_, ?_, ?_, ?_, ?_, ?_, ?_, trivial⟩) ?_
    · exact fun A W sz ot hbel ap dp => kBuildSlice1 _ _ _ (VB 83) rfl rfl Tryd.underlying22 i _ hi hz hs1 rfl rfl (fun W1 hR _ hB' => tV ap sz hB' (isVals_lit (l := [VB 83]) hR))
    · exact fun A W sz ot hbel ap dp => kDeed1 _ _ rfl rfl (tO ot 1) (tV ap sz (Below.refl _ _) rfl)
    · exact fun A W sz ot hbel ap dp => kLoadN1 _ _ _ (hR.onL hbel) rfl rfl (tD dp 1 .data) (tV ap sz (Below.refl _ _) rfl)
    · exact fun A W sz ot hbel ap dp => kToBytes _ _ _ _ d.name rfl rfl (tD dp 2 .data) Tryd.underlying9 Tryd.underlying22 Tryd.underlying5 (fun v W1 hB' hV => tV ap sz hB' hV)
    · exact fun A W sz ot hbel ap dp => kDeed2 _ _ rfl rfl (tO ot 1) (tV ap sz (Below.refl _ _) rfl)
    · exact fun A W sz ot hbel ap dp => kLoadN2 _ _ _ (hR.onL hbel) rfl rfl (tD dp 4 .data) (tV ap sz (Below.refl _ _) rfl)
    · exact fun A W sz ot hbel ap dp => kToBytes _ _ _ _ d.value rfl rfl (tD dp 5 .data) Tryd.underlying9 Tryd.underlying22 Tryd.underlying5 (fun v W1 hB' hV => tV ap sz hB' hV)
    · exact fun A W sz ot hbel ap dp => kBuildSlice2 _ _ _ _ _ _ rfl rfl Tryd.underlying57 iy _ hiy hzy hsy rfl (vals_oneS8 (tD dp 3 .data)) rfl (vals_oneS8 (tD dp 6 .data)) (fun W1 hR1 _ hB' => tV ap sz hB' (areLists_twoL hR1 ((tD dp 3 .data : IsVals W _ _).below hB') ((tD dp 6 .data : IsVals W _ _).below hB')))
    · exact fun A W sz ot hbel ap dp => kCall2 28 _ _ _ _ _ rfl rfl (by kernel_rfl) rfl rfl ((scPush_any _ (tD dp 0 .data) (tD dp 7 .data) (by simp) (by simp) hsm).mono (fun e W1 ⟨v, he, hO, hB'⟩ => ⟨v, he, tV ap sz hB' (own_less hbel.size hO)⟩))
    · exact fun A W sz ot hbel ap dp => kDeed0 _ _ rfl rfl (tO ot 1) (tV ap sz (Below.refl _ _) rfl)
    · exact fun A W sz ot hbel ap dp => kLoadK _ _ _ (hR.onL hbel) rfl rfl (tD dp 9 .data) (tV ap sz (Below.refl _ _) rfl)
    intro w2 hB2
    dsimp only [AllV]
    rintro u0 hu0 u3 hu3 u6 hu6 u7 hu7 u8 hu8 hap
    dsimp only [putAll, List.take, List.drop]
    go_frame
    clear hap
    have hB4 := hB.trans (hB2.mono hB.size)
    rw [hk] at *
    go_wp2_with (first
      | (go_at_call 27; refine (lbDropped_any (k := 3) (by decide) _ (hG.below hB4) hu8 (hB2.size) (by simp; omega)).mono ?_; rintro e w3 ⟨v3, rfl, hO3, hB3⟩; go_frame))
    go_ret
    exact ⟨_, rfl, own_less hB.size hO3, (hB4.trans (hB3.mono hB.size))⟩
  rw [show wordsL d = [] by simp [wordsL, k1, k2, k3]]
  have g1 : decide (d.kind = 1) = false := by simp [k1]
  have g2 : decide (d.kind = 2) = false := by simp [k2]
  have g3 : decide (d.kind = 3) = false := by simp [k3]
  go_enter Tryd.func17, Tryd.ntmps17
  go_wp2_with (first
    | ((with_reducible change wpList _ _ _ (Oper.mk (some 1) _ _ _ _ _ :: _) _ _); refine kBoxD _ _ rfl rfl rfl ?_; intro w1 hR hz hB; clear hz; go_frame)
    | ((with_reducible change wpList _ _ _ (Oper.mk (some 3) _ _ _ _ _ :: _) _ _); refine kDeed0 _ _ rfl rfl rfl ?_; go_frame)
    | ((with_reducible change wpList _ _ _ (Oper.mk (some 4) _ _ _ _ _ :: _) _ _); refine kLoadK _ _ _ hR rfl rfl rfl ?_; go_frame)
    | ((with_reducible change wpList _ _ _ (Oper.mk (some 6) _ _ _ _ _ :: _) _ _); refine kEqlI _ _ _ _ .i64 d.kind 1 false rfl rfl rfl rfl g1 ?_; go_frame)
    | ((with_reducible change wpList _ _ _ (Oper.mk (some 16) _ _ _ _ _ :: _) _ _); refine kEqlI _ _ _ _ .i64 d.kind 2 false rfl rfl rfl rfl g2 ?_; go_frame)
    | ((with_reducible change wpList _ _ _ (Oper.mk (some 33) _ _ _ _ _ :: _) _ _); refine kEqlI _ _ _ _ .i64 d.kind 3 false rfl rfl rfl rfl g3 ?_; go_frame))
  go_ret
  exact ⟨_, rfl, ownB_nil _ _, hB⟩
end Go.Proofs.YtnaclalbeocpkaaDoor
