/-
  Layer 7: the walks of the program's Next, Push, True, check, truth, lengthBytes, needs, and of bytes.Equal and slices.Contains.
-/
import Derived.Test.YtnaclalbeocpkaaDoorScWord
namespace Go.Proofs.YtnaclalbeocpkaaDoor
open Go Go.RowKit

theorem split_of {b : List UInt8} {H N : Nat} (hb : b ≠ []) (hH : headN (at8 b 0) = H) (hl : H ≤ b.length) (hN : behindN (b.take H) = N) : splitS b = if (b.drop H).length < N then none else some (b.take H, (b.drop H).take N) := by
  unfold splitS; rw [hH, if_neg (by rintro (e | e); exact hb e; omega), hN]
theorem next_split (b : List UInt8) : nextS b = (splitS b).map fun p => (at8 p.1 0, if smallB (at8 p.1 0) then [at8 p.1 0 - 80] else p.2, p.1.length + p.2.length) := by
  cases b with
  | nil => rfl
  | cons c r =>
    by_cases k6 : c = 76
    · subst k6
      cases r with
      | nil => rfl
      | cons x t =>
        rw [split_of (H := 2) (N := x.toNat) (by simp) rfl (by simp) rfl]
        show (if t.length < x.toNat then none else some (76, t.take x.toNat, 2 + x.toNat)) = Option.map _ (if t.length < x.toNat then none else some ([76, x], t.take x.toNat))
        by_cases h : t.length < x.toNat
        · rw [if_pos h, if_pos h]; rfl
        · rw [if_neg h, if_neg h]
          have : (t.take x.toNat).length = x.toNat := by rw [List.length_take]; omega
          show some _ = some (76, t.take x.toNat, 2 + (t.take x.toNat).length)
          rw [this]
    by_cases k7 : c = 77
    · subst k7
      match r with
      | [] => rfl
      | [x] => rfl
      | x :: y :: t =>
        rw [split_of (H := 3) (N := x.toNat + 256 * y.toNat) (by simp) rfl (by simp) rfl]
        show (if t.length < x.toNat + 256 * y.toNat then none else some (77, t.take (x.toNat + 256 * y.toNat), 3 + (x.toNat + 256 * y.toNat))) = Option.map _ (if t.length < x.toNat + 256 * y.toNat then none else some ([77, x, y], t.take (x.toNat + 256 * y.toNat)))
        by_cases h : t.length < x.toNat + 256 * y.toNat
        · rw [if_pos h, if_pos h]; rfl
        · rw [if_neg h, if_neg h]
          have : (t.take (x.toNat + 256 * y.toNat)).length = x.toNat + 256 * y.toNat := by rw [List.length_take]; omega
          show some _ = some (77, t.take (x.toNat + 256 * y.toNat), 3 + (t.take (x.toNat + 256 * y.toNat)).length)
          rw [this]
    have n6 : c.toNat ≠ 76 := fun e => k6 (UInt8.toNat_inj.1 e)
    have n7 : c.toNat ≠ 77 := fun e => k7 (UInt8.toNat_inj.1 e)
    have hH : headN c = 1 := by unfold headN; rw [if_neg k6, if_neg k7]
    have hN : behindN [c] = if c.toNat ≤ 75 then c.toNat else 0 := by
      show (if c.toNat ≤ 75 then c.toNat else if c = 76 then _ else if c = 77 then _ else 0) = _
      rw [if_neg k6, if_neg k7]
    rw [split_of (b := c :: r) (H := 1) (N := if c.toNat ≤ 75 then c.toNat else 0) (by simp) hH (by simp) hN]
    show nextS (c :: r) = Option.map _ (if r.length < _ then none else some ([c], r.take _))
    unfold nextS
    dsimp only
    by_cases hs : 80 < c.toNat ∧ c.toNat < 97
    · have hsm : smallB c = true := by unfold smallB; simp; omega
      rw [if_pos hs, if_neg (by omega : ¬ c.toNat ≤ 75), if_neg (by omega)]
      show _ = some (c, if smallB c then [c - 80] else _, 1 + (r.take 0).length)
      rw [hsm, if_pos rfl, List.take_zero, List.length_nil]
    · have hsm : smallB c = false := by unfold smallB; simp; omega
      rw [if_neg hs, if_neg n6, if_neg n7]
      by_cases h75 : c.toNat ≤ 75
      · rw [if_pos (by omega), if_pos h75]
        by_cases h : r.length < c.toNat
        · rw [if_pos h, if_pos h]; rfl
        · rw [if_neg h, if_neg h]
          have : (r.take c.toNat).length = c.toNat := by rw [List.length_take]; omega
          show _ = some (c, if smallB c then [c - 80] else _, 1 + (r.take c.toNat).length)
          rw [hsm, if_neg (by simp), this]
      · rw [if_neg (by omega), if_neg h75, if_neg (by omega)]
        show _ = some (c, if smallB c then [c - 80] else _, 1 + (r.take 0).length)
        rw [hsm, if_neg (by simp), List.take_zero, List.length_nil]
theorem split_head {b h d : List UInt8} (e : splitS b = some (h, d)) : 0 < h.length ∧ h.length ≤ b.length ∧ d.length ≤ b.length := by
  unfold splitS at e
  split at e
  · cases e
  · rename_i hb
    split at e
    · cases e
    · simp only [Option.some.injEq, Prod.mk.injEq] at e
      have hp := headN_pos (at8 b 0)
      have h1 : headN (at8 b 0) ≤ b.length := by
        rcases Nat.lt_or_ge b.length (headN (at8 b 0)) with h | h
        · exact absurd (.inr h) hb
        · exact h
      rw [← e.1, ← e.2]
      simp only [List.length_take, List.length_drop]
      omega
set_option maxRecDepth 100000 in
set_option maxHeartbeats 8000000 in
theorem scNext_any {b : List UInt8} {v : Value} (w : World) (hv : IsVals w v (b.map VB)) (hl : b.length ≤ 1000000) : Calls Tryd.prog 38 #[v] w (NextPost w (nextS b)) := by
  obtain ⟨i, hi, hz, hs1, hby⟩ := b8Info
  have hsp := fun w (hv : IsVals w v (b.map VB)) => scSplit_any w hv
  rw [next_split]
  cases hq : splitS b with
  | none =>
    rw [hq] at hsp
    show Calls _ _ _ _ (NextPost w none)
    go_enter Tryd.func38, Tryd.ntmps38
    go_wp2_with (first
      | (go_at_call 47; refine (hsp _ hv).mono ?_; rintro e w1 ⟨v1, v2, rfl, hB1⟩; clear hsp; go_frame))
    (try simp only [Exit.inBlock, Exit.then])
    refine ret4 rfl rfl ?_
    exact ⟨rfl, hB1⟩
  | some p =>
  obtain ⟨h, d⟩ := p
  rw [hq] at hsp
  obtain ⟨hhp, hhl, hdl'⟩ := split_head hq
  have hdl : d.length ≤ 1000000 := by omega
  obtain ⟨H, hH⟩ : ∃ H, h.length = H := ⟨_, rfl⟩
  obtain ⟨D, hD⟩ : ∃ D, d.length = D := ⟨_, rfl⟩
  clear hq
  show Calls _ _ _ _ (NextPost w (some (at8 h 0, if smallB (at8 h 0) then [at8 h 0 - 80] else d, h.length + d.length)))
  rw [hH, hD]
  have hcl := (at8 h 0).toNat_lt
  by_cases hsm : smallB (at8 h 0) = true
  · rw [hsm, if_pos rfl]
    have h81 : 80 < (at8 h 0).toNat ∧ (at8 h 0).toNat < 97 := by unfold smallB at hsm; simpa using hsm
    have e80 : ((at8 h 0).toNat : Int) - 81 + 1 = B (at8 h 0 - 80) ∧ 0 ≤ B (at8 h 0 - 80) ∧ B (at8 h 0 - 80) < 256 := by
      unfold B
      rw [UInt8.toNat_sub_of_le (at8 h 0) 80 (by rw [UInt8.le_iff_toNat_le]; show 80 ≤ (at8 h 0).toNat; omega)]
      show _ = (((at8 h 0).toNat - 80 : Nat) : Int) ∧ _ ≤ (((at8 h 0).toNat - 80 : Nat) : Int) ∧ (((at8 h 0).toNat - 80 : Nat) : Int) < _
      omega
    go_enter Tryd.func38, Tryd.ntmps38
    go_wp2_with (first
      | (go_at_call 47; refine (hsp _ hv).mono ?_; rintro e w1 ⟨v1, v2, rfl, hT1, hD1, hB1⟩; have hsz1 := hB1.size; clear hsp hv; go_frame)
      | ((with_reducible change wpList _ _ _ (Oper.mk (some 20) _ _ _ _ _ :: _) _ _); refine kLenN _ _ _ v1 _ H rfl rfl rfl hT1 (by rw [List.length_map, hH]) Tryd.underlying22 ?_; go_frame)
      | ((with_reducible change wpList _ _ _ (Oper.mk (some 22) _ _ _ _ _ :: _) _ _); refine kLenN _ _ _ v2 _ D rfl rfl rfl hD1 (by rw [List.length_map, hD]) Tryd.underlying22 ?_; go_frame)
      | ((with_reducible change wpList _ _ _ (Oper.mk (some 23) _ _ _ _ _ :: _) _ _); refine kAddI _ _ _ _ (H : Int) (D : Int) ((H + D : Nat) : Int) (by omega) rfl rfl rfl rfl ?_; go_frame)
      | ((with_reducible change wpList _ _ _ (Oper.mk (some 25) _ _ _ _ _ :: _) _ _); refine kIndexAddrV _ _ _ _ .i64 v1 _ 0 0 (VB (at8 h 0)) rfl rfl rfl hT1 rfl Tryd.underlying22 info_b8P rfl (vb_at hhp) ?_; intro p hp; go_frame)
      | ((with_reducible change wpList _ _ _ (Oper.mk (some 26) _ _ _ _ _ :: _) _ _); refine kLoadCell _ _ p (VB (at8 h 0)) _ rfl rfl rfl hp Tryd.underlying5 rfl ?_; clear hp; go_frame)
      | (go_at_call 48; refine (scIsSmall_any _ _).mono ?_; rintro e w2 ⟨rfl, rfl⟩; rw [hsm]; go_frame)
      | ((with_reducible change wpList _ _ _ (Oper.mk (some 31) _ _ _ _ _ :: _) _ _); refine kSubB _ _ _ _ (B (at8 h 0)) 81 (((at8 h 0).toNat : Int) - 81) (by unfold B; omega) rfl rfl rfl rfl ?_; go_frame)
      | ((with_reducible change wpList _ _ _ (Oper.mk (some 32) _ _ _ _ _ :: _) _ _); refine kAddB _ _ _ _ (((at8 h 0).toNat : Int) - 81) 1 (B (at8 h 0 - 80)) e80 rfl rfl rfl rfl ?_; go_frame)
      | ((with_reducible change wpList _ _ _ (Oper.mk (some 33) _ _ _ _ _ :: _) _ _); refine kBuildSlice1 _ _ _ (VB (at8 h 0 - 80)) rfl rfl Tryd.underlying22 i _ hi hz hs1 rfl rfl ?_; intro w2 hR2 hz2 hB2; clear hz2; have hO2 := own_one (base := w.heap.size) hsz1 hR2; clear hR2; have hB3 := hB1.trans (hB2.mono hsz1); go_frame))
    (try simp only [Exit.inBlock, Exit.then])
    refine ret4 rfl rfl ?_
    exact ⟨_, rfl, hO2, hB3⟩
  · have hsm0 : smallB (at8 h 0) = false := by simpa using hsm
    rw [hsm0, if_neg (by simp)]
    clear hsm
    have hsp2 : ∀ w, IsVals w v (b.map VB) → Calls Tryd.prog 47 #[v] w fun e w' => ∃ ad cp v2, e = .returned (.tuple #[.slice (some ad) H cp, v2, .bool true]) ∧ IsVals w' (.slice (some ad) H cp) (h.map VB) ∧ IsVals w' v2 (d.map VB) ∧ Below w.heap.size w w' := fun w hv => (hsp w hv).mono (by
      rintro e w1 ⟨v1, v2, rfl, h1, h2, h3⟩
      obtain ⟨ad, cp, rfl⟩ := vals_addr h1 hhp
      rw [hH] at h1 ⊢
      exact ⟨ad, cp, v2, rfl, h1, h2, h3⟩)
    clear hsp
    go_enter Tryd.func38, Tryd.ntmps38
    go_wp2_with (first
      | (go_at_call 47; refine (hsp2 _ hv).mono ?_; rintro e w1 ⟨ad, cp, v2, rfl, hT1, hD1, hB1⟩; have hsz1 := hB1.size; clear hsp2 hv; go_frame)
      | ((with_reducible change wpList _ _ _ (Oper.mk (some 20) _ _ _ _ _ :: _) _ _); refine kLenN _ _ _ (.slice (some ad) H cp) _ H rfl rfl rfl hT1 (by rw [List.length_map, hH]) Tryd.underlying22 ?_; go_frame)
      | ((with_reducible change wpList _ _ _ (Oper.mk (some 22) _ _ _ _ _ :: _) _ _); refine kLenN _ _ _ v2 _ D rfl rfl rfl hD1 (by rw [List.length_map, hD]) Tryd.underlying22 ?_; go_frame)
      | ((with_reducible change wpList _ _ _ (Oper.mk (some 23) _ _ _ _ _ :: _) _ _); refine kAddI _ _ _ _ (H : Int) (D : Int) ((H + D : Nat) : Int) (by omega) rfl rfl rfl rfl ?_; go_frame)
      | ((with_reducible change wpList _ _ _ (Oper.mk (some 25) _ _ _ _ _ :: _) _ _); refine kIndexAddrV _ _ _ _ .i64 (.slice (some ad) H cp) _ 0 0 (VB (at8 h 0)) rfl rfl rfl hT1 rfl Tryd.underlying22 info_b8P rfl (vb_at hhp) ?_; intro p hp; go_frame)
      | ((with_reducible change wpList _ _ _ (Oper.mk (some 26) _ _ _ _ _ :: _) _ _); refine kLoadCell _ _ p (VB (at8 h 0)) _ rfl rfl rfl hp Tryd.underlying5 rfl ?_; clear hp; go_frame)
      | (go_at_call 48; refine (scIsSmall_any _ _).mono ?_; rintro e w2 ⟨rfl, rfl⟩; rw [hsm0]; go_frame))
    refine region_mixD [(0, true), (1, true), (2, true), (3, true), (5, true), (4, false), (6, true), (7, true), (8, true), (9, true)] (fun w => IsVals w (.slice (some ad) H cp) (h.map VB)) (by kernel_rfl) (by kernel_rfl) rfl ?_
    intro w3 hBd hsd
    have hT3 := hT1.below hBd
    have hD3 := hD1.below hBd
    have hB3 := hB1.trans (hBd.mono hsz1)
    have hsz3 := hB3.size
    clear hsd hBd hT1 hD1 hB1 hsz1
    simp only [List.map_cons, List.map_nil]
    dsimp only [List.filterMap, List.getElem?_cons_zero, List.getElem?_cons_succ]
    have hS := hT3
    refine dY _ hS (yMove _ (.slice (some ad) H cp) rfl rfl rfl) ?_; go_frame
    refine dY _ hS (yIndexB _ _ _ _ ad H cp 0 rfl rfl rfl rfl Tryd.underlying22 info_b8P (by omega)) ?_; go_frame
    refine dY _ hS (yLoadC _ _ (ad.add 0) (VB (at8 h 0)) _ rfl rfl rfl (fun w hw => vb_cell hw hhp) Tryd.underlying5 rfl) ?_; go_frame
    refine dY _ hS (yMove _ (v2) rfl rfl rfl) ?_; go_frame
    refine dY _ hS (yMove _ (.int .i64 ((H + D : Nat) : Int)) rfl rfl rfl) ?_; go_frame
    refine dLoud ?_
    refine kCall1 25 _ _ _ rfl rfl (by kernel_rfl) rfl ?_
    refine (bClone_any _ hD3 hdl).mono ?_
    rintro e w4 ⟨v4, rfl, hO4, hB4⟩
    have hT4 := hT3.below hB4
    have hO5 := own_less hsz3 hO4
    have hB5 := hB3.trans (hB4.mono hsz3)
    clear hT3 hD3 hB3 hB4 hO4
    refine ⟨_, rfl, mixOn ⟨(fun w => IsVals w (.slice (some ad) H cp) (h.map VB)), (fun _ h => h), hT4, ?_⟩⟩
    have hS2 := hT4; clear hS; have hS := hS2; clear hS2
    go_frame
    refine dY _ hS (yAssign _ _ rfl rfl rfl) ?_; go_frame
    refine dY _ hS (yAssign _ v4 rfl rfl rfl) ?_; go_frame
    refine dY _ hS (yAssign _ (.int .i64 ((H + D : Nat) : Int)) rfl rfl rfl) ?_; go_frame
    refine dY _ hS (yAssign _ (.int .i64 0) rfl rfl rfl) ?_; go_frame
    refine dDone ?_
    go_wp2
    (try simp only [Exit.inBlock, Exit.then])
    refine ret4 rfl rfl ?_
    exact ⟨_, rfl, hO5, hB5⟩
def headL (n : Nat) : List UInt8 := if n < 76 then [UInt8.ofNat n] else if n < 256 then [76, UInt8.ofNat n] else [77, UInt8.ofNat n, UInt8.ofNat (n / 256)]
theorem headL_len (n : Nat) : (headL n).length ≤ 3 := by unfold headL; split; simp; split <;> simp
theorem pushL_head (x : List UInt8) : pushL x = headL x.length ++ x := by
  unfold pushL headL
  have e : UInt8.ofNat (x.length % 256) = UInt8.ofNat x.length := by apply UInt8.toNat_inj.1; simp
  rw [e]
  split
  · rfl
  · split <;> rfl
set_option maxRecDepth 100000 in
set_option maxHeartbeats 8000000 in
theorem scHeadOf_any (m : Nat) (w : World) (hm : m ≤ 65535) : Calls Tryd.prog 35 #[.int .i64 (m : Int)] w (POwnPost w (headL m)) := by
  obtain ⟨i, hi, hz, hs1, hby⟩ := b8Info
  have e1 := VB_mod m
  unfold headL
  by_cases h1 : m < 76
  · rw [if_pos h1]
    have hd : decide ((m : Int) ≤ 75) = true := by simp; omega
    go_enter Tryd.func35, Tryd.ntmps35
    go_wp2_with (first
      | ((with_reducible change wpList _ _ _ (Oper.mk (some 5) _ _ _ _ _ :: _) _ _); refine kLeqI _ _ _ _ .i64 (m : Int) 75 true rfl rfl rfl rfl hd ?_; go_frame)
      | ((with_reducible change wpList _ _ _ (Oper.mk (some 7) _ _ _ _ _ :: _) _ _); refine kConvI8 _ m rfl rfl rfl ?_; go_frame)
      | ((with_reducible change wpList _ _ _ (Oper.mk (some 8) _ _ _ _ _ :: _) _ _); refine kBuildSlice1 _ _ _ (VB (UInt8.ofNat m)) rfl rfl Tryd.underlying22 i _ hi hz hs1 e1.symm rfl ?_; intro w2 hR2 hz2 hB2; clear hz2; have hO2 := own_lit (base := w.heap.size) [UInt8.ofNat m] (Nat.le_refl _) (by simp) hR2; clear hR2; go_frame))
    go_ret
    exact ⟨_, rfl, hO2, hB2⟩
  rw [if_neg h1]
  have hd : decide ((m : Int) ≤ 75) = false := by simp; omega
  by_cases h2 : m < 256
  · rw [if_pos h2]
    have hd2 : decide ((m : Int) ≤ 255) = true := by simp; omega
    go_enter Tryd.func35, Tryd.ntmps35
    go_wp2_with (first
      | ((with_reducible change wpList _ _ _ (Oper.mk (some 5) _ _ _ _ _ :: _) _ _); refine kLeqI _ _ _ _ .i64 (m : Int) 75 false rfl rfl rfl rfl hd ?_; go_frame)
      | ((with_reducible change wpList _ _ _ (Oper.mk (some 11) _ _ _ _ _ :: _) _ _); refine kLeqI _ _ _ _ .i64 (m : Int) 255 true rfl rfl rfl rfl hd2 ?_; go_frame)
      | ((with_reducible change wpList _ _ _ (Oper.mk (some 13) _ _ _ _ _ :: _) _ _); refine kConvI8 _ m rfl rfl rfl ?_; go_frame)
      | ((with_reducible change wpList _ _ _ (Oper.mk (some 14) _ _ _ _ _ :: _) _ _); refine kBuildSlice2 _ _ _ _ (VB 76) (VB (UInt8.ofNat m)) rfl rfl Tryd.underlying22 i _ hi hz hs1 rfl rfl e1.symm rfl ?_; intro w2 hR2 hz2 hB2; clear hz2; have hO2 := own_lit (base := w.heap.size) [76, UInt8.ofNat m] (Nat.le_refl _) (by simp) hR2; clear hR2; go_frame))
    go_ret
    exact ⟨_, rfl, hO2, hB2⟩
  · rw [if_neg h2]
    have hd2 : decide ((m : Int) ≤ 255) = false := by simp; omega
    have e2 := VB_mod (m / 256)
    go_enter Tryd.func35, Tryd.ntmps35
    go_wp2_with (first
      | ((with_reducible change wpList _ _ _ (Oper.mk (some 5) _ _ _ _ _ :: _) _ _); refine kLeqI _ _ _ _ .i64 (m : Int) 75 false rfl rfl rfl rfl hd ?_; go_frame)
      | ((with_reducible change wpList _ _ _ (Oper.mk (some 11) _ _ _ _ _ :: _) _ _); refine kLeqI _ _ _ _ .i64 (m : Int) 255 false rfl rfl rfl rfl hd2 ?_; go_frame)
      | ((with_reducible change wpList _ _ _ (Oper.mk (some 16) _ _ _ _ _ :: _) _ _); refine kConvI8 _ m rfl rfl rfl ?_; go_frame)
      | ((with_reducible change wpList _ _ _ (Oper.mk (some 18) _ _ _ _ _ :: _) _ _); refine kShr8I _ _ _ _ m rfl rfl rfl rfl ?_; go_frame)
      | ((with_reducible change wpList _ _ _ (Oper.mk (some 19) _ _ _ _ _ :: _) _ _); refine kConvI8 _ (m / 256) rfl rfl rfl ?_; go_frame)
      | ((with_reducible change wpList _ _ _ (Oper.mk (some 20) _ _ _ _ _ :: _) _ _); refine kBuildSlice3 _ _ _ _ _ (VB 77) (VB (UInt8.ofNat m)) (VB (UInt8.ofNat (m / 256))) rfl rfl Tryd.underlying22 i _ hi hz hs1 rfl rfl e1.symm rfl e2.symm rfl ?_; intro w2 hR2 hz2 hB2; clear hz2; have hO2 := own_lit (base := w.heap.size) [77, UInt8.ofNat m, UInt8.ofNat (m / 256)] (Nat.le_refl _) (by simp) hR2; clear hR2; go_frame))
    go_ret
    exact ⟨_, rfl, hO2, hB2⟩
/-- words that push, one behind the other -/
def pushesL (Ls : List (List UInt8)) : List UInt8 := (Ls.map pushL).flatten
theorem pushesL_take (Ls : List (List UInt8)) (k : Nat) (hk : k < Ls.length) : pushesL (Ls.take (k + 1)) = pushesL (Ls.take k) ++ pushL Ls[k] := by
  unfold pushesL; rw [List.take_succ_eq_append_getElem hk, List.map_append, List.flatten_append]; simp
theorem pushL_le' {x : List UInt8} {m : Nat} (h : x.length ≤ m) : (pushL x).length ≤ m + 3 := by
  rw [pushL_head, List.length_append]; have := headL_len x.length; omega
theorem pushesL_le (Ls : List (List UInt8)) (m : Nat) (h : ∀ L ∈ Ls, L.length ≤ m) : (pushesL Ls).length ≤ Ls.length * (m + 3) := by
  induction Ls with
  | nil => simp [pushesL]
  | cons x Ls ih =>
    have h1 := pushL_le' (h x (by simp))
    have h2 := ih fun L hL => h L (by simp [hL])
    have e : pushesL (x :: Ls) = pushL x ++ pushesL Ls := by simp [pushesL]
    rw [e, List.length_append, List.length_cons, Nat.add_mul, Nat.one_mul]; omega
theorem lists_len {w : World} {v : Value} {Ls : List (List UInt8)} (h : AreLists w v Ls) : ∃ vs : List Value, vs.length = Ls.length ∧ IsVals w v vs := by
  obtain ⟨vs, h1, h2, _⟩ := h; exact ⟨vs, h1, h2⟩
theorem lists_at {w : World} {v : Value} {Ls : List (List UInt8)} (h : AreLists w v Ls) {k : Nat} (hk : k < Ls.length) : ∃ (vs : List Value) (x : Value), vs.length = Ls.length ∧ IsVals w v vs ∧ vs[k]? = some x ∧ IsVals w x (Ls[k].map VB) := by
  obtain ⟨vs, h1, h2, h3⟩ := h
  exact ⟨vs, vs[k], h1, h2, List.getElem?_eq_getElem (by omega), h3 k _ _ (List.getElem?_eq_getElem (by omega)) (List.getElem?_eq_getElem hk)⟩
theorem isVals_toP {w : World} {x : Value} {X : List UInt8} {m : Nat} (h : IsVals w x (X.map VB)) (ht : X.take m = X) (hm : X.length = m) : IsVals w (toV x m) (X.map VB) := by
  have h1 := isVals_to (n := m) h (by simp [hm])
  rw [← List.map_take, ht] at h1; exact h1
theorem info_bytesS : (Tryd.prog.info? 22).map (·.size) = some 1 := by kernel_rfl
set_option maxRecDepth 100000 in
set_option maxHeartbeats 8000000 in
theorem scPush_any {l : List UInt8} {v u : Value} {Ls : List (List UInt8)} (w : World) (hv : IsVals w v (l.map VB)) (hu : AreLists w u Ls) (hl : l.length ≤ 100000) (hn : Ls.length ≤ 100) (hx : ∀ L ∈ Ls, L.length ≤ 1000) : Calls Tryd.prog 28 #[v, u] w (POwnPost w (l ++ pushesL Ls)) := by
  obtain ⟨N, hN⟩ : ∃ N, Ls.length = N := ⟨_, rfl⟩
  have hL0 := lists_len hu
  obtain ⟨vs0, hvs0, hV0⟩ := hL0
  go_enter Tryd.func28, Tryd.ntmps28
  go_wp2_with (first
    | (go_at_call 25; refine (bClone_any _ hv (by omega)).mono ?_; rintro e w1 ⟨v1, rfl, hO1, hB1⟩; have hV1 := hV0.below hB1; clear hV0; go_frame)
    | ((with_reducible change wpList _ _ _ (Oper.mk (some 10) _ _ _ _ _ :: _) _ _); refine kLenN _ _ _ u _ N rfl rfl rfl hV1 (hvs0.trans hN) Tryd.underlying57 ?_; go_frame))
  clear hV1 hvs0
  go_loopw [11, 0] (fun i t wr => ∃ k : Nat, k ≤ N ∧ i = .int .i64 k ∧ OwnB wr w.heap.size t (l ++ pushesL (Ls.take k)) ∧ Below w.heap.size w wr) (fun i _ _ => N - (intOf i).toNat)
  case atStart => exact ⟨0, by omega, rfl, by rw [List.take_zero, show pushesL [] = [] from rfl, List.append_nil]; exact hO1, hB1⟩
  case round =>
    clear hO1 hB1
    obtain ⟨k, hk, rfl, hO, hB⟩ := hrel
    by_cases hlt : k < N
    · have hd : decide ((k : Int) < (N : Int)) = true := by simp; omega
      have hkl : k < Ls.length := by omega
      obtain ⟨vs, x, hvs, hV0, hxk, hX0⟩ := lists_at hu hkl
      have hV := hV0.below hB
      have hX := hX0.below hB
      have hsz := hB.size
      have hm : Ls[k].length ≤ 1000 := hx _ (List.getElem_mem hkl)
      have hTk := pushesL_take Ls k hkl
      obtain ⟨X, hXe⟩ : ∃ X, Ls[k] = X := ⟨_, rfl⟩
      rw [hXe] at hX hX0 hm hTk
      rw [pushL_head, ← List.append_assoc] at hTk
      obtain ⟨m, hme⟩ : ∃ m, X.length = m := ⟨_, rfl⟩
      rw [hme] at hTk
      obtain ⟨Y, hY⟩ : ∃ Y, l ++ pushesL (Ls.take k) = Y := ⟨_, rfl⟩
      have hYl : Y.length ≤ 400000 := by
        have := pushesL_le (Ls.take k) 1000 (fun L hL => hx L (List.mem_of_mem_take hL)); rw [List.length_take] at this
        rw [← hY, List.length_append]; omega
      rw [hY] at hO
      have hcl := headL_len m
      have htk : X.take m = X := List.take_of_length_le (by omega)
      have hmin : (if (65535 : Int) < (m : Int) then (65535 : Int) else (m : Int)) = (m : Int) := by rw [if_neg (by omega)]
      clear hV0
      go_wp2_with (first
        | ((with_reducible change wpList _ _ _ (Oper.mk (some 12) _ _ _ _ _ :: _) _ _); refine kLssI _ _ _ _ .i64 (k : Int) (N : Int) true rfl rfl rfl rfl hd ?_; go_frame)
        | ((with_reducible change wpList _ _ _ (Oper.mk (some 13) _ _ _ _ _ :: _) _ _); refine kIndexAddrV _ _ _ _ .i64 u vs (k : Int) k x rfl rfl rfl hV rfl Tryd.underlying57 info_bytesS rfl hxk ?_; intro b hb; go_frame)
        | ((with_reducible change wpList _ _ _ (Oper.mk (some 14) _ _ _ _ _ :: _) _ _); refine kLoadCell _ _ b x _ rfl rfl rfl hb Tryd.underlying22 rfl ?_; clear hb hV; go_frame)
        | ((with_reducible change wpList _ _ _ (Oper.mk (some 17) _ _ _ _ _ :: _) _ _); refine kLenN _ _ _ x _ m rfl rfl rfl hX (by rw [List.length_map, hme]) Tryd.underlying22 ?_; go_frame)
        | ((with_reducible change wpList _ _ _ (Oper.mk (some 18) _ _ _ _ _ :: _) _ _); refine kMinZ _ _ (m : Int) 65535 (m : Int) hmin rfl rfl rfl rfl ?_; go_frame)
        | ((with_reducible change wpList _ _ _ (Oper.mk (some 19) _ _ _ _ _ :: _) _ _); refine kSliceTo _ _ x X m hX (by omega) rfl rfl rfl rfl ?_; intro hX2; rw [htk] at hX2; clear hX; go_frame)
        | ((with_reducible change wpList _ _ _ (Oper.mk (some 22) _ _ _ _ _ :: _) _ _); refine kLenN _ _ _ (toV x m) _ m rfl rfl rfl hX2 (by rw [List.length_map, hme]) Tryd.underlying22 ?_; go_frame)
        | (go_at_call 35; refine (scHeadOf_any m _ (by omega)).mono ?_; rintro e w2 ⟨v2, rfl, hO2, hB2⟩; have hO3 := hO.below hB2; have hX3 := hX2.below hB2; have hB3 := hB.trans (hB2.mono hsz); have hsz2 := hB2.size; clear hB2 hO hX2; go_frame)
        | ((with_reducible change wpList _ _ _ (Oper.mk (some 24) _ _ _ _ _ :: _) _ _); refine kAppB _ _ rfl rfl w.heap.size _ _ Y (headL m) hO3 hO2.vals rfl rfl (by omega) (by omega) ?_; intro v4 w4 hO4 hB4; have hB5 := hB3.trans hB4; have hX4 := (isVals_toP (hX0.below hB5) htk hme); have hsz4 := hB5.size; clear hO2 hO3 hB4 hB3 hX3; go_frame)
        | ((with_reducible change wpList _ _ _ (Oper.mk (some 27) _ _ _ _ _ :: _) _ _); refine kAppB _ _ rfl rfl w.heap.size _ _ (Y ++ headL m) X hO4 hX4 rfl rfl (by rw [List.length_append]; omega) hsz4 ?_; intro v6 w6 hO6 hB6; have hB7 := hB5.trans hB6; clear hO4 hX4 hB5 hB6; go_frame)
        | ((with_reducible change wpList _ _ _ (Oper.mk (some 28) _ _ _ _ _ :: _) _ _); refine kAddI _ _ _ _ (k : Int) 1 ((k + 1 : Nat) : Int) (by omega) rfl rfl rfl rfl ?_; go_frame))
      go_roundw
      case rel =>
        refine ⟨k + 1, by omega, rfl, ?_, hB7⟩
        rw [hTk, ← List.append_assoc, ← List.append_assoc, hY]; exact hO6
      case measure => simp [intOf]; omega
    · have hd : decide ((k : Int) < (N : Int)) = false := by simp; omega
      have hT : pushesL (Ls.take k) = pushesL Ls := by rw [List.take_of_length_le (by omega)]
      rw [hT] at hO
      go_wp2_with (first
        | ((with_reducible change wpList _ _ _ (Oper.mk (some 12) _ _ _ _ _ :: _) _ _); refine kLssI _ _ _ _ .i64 (k : Int) (N : Int) false rfl rfl rfl rfl hd ?_; go_frame))
      go_ret
      exact ⟨_, rfl, hO, hB⟩
/-- the error's number of a check -/
def checkN (b : Bool) : Nat := if b then 0 else 74
def lenL : Nat → Nat → List UInt8
  | 0, _ => []
  | f + 1, n => if n = 0 then [] else UInt8.ofNat n :: lenL f (n / 256)
theorem lenL_size {n : Nat} (hn : n ≤ 65535) : lenL 3 n = sizeL n := by
  unfold sizeL
  by_cases h0 : n = 0
  · subst h0; rfl
  · have e : UInt8.ofNat (n % 256) = UInt8.ofNat n := by apply UInt8.toNat_inj.1; simp
    rw [if_neg h0, e]
    show (if n = 0 then [] else UInt8.ofNat n :: lenL 2 (n / 256)) = _
    rw [if_neg h0]
    by_cases h1 : n ≤ 255
    · rw [if_pos h1, show n / 256 = 0 by omega]; rfl
    · rw [if_neg h1]
      show UInt8.ofNat n :: (if n / 256 = 0 then [] else UInt8.ofNat (n / 256) :: lenL 1 (n / 256 / 256)) = _
      rw [if_neg (by omega), show n / 256 / 256 = 0 by omega]; rfl
theorem sizeL_len (n : Nat) : (sizeL n).length ≤ 2 := by unfold sizeL; split; simp; split <;> simp
set_option maxRecDepth 100000 in
set_option maxHeartbeats 8000000 in
theorem bEqual_any {l m : List UInt8} {v u : Value} (w : World) (hv : IsVals w v (l.map VB)) (hu : IsVals w u (m.map VB)) : Calls Tryd.prog 39 #[v, u] w fun e w' => e = .returned (.bool (l == m)) ∧ w' = w := by
  go_enter Tryd.func39, Tryd.ntmps39
  go_wp2_with (first
    | ((with_reducible change wpList _ _ _ (Oper.mk (some 6) _ _ _ _ _ :: _) _ _); refine kToString _ _ _ _ v l rfl rfl rfl hv Tryd.underlying22 Tryd.underlying5 Tryd.underlying9 ?_; go_frame)
    | ((with_reducible change wpList _ _ _ (Oper.mk (some 8) _ _ _ _ _ :: _) _ _); refine kToString _ _ _ _ u m rfl rfl rfl hu Tryd.underlying22 Tryd.underlying5 Tryd.underlying9 ?_; go_frame)
    | ((with_reducible change wpList _ _ _ (Oper.mk (some 9) _ _ _ _ _ :: _) _ _); refine kEqlStr _ _ _ _ l m _ rfl rfl rfl rfl rfl ?_; go_frame))
  go_ret
  exact ⟨rfl, rfl⟩
theorem info_boolS : (Tryd.prog.info? 4).map (·.size) = some 1 := by kernel_rfl
/-- how many pieces a word must find -/
def needN (c : UInt8) : Nat := if c = 99 ∨ c = 100 ∨ c = 105 ∨ c = 117 ∨ c = 118 ∨ c = 130 ∨ c = 168 ∨ c = 169 then 1 else if c = 109 ∨ c = 120 ∨ c = 124 ∨ c = 135 ∨ c = 136 ∨ c = 172 ∨ c = 173 then 2 else 0
end Go.Proofs.YtnaclalbeocpkaaDoor
