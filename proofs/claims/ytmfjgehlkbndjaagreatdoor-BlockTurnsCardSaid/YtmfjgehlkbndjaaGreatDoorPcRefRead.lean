/-
  Layer 6: the walks of the Reader's Text, and of the reference's readers.
-/
import Derived.Test.YtmfjgehlkbndjaaGreatDoorPcCount
namespace Go.Proofs.YtmfjgehlkbndjaaGreatDoor
open Go Go.RowKit
variable {Lm : Nat}

theorem count_le (s : Scn) (m : Nat) : (countS s m).1 ≤ m := by
  unfold countS
  split
  · exact Nat.zero_le _
  · split
    · exact Nat.zero_le _
    · rename_i c r he
      generalize (if fSize c = 0 then c.toNat else numL (r.take (fSize c))) = N
      split
      · exact Nat.zero_le _
      · split
        · exact Nat.zero_le _
        · rename_i h; simp only [not_or, Nat.not_lt] at h; exact h.2
theorem count_errRest (s : Scn) (m : Nat) : (countS s m).2.err ≠ 0 → (countS s m).2.rest = s.rest := by
  unfold countS
  split
  · exact fun _ => rfl
  · split
    · exact fun _ => rfl
    · rename_i c r he
      generalize (if fSize c = 0 then c.toNat else numL (r.take (fSize c))) = N
      split
      · exact fun _ => rfl
      · split
        · exact fun _ => rfl
        · exact fun h => absurd rfl h
theorem count_restLe (s : Scn) (m : Nat) : (countS s m).2.rest.length ≤ s.rest.length := by
  unfold countS
  split
  · exact Nat.le_refl _
  · split
    · exact Nat.le_refl _
    · rename_i c r he
      generalize (if fSize c = 0 then c.toNat else numL (r.take (fSize c))) = N
      split
      · exact Nat.le_refl _
      · split
        · exact Nat.le_refl _
        · show (r.drop _).length ≤ _
          rw [he, List.length_drop, List.length_cons]; omega
/-- what the Reader's Text does, as it is written -/
def txt1 (s : Scn) (p : List UInt8 × Scn) : List UInt8 × Scn := if p.2.err ≠ 0 then (p.1, ⟨s.rest, p.2.err⟩) else p
theorem txt_same (s : Scn) (z : Int) : txt1 s (rawS (countS s z.toNat).2 ((countS s z.toNat).1 : Int)) = textS s z := by
  have hr := count_errRest s z.toNat
  unfold textS
  rw [rawS_take]
  generalize countS s z.toNat = q at *
  obtain ⟨n, t⟩ := q
  dsimp only at hr ⊢
  by_cases he : t.err ≠ 0
  · rw [takeS_bad he, if_pos he]
    unfold txt1; rw [if_pos he]
    show ([], Scn.mk s.rest t.err) = ([], t)
    rw [← hr he]
  · have he0 : t.err = 0 := by omega
    rw [if_neg he]
    by_cases hn : t.rest.length < n
    · rw [takeS_short he0 hn, if_pos hn]
      unfold txt1; rw [if_pos (by simp)]
    · rw [takeS_some he0 (by omega), if_neg hn]
      unfold txt1; rw [if_neg (by simp)]
theorem max0 (z : Int) : (if (0 : Int) > z then 0 else z) = ((z.toNat : Nat) : Int) := by omega
set_option maxRecDepth 100000 in
set_option maxHeartbeats 8000000 in
theorem rdText_own {s : Scn} {g : Nat} {z : Int} (hz : z < 9223372036854775808) (w : World) (h : Rd Lm 97 w g s) (hs : s.rest.length ≤ 1000000) : Calls Tryz.prog 124 #[.pointer (some ⟨g, 0, none⟩), .int .i64 z] w (RawPost Lm 97 g w (textS s z)) := by
  rw [← txt_same]
  have hmx := max0 z
  have hm9 : z.toNat < 9223372036854775808 := by omega
  have hnl := count_le s z.toNat
  have hrl := count_restLe s z.toNat
  have hct := rdCount_any (most := z.toNat) w h
  generalize z.toNat = m at *
  generalize countS s m = q at *
  obtain ⟨n, t⟩ := q
  dsimp only at hnl hrl ⊢
  have hrw := fun w (h : Rd Lm 97 w g t) => rdRaw_own (z := (n : Int)) w h (by omega)
  generalize rawS t (n : Int) = p at *
  obtain ⟨v0, hR0, hV0, hL0⟩ := id h
  have hone := vals_one hV0
  obtain ⟨E, hE⟩ : ∃ E, p.2.err = E := ⟨_, rfl⟩
  unfold txt1
  rw [hE]
  by_cases he : E ≠ 0
  · rw [if_pos he]
    have hq : (!decide ((E : Int) = 0)) = true := by simp; exact he
    clear he
    go_enter Tryz.func124, Tryz.ntmps124
    go_wp2_with (first
      | ((with_reducible change wpList _ _ _ (Oper.mk (some 10) _ _ _ _ _ :: _) _ _); refine kR0 _ g rfl rfl rfl ?_; go_frame)
      | ((with_reducible change wpList _ _ _ (Oper.mk (some 11) _ _ _ _ _ :: _) _ _); refine kLoad1 _ _ _ g 0 _ v0 _ rfl rfl rfl hR0 Tryz.underlying38 rfl rfl ?_; go_frame)
      | ((with_reducible change wpList _ _ _ (Oper.mk (some 14) _ _ _ _ _ :: _) _ _); refine kMaxZ _ _ z 0 (m : Int) hmx rfl rfl rfl rfl ?_; go_frame)
      | ((with_reducible change wpList _ _ _ (Oper.mk (some 15) _ _ _ _ _ :: _) _ _); refine kConvIU _ m (by omega) rfl rfl rfl ?_; go_frame)
      | (go_at_call 75; refine (hct).mono ?_; rintro e w1 ⟨rfl, hR1, hX1⟩; clear hct; change Rd Lm _ _ _ t at hR1; go_frame)
      | ((with_reducible change wpList _ _ _ (Oper.mk (some 19) _ _ _ _ _ :: _) _ _); refine kConvUI _ n (by omega) rfl rfl rfl ?_; go_frame)
      | (go_at_call 92; refine (hrw _ hR1).mono ?_; rintro e w2 ⟨v2, rfl, hV2, hR2, hX2⟩; clear hrw; obtain ⟨v3, hR3, hV3, hL3⟩ := id hR2; rw [hE] at hR3; go_frame)
      | ((with_reducible change wpList _ _ _ (Oper.mk (some 23) _ _ _ _ _ :: _) _ _); refine kR1 _ g rfl rfl rfl ?_; go_frame)
      | ((with_reducible change wpList _ _ _ (Oper.mk (some 24) _ _ _ _ _ :: _) _ _); refine kLoad1 _ _ _ g 1 _ (.int .i64 (E : Int)) _ rfl rfl rfl hR3 Tryz.underlying35 rfl rfl ?_; go_frame)
      | ((with_reducible change wpList _ _ _ (Oper.mk (some 25) _ _ _ _ _ :: _) _ _); refine kNeqI _ _ _ _ .i64 (E : Int) 0 true rfl rfl rfl rfl hq ?_; go_frame)
      | ((with_reducible change wpList _ _ _ (Oper.mk (some 29) _ _ _ _ _ :: _) _ _); refine kR0 _ g rfl rfl rfl ?_; go_frame)
      | ((with_reducible change wpList _ _ _ (Oper.mk none _ _ _ _ _ :: _) _ _); refine kStore1 _ _ _ _ g 0 _ v0 rfl rfl rfl rfl hR3 info_bytesP (show 0 < 2 by decide) hone ?_; intro w4 hR4 hW4; go_frame))
    go_ret
    have hX := (hX1.trans hX2).trans (exc_wrote hW4)
    exact ⟨_, rfl, (exc_wrote hW4).own (own_less hX1.size hV2) h.lt, ⟨v0, hR4, hX.vals h hV0, hL0⟩, hX⟩
  · rw [if_neg he]
    have hq : (!decide ((E : Int) = 0)) = false := by simp; omega
    clear he
    go_enter Tryz.func124, Tryz.ntmps124
    go_wp2_with (first
      | ((with_reducible change wpList _ _ _ (Oper.mk (some 10) _ _ _ _ _ :: _) _ _); refine kR0 _ g rfl rfl rfl ?_; go_frame)
      | ((with_reducible change wpList _ _ _ (Oper.mk (some 11) _ _ _ _ _ :: _) _ _); refine kLoad1 _ _ _ g 0 _ v0 _ rfl rfl rfl hR0 Tryz.underlying38 rfl rfl ?_; go_frame)
      | ((with_reducible change wpList _ _ _ (Oper.mk (some 14) _ _ _ _ _ :: _) _ _); refine kMaxZ _ _ z 0 (m : Int) hmx rfl rfl rfl rfl ?_; go_frame)
      | ((with_reducible change wpList _ _ _ (Oper.mk (some 15) _ _ _ _ _ :: _) _ _); refine kConvIU _ m (by omega) rfl rfl rfl ?_; go_frame)
      | (go_at_call 75; refine (hct).mono ?_; rintro e w1 ⟨rfl, hR1, hX1⟩; clear hct; change Rd Lm _ _ _ t at hR1; go_frame)
      | ((with_reducible change wpList _ _ _ (Oper.mk (some 19) _ _ _ _ _ :: _) _ _); refine kConvUI _ n (by omega) rfl rfl rfl ?_; go_frame)
      | (go_at_call 92; refine (hrw _ hR1).mono ?_; rintro e w2 ⟨v2, rfl, hV2, hR2, hX2⟩; clear hrw; obtain ⟨v3, hR3, hV3, hL3⟩ := id hR2; rw [hE] at hR3; go_frame)
      | ((with_reducible change wpList _ _ _ (Oper.mk (some 23) _ _ _ _ _ :: _) _ _); refine kR1 _ g rfl rfl rfl ?_; go_frame)
      | ((with_reducible change wpList _ _ _ (Oper.mk (some 24) _ _ _ _ _ :: _) _ _); refine kLoad1 _ _ _ g 1 _ (.int .i64 (E : Int)) _ rfl rfl rfl hR3 Tryz.underlying35 rfl rfl ?_; go_frame)
      | ((with_reducible change wpList _ _ _ (Oper.mk (some 25) _ _ _ _ _ :: _) _ _); refine kNeqI _ _ _ _ .i64 (E : Int) 0 false rfl rfl rfl rfl hq ?_; go_frame))
    go_ret
    exact ⟨_, rfl, own_less hX1.size hV2, hR2, hX1.trans hX2⟩
set_option maxRecDepth 100000 in
set_option maxHeartbeats 8000000 in
theorem jTake_own {s : Scn} {g n : Nat} (w : World) (h : Rd Lm 89 w g s) (hn : n ≤ s.rest.length) (hs : s.rest.length ≤ 1000000) : Calls Tryz.prog 82 #[.pointer (some ⟨g, 0, none⟩), .int .i64 (n : Int)] w (RawPost Lm 89 g w (s.rest.take n, ⟨s.rest.drop n, s.err⟩)) := by
  obtain ⟨i, hi, hz, hs1, hby⟩ := b8Info
  have hgw := h.lt
  go_enter Tryz.func82, Tryz.ntmps82
  go_wp2_with (first
    | ((with_reducible change wpList _ _ _ (Oper.mk (some 6) _ _ _ _ _ :: _) _ _); refine kBuildSlice0 _ _ rfl rfl Tryz.underlying38 i hi ?_; intro w1 hRn hz1 hB1; clear hz1; have hO1 : OwnB w1 w.heap.size _ [] := own_empty (Nat.le_refl _) hRn; clear hRn; have h1 := h.below hB1; obtain ⟨v, hR, hV, hL⟩ := id h1; have hsz1 := hB1.size; go_frame)
    | ((with_reducible change wpList _ _ _ (Oper.mk (some 9) _ _ _ _ _ :: _) _ _); refine kS0 _ g rfl rfl rfl ?_; go_frame)
    | ((with_reducible change wpList _ _ _ (Oper.mk (some 10) _ _ _ _ _ :: _) _ _); refine kLoad1 _ _ _ g 0 _ v _ rfl rfl rfl hR Tryz.underlying38 rfl rfl ?_; go_frame)
    | ((with_reducible change wpList _ _ _ (Oper.mk (some 12) _ _ _ _ _ :: _) _ _); refine kSliceTo _ _ v s.rest n hV hn rfl rfl rfl rfl ?_; intro hT; go_frame)
    | ((with_reducible change wpList _ _ _ (Oper.mk (some 13) _ _ _ _ _ :: _) _ _); refine kAppB _ _ rfl rfl w.heap.size _ _ [] (s.rest.take n) hO1 hT rfl rfl (by rw [List.length_take]; simp; omega) hsz1 ?_; intro v2 w2 hO2 hB2; rw [List.nil_append] at hO2; clear h1 hR hV; have hB3 := hB1.trans hB2; have h3 := h.below hB3; obtain ⟨v, hR, hV, hL⟩ := id h3; clear hO1 hT hB1 hB2; go_frame)
    | ((with_reducible change wpList _ _ _ (Oper.mk (some 17) _ _ _ _ _ :: _) _ _); refine kS0 _ g rfl rfl rfl ?_; go_frame)
    | ((with_reducible change wpList _ _ _ (Oper.mk (some 18) _ _ _ _ _ :: _) _ _); refine kLoad1 _ _ _ g 0 _ v _ rfl rfl rfl hR Tryz.underlying38 rfl rfl ?_; go_frame)
    | ((with_reducible change wpList _ _ _ (Oper.mk (some 20) _ _ _ _ _ :: _) _ _); refine kSliceFromB _ _ v s.rest n hV hn rfl rfl rfl rfl ?_; intro hF; go_frame)
    | ((with_reducible change wpList _ _ _ (Oper.mk (some 22) _ _ _ _ _ :: _) _ _); refine kS0 _ g rfl rfl rfl ?_; go_frame)
    | ((with_reducible change wpList _ _ _ (Oper.mk none _ _ _ _ _ :: _) _ _); refine kStore1 _ _ _ _ g 0 _ (fromV v n) rfl rfl rfl rfl hR info_bytesP (show 0 < 2 by decide) (vals_one hF) ?_; intro w4 hR4 hW4; go_frame))
  go_ret
  exact ⟨_, rfl, (exc_wrote hW4).own hO2 hgw, rd_put (t := ⟨s.rest.drop n, s.err⟩) h3 hR4 hW4 hF rfl (hL.from n), (exc_below g hB3).trans (exc_wrote hW4)⟩
set_option maxRecDepth 100000 in
set_option maxHeartbeats 8000000 in
theorem jRaw_own {s : Scn} {g : Nat} {z : Int} (w : World) (h : Rd Lm 89 w g s) (hs : s.rest.length ≤ 1000000) : Calls Tryz.prog 50 #[.pointer (some ⟨g, 0, none⟩), .int .i64 z] w (RawPost Lm 89 g w (rawS s z)) := by
  obtain ⟨i, hi, hz, hs1, hby⟩ := b8Info
  obtain ⟨v, hR, hV, hL⟩ := id h
  obtain ⟨E, hE⟩ : ∃ E, s.err = E := ⟨_, rfl⟩
  obtain ⟨m, hm⟩ : ∃ m, s.rest.length = m := ⟨_, rfl⟩
  rw [hE] at hR
  by_cases he : E ≠ 0
  · rw [raw_bad (by rw [hE]; exact he)]
    have hq : (!decide ((E : Int) = 0)) = true := by simp; exact he
    clear he
    go_enter Tryz.func50, Tryz.ntmps50
    go_wp2_with (first
      | ((with_reducible change wpList _ _ _ (Oper.mk (some 7) _ _ _ _ _ :: _) _ _); refine kS1 _ g rfl rfl rfl ?_; go_frame)
      | ((with_reducible change wpList _ _ _ (Oper.mk (some 8) _ _ _ _ _ :: _) _ _); refine kLoad1 _ _ _ g 1 _ (.int .i64 (E : Int)) _ rfl rfl rfl hR Tryz.underlying3 rfl rfl ?_; go_frame)
      | ((with_reducible change wpList _ _ _ (Oper.mk (some 9) _ _ _ _ _ :: _) _ _); refine kNeqI _ _ _ _ .i64 (E : Int) 0 true rfl rfl rfl rfl hq ?_; go_frame)
      | ((with_reducible change wpList _ _ _ (Oper.mk (some 14) _ _ _ _ _ :: _) _ _); refine kBuildSlice0 _ _ rfl rfl Tryz.underlying38 i hi ?_; intro w5 hR5 hz5 hB5; clear hz5; have hO5 : OwnB w5 _ _ [] := own_empty (Nat.le_refl _) hR5; clear hR5; go_frame))
    go_ret
    exact ⟨_, rfl, hO5, h.below hB5, exc_below g hB5⟩
  have hq : (!decide ((E : Int) = 0)) = false := by simp; omega
  by_cases hz1 : z < 1
  · rw [rawS_low hz1]
    have hd : decide (z < 1) = true := by simp; omega
    clear he hz1
    go_enter Tryz.func50, Tryz.ntmps50
    go_wp2_with (first
      | ((with_reducible change wpList _ _ _ (Oper.mk (some 7) _ _ _ _ _ :: _) _ _); refine kS1 _ g rfl rfl rfl ?_; go_frame)
      | ((with_reducible change wpList _ _ _ (Oper.mk (some 8) _ _ _ _ _ :: _) _ _); refine kLoad1 _ _ _ g 1 _ (.int .i64 (E : Int)) _ rfl rfl rfl hR Tryz.underlying3 rfl rfl ?_; go_frame)
      | ((with_reducible change wpList _ _ _ (Oper.mk (some 9) _ _ _ _ _ :: _) _ _); refine kNeqI _ _ _ _ .i64 (E : Int) 0 false rfl rfl rfl rfl hq ?_; go_frame)
      | ((with_reducible change wpList _ _ _ (Oper.mk (some 12) _ _ _ _ _ :: _) _ _); refine kLssI _ _ _ _ .i64 z 1 true rfl rfl rfl rfl hd ?_; go_frame)
      | ((with_reducible change wpList _ _ _ (Oper.mk (some 14) _ _ _ _ _ :: _) _ _); refine kBuildSlice0 _ _ rfl rfl Tryz.underlying38 i hi ?_; intro w5 hR5 hz5 hB5; clear hz5; have hO5 : OwnB w5 _ _ [] := own_empty (Nat.le_refl _) hR5; clear hR5; go_frame))
    go_ret
    exact ⟨_, rfl, hO5, h.below hB5, exc_below g hB5⟩
  have hd : decide (z < 1) = false := by simp; omega
  obtain ⟨n, rfl⟩ : ∃ n : Nat, z = (n : Int) := ⟨z.toNat, by omega⟩
  rw [rawS_take]
  by_cases hn : m < n
  · rw [takeS_short (by omega) (by omega)]
    have hg2 : decide ((n : Int) > (m : Int)) = true := by simp; omega
    clear he hz1
    go_enter Tryz.func50, Tryz.ntmps50
    go_wp2_with (first
      | ((with_reducible change wpList _ _ _ (Oper.mk (some 7) _ _ _ _ _ :: _) _ _); refine kS1 _ g rfl rfl rfl ?_; go_frame)
      | ((with_reducible change wpList _ _ _ (Oper.mk (some 8) _ _ _ _ _ :: _) _ _); refine kLoad1 _ _ _ g 1 _ (.int .i64 (E : Int)) _ rfl rfl rfl hR Tryz.underlying3 rfl rfl ?_; go_frame)
      | ((with_reducible change wpList _ _ _ (Oper.mk (some 9) _ _ _ _ _ :: _) _ _); refine kNeqI _ _ _ _ .i64 (E : Int) 0 false rfl rfl rfl rfl hq ?_; go_frame)
      | ((with_reducible change wpList _ _ _ (Oper.mk (some 12) _ _ _ _ _ :: _) _ _); refine kLssI _ _ _ _ .i64 (n : Int) 1 false rfl rfl rfl rfl hd ?_; go_frame)
      | ((with_reducible change wpList _ _ _ (Oper.mk (some 18) _ _ _ _ _ :: _) _ _); refine kS0 _ g rfl rfl rfl ?_; go_frame)
      | ((with_reducible change wpList _ _ _ (Oper.mk (some 19) _ _ _ _ _ :: _) _ _); refine kLoad1 _ _ _ g 0 _ v _ rfl rfl rfl hR Tryz.underlying38 rfl rfl ?_; go_frame)
      | ((with_reducible change wpList _ _ _ (Oper.mk (some 20) _ _ _ _ _ :: _) _ _); refine kLenN _ _ _ v _ m rfl rfl rfl hV (by rw [List.length_map, hm]) Tryz.underlying38 ?_; go_frame)
      | ((with_reducible change wpList _ _ _ (Oper.mk (some 21) _ _ _ _ _ :: _) _ _); refine kGtrI _ _ _ _ .i64 (n : Int) (m : Int) true rfl rfl rfl rfl hg2 ?_; go_frame)
      | ((with_reducible change wpList _ _ _ (Oper.mk (some 24) _ _ _ _ _ :: _) _ _); refine kS1 _ g rfl rfl rfl ?_; go_frame)
      | ((with_reducible change wpList _ _ _ (Oper.mk none _ _ _ _ _ :: _) _ _); refine kStore1 _ _ _ _ g 1 _ (.int .i64 61) rfl rfl rfl rfl hR info_intP (show 1 < 2 by decide) rfl ?_; intro w1 hR1 hW1; go_frame)
      | ((with_reducible change wpList _ _ _ (Oper.mk (some 25) _ _ _ _ _ :: _) _ _); refine kBuildSlice0 _ _ rfl rfl Tryz.underlying38 i hi ?_; intro w5 hR5 hz5 hB5; clear hz5; have hO5 : OwnB w5 _ _ [] := own_empty (Nat.le_refl _) hR5; clear hR5; go_frame))
    go_ret
    have h1 : Rd Lm 89 w1 g ⟨s.rest, 61⟩ := rd_put h hR1 hW1 hV rfl hL
    exact ⟨_, rfl, own_less (exc_wrote hW1).size hO5, h1.below hB5, (exc_wrote hW1).trans (exc_below g hB5)⟩
  · rw [takeS_some (by omega) (by omega)]
    have hg2 : decide ((n : Int) > (m : Int)) = false := by simp; omega
    have htk := jTake_own (n := n) w h (by omega) hs
    rw [hE, show E = 0 by omega] at htk
    clear he hz1
    go_enter Tryz.func50, Tryz.ntmps50
    go_wp2_with (first
      | ((with_reducible change wpList _ _ _ (Oper.mk (some 7) _ _ _ _ _ :: _) _ _); refine kS1 _ g rfl rfl rfl ?_; go_frame)
      | ((with_reducible change wpList _ _ _ (Oper.mk (some 8) _ _ _ _ _ :: _) _ _); refine kLoad1 _ _ _ g 1 _ (.int .i64 (E : Int)) _ rfl rfl rfl hR Tryz.underlying3 rfl rfl ?_; go_frame)
      | ((with_reducible change wpList _ _ _ (Oper.mk (some 9) _ _ _ _ _ :: _) _ _); refine kNeqI _ _ _ _ .i64 (E : Int) 0 false rfl rfl rfl rfl hq ?_; go_frame)
      | ((with_reducible change wpList _ _ _ (Oper.mk (some 12) _ _ _ _ _ :: _) _ _); refine kLssI _ _ _ _ .i64 (n : Int) 1 false rfl rfl rfl rfl hd ?_; go_frame)
      | ((with_reducible change wpList _ _ _ (Oper.mk (some 18) _ _ _ _ _ :: _) _ _); refine kS0 _ g rfl rfl rfl ?_; go_frame)
      | ((with_reducible change wpList _ _ _ (Oper.mk (some 19) _ _ _ _ _ :: _) _ _); refine kLoad1 _ _ _ g 0 _ v _ rfl rfl rfl hR Tryz.underlying38 rfl rfl ?_; go_frame)
      | ((with_reducible change wpList _ _ _ (Oper.mk (some 20) _ _ _ _ _ :: _) _ _); refine kLenN _ _ _ v _ m rfl rfl rfl hV (by rw [List.length_map, hm]) Tryz.underlying38 ?_; go_frame)
      | ((with_reducible change wpList _ _ _ (Oper.mk (some 21) _ _ _ _ _ :: _) _ _); refine kGtrI _ _ _ _ .i64 (n : Int) (m : Int) false rfl rfl rfl rfl hg2 ?_; go_frame)
      | (go_at_call 82; refine (htk).mono ?_; rintro e w1 ⟨v1, rfl, hV1, hR1, hX1⟩; clear htk; go_frame))
    go_ret
    exact ⟨_, rfl, hV1, hR1, hX1⟩
theorem jRaw_any {s : Scn} {g : Nat} {z : Int} (w : World) (h : Rd Lm 89 w g s) (hs : s.rest.length ≤ 1000000) : Calls Tryz.prog 50 #[.pointer (some ⟨g, 0, none⟩), .int .i64 z] w (TakePost Lm 89 g w (rawS s z)) := (jRaw_own w h hs).mono RawPost.take
theorem jTake_any {s : Scn} {g n : Nat} (w : World) (h : Rd Lm 89 w g s) (hn : n ≤ s.rest.length) (hs : s.rest.length ≤ 1000000) : Calls Tryz.prog 82 #[.pointer (some ⟨g, 0, none⟩), .int .i64 (n : Int)] w (TakePost Lm 89 g w (s.rest.take n, ⟨s.rest.drop n, s.err⟩)) := (jTake_own w h hn hs).mono RawPost.take
set_option maxRecDepth 100000 in
set_option maxHeartbeats 8000000 in
theorem jFixedOf_any {s : Scn} {g : Nat} {z : Int} (w : World) (h : Rd Lm 89 w g s) (hs : s.rest.length ≤ 1000000) : Calls Tryz.prog 84 #[.pointer (some ⟨g, 0, none⟩), .int .i64 z] w (PNumPost Lm 89 g w (fixedS s z)) := by
  obtain ⟨y, hy⟩ : ∃ y, (if (8 : Int) < z then (8 : Int) else z) = y := ⟨_, rfl⟩
  have e : (if y > (0 : Int) then y else (0 : Int)) = (clampS z : Int) := by unfold clampS; omega
  have hrw := jRaw_any (z := (clampS z : Int)) w h hs
  have hl : (rawS s (clampS z : Int)).1.length ≤ 8 := by rw [rawS_take]; exact Nat.le_trans (takeS_len _ _) (clampS_le z)
  unfold fixedS
  generalize clampS z = S at *
  generalize rawS s (S : Int) = p at *
  go_enter Tryz.func84, Tryz.ntmps84
  go_wp2_with (first
    | ((with_reducible change wpList _ _ _ (Oper.mk (some 7) _ _ _ _ _ :: _) _ _); refine kMinZ _ _ z 8 y hy rfl rfl rfl rfl ?_; go_frame)
    | ((with_reducible change wpList _ _ _ (Oper.mk (some 8) _ _ _ _ _ :: _) _ _); refine kMaxZ _ _ 0 y (S : Int) e rfl rfl rfl rfl ?_; go_frame)
    | (go_at_call 50; refine (hrw).mono ?_; rintro e w1 ⟨v1, rfl, hV1, hR1, hX1⟩; clear hrw; go_frame)
    | (go_at_call 83; refine (jNumber_any _ hV1 hl).mono ?_; rintro e w2 ⟨rfl, rfl⟩; go_frame))
  go_ret
  exact ⟨rfl, hR1, hX1⟩
end Go.Proofs.YtmfjgehlkbndjaaGreatDoor
