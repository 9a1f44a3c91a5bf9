/-
  Layer 6: the walks of the Reader's Text, and of the reference's readers.
-/
import Derived.Test.YtmfjgehlkbndjaaDoorPcCount
namespace Go.Proofs.YtmfjgehlkbndjaaDoor
open Go Go.RowKit
variable {Lm : Nat}

theorem count_le (s : Scn) (m : Nat) : (countS s m).1 ≤ m := by
  unfold countS
  split
  · exact Nat.zero_le _
  · split
    · exact Nat.zero_le _
    · rename_i c r he
      generalize (if fSize c = 0 then c.toNat else numL (r.take (fSize c))) = N
      split
      · exact Nat.zero_le _
      · split
        · exact Nat.zero_le _
        · rename_i h; simp only [not_or, Nat.not_lt] at h; exact h.2
theorem count_errRest (s : Scn) (m : Nat) : (countS s m).2.err ≠ 0 → (countS s m).2.rest = s.rest := by
  unfold countS
  split
  · exact fun _ => rfl
  · split
    · exact fun _ => rfl
    · rename_i c r he
      generalize (if fSize c = 0 then c.toNat else numL (r.take (fSize c))) = N
      split
      · exact fun _ => rfl
      · split
        · exact fun _ => rfl
        · exact fun h => absurd rfl h
theorem count_restLe (s : Scn) (m : Nat) : (countS s m).2.rest.length ≤ s.rest.length := by
  unfold countS
  split
  · exact Nat.le_refl _
  · split
    · exact Nat.le_refl _
    · rename_i c r he
      generalize (if fSize c = 0 then c.toNat else numL (r.take (fSize c))) = N
      split
      · exact Nat.le_refl _
      · split
        · exact Nat.le_refl _
        · show (r.drop _).length ≤ _
          rw [he, List.length_drop, List.length_cons]; omega
/-- what the Reader's Text does, as it is written -/
def txt1 (s : Scn) (p : List UInt8 × Scn) : List UInt8 × Scn := if p.2.err ≠ 0 then (p.1, ⟨s.rest, p.2.err⟩) else p
theorem txt_same (s : Scn) (z : Int) : txt1 s (rawS (countS s z.toNat).2 ((countS s z.toNat).1 : Int)) = textS s z := by
  have hr := count_errRest s z.toNat
  unfold textS
  rw [rawS_take]
  generalize countS s z.toNat = q at *
  obtain ⟨n, t⟩ := q
  dsimp only at hr ⊢
  by_cases he : t.err ≠ 0
  · rw [takeS_bad he, if_pos he]
    unfold txt1; rw [if_pos he]
    show ([], Scn.mk s.rest t.err) = ([], t)
    rw [← hr he]
  · have he0 : t.err = 0 := by omega
    rw [if_neg he]
    by_cases hn : t.rest.length < n
    · rw [takeS_short he0 hn, if_pos hn]
      unfold txt1; rw [if_pos (by simp)]
    · rw [takeS_some he0 (by omega), if_neg hn]
      unfold txt1; rw [if_neg (by simp)]
theorem max0 (z : Int) : (if (0 : Int) > z then 0 else z) = ((z.toNat : Nat) : Int) := by omega
set_option maxRecDepth 100000 in
set_option maxHeartbeats 8000000 in
theorem rdText_own {s : Scn} {g : Nat} {z : Int} (hz : z < 9223372036854775808) (w : World) (h : Rd Lm 76 w g s) (hs : s.rest.length ≤ 1000000) : Calls Tryd.prog 92 #[.pointer (some ⟨g, 0, none⟩), .int .i64 z] w (RawPost Lm 76 g w (textS s z)) := by
  rw [← txt_same]
  have hmx := max0 z
  have hm9 : z.toNat < 9223372036854775808 := by omega
  have hnl := count_le s z.toNat
  have hrl := count_restLe s z.toNat
  have hct := rdCount_any (most := z.toNat) w h
  generalize z.toNat = m at *
  generalize countS s m = q at *
  obtain ⟨n, t⟩ := q
  dsimp only at hnl hrl ⊢
  have hrw := fun w (h : Rd Lm 76 w g t) => rdRaw_own (z := (n : Int)) w h (by omega)
  generalize rawS t (n : Int) = p at *
  obtain ⟨v0, hR0, hV0, hL0⟩ := id h
  have hone := vals_one hV0
  obtain ⟨E, hE⟩ : ∃ E, p.2.err = E := ⟨_, rfl⟩
  unfold txt1
  rw [hE]
  by_cases he : E ≠ 0
  · rw [if_pos he]
    have hq : (!decide ((E : Int) = 0)) = true := by simp; exact he
    clear he
    go_enter Tryd.func92, Tryd.ntmps92
    go_wp2_with (first
      | ((with_reducible change wpList _ _ _ (Oper.mk (some 10) _ _ _ _ _ :: _) _ _); refine kR0 _ g rfl rfl rfl ?_; go_frame)
      | ((with_reducible change wpList _ _ _ (Oper.mk (some 11) _ _ _ _ _ :: _) _ _); refine kLoad1 _ _ _ g 0 _ v0 _ rfl rfl rfl hR0 Tryd.underlying38 rfl rfl ?_; go_frame)
      | ((with_reducible change wpList _ _ _ (Oper.mk (some 14) _ _ _ _ _ :: _) _ _); refine kMaxZ _ _ z 0 (m : Int) hmx rfl rfl rfl rfl ?_; go_frame)
      | ((with_reducible change wpList _ _ _ (Oper.mk (some 15) _ _ _ _ _ :: _) _ _); refine kConvIU _ m (by omega) rfl rfl rfl ?_; go_frame)
      | (go_at_call 30; refine (hct).mono ?_; rintro e w1 ⟨rfl, hR1, hX1⟩; clear hct; change Rd Lm _ _ _ t at hR1; go_frame)
      | ((with_reducible change wpList _ _ _ (Oper.mk (some 19) _ _ _ _ _ :: _) _ _); refine kConvUI _ n (by omega) rfl rfl rfl ?_; go_frame)
      | (go_at_call 55; refine (hrw _ hR1).mono ?_; rintro e w2 ⟨v2, rfl, hV2, hR2, hX2⟩; clear hrw; obtain ⟨v3, hR3, hV3, hL3⟩ := id hR2; rw [hE] at hR3; go_frame)
      | ((with_reducible change wpList _ _ _ (Oper.mk (some 23) _ _ _ _ _ :: _) _ _); refine kR1 _ g rfl rfl rfl ?_; go_frame)
      | ((with_reducible change wpList _ _ _ (Oper.mk (some 24) _ _ _ _ _ :: _) _ _); refine kLoad1 _ _ _ g 1 _ (.int .i64 (E : Int)) _ rfl rfl rfl hR3 Tryd.underlying35 rfl rfl ?_; go_frame)
      | ((with_reducible change wpList _ _ _ (Oper.mk (some 25) _ _ _ _ _ :: _) _ _); refine kNeqI _ _ _ _ .i64 (E : Int) 0 true rfl rfl rfl rfl hq ?_; go_frame)
      | ((with_reducible change wpList _ _ _ (Oper.mk (some 29) _ _ _ _ _ :: _) _ _); refine kR0 _ g rfl rfl rfl ?_; go_frame)
      | ((with_reducible change wpList _ _ _ (Oper.mk none _ _ _ _ _ :: _) _ _); refine kStore1 _ _ _ _ g 0 _ v0 rfl rfl rfl rfl hR3 info_bytesP (show 0 < 2 by decide) hone ?_; intro w4 hR4 hW4; go_frame))
    go_ret
    have hX := (hX1.trans hX2).trans (exc_wrote hW4)
    exact ⟨_, rfl, (exc_wrote hW4).own (own_less hX1.size hV2) h.lt, ⟨v0, hR4, hX.vals h hV0, hL0⟩, hX⟩
  · rw [if_neg he]
    have hq : (!decide ((E : Int) = 0)) = false := by simp; omega
    clear he
    go_enter Tryd.func92, Tryd.ntmps92
    go_wp2_with (first
      | ((with_reducible change wpList _ _ _ (Oper.mk (some 10) _ _ _ _ _ :: _) _ _); refine kR0 _ g rfl rfl rfl ?_; go_frame)
      | ((with_reducible change wpList _ _ _ (Oper.mk (some 11) _ _ _ _ _ :: _) _ _); refine kLoad1 _ _ _ g 0 _ v0 _ rfl rfl rfl hR0 Tryd.underlying38 rfl rfl ?_; go_frame)
      | ((with_reducible change wpList _ _ _ (Oper.mk (some 14) _ _ _ _ _ :: _) _ _); refine kMaxZ _ _ z 0 (m : Int) hmx rfl rfl rfl rfl ?_; go_frame)
      | ((with_reducible change wpList _ _ _ (Oper.mk (some 15) _ _ _ _ _ :: _) _ _); refine kConvIU _ m (by omega) rfl rfl rfl ?_; go_frame)
      | (go_at_call 30; refine (hct).mono ?_; rintro e w1 ⟨rfl, hR1, hX1⟩; clear hct; change Rd Lm _ _ _ t at hR1; go_frame)
      | ((with_reducible change wpList _ _ _ (Oper.mk (some 19) _ _ _ _ _ :: _) _ _); refine kConvUI _ n (by omega) rfl rfl rfl ?_; go_frame)
      | (go_at_call 55; refine (hrw _ hR1).mono ?_; rintro e w2 ⟨v2, rfl, hV2, hR2, hX2⟩; clear hrw; obtain ⟨v3, hR3, hV3, hL3⟩ := id hR2; rw [hE] at hR3; go_frame)
      | ((with_reducible change wpList _ _ _ (Oper.mk (some 23) _ _ _ _ _ :: _) _ _); refine kR1 _ g rfl rfl rfl ?_; go_frame)
      | ((with_reducible change wpList _ _ _ (Oper.mk (some 24) _ _ _ _ _ :: _) _ _); refine kLoad1 _ _ _ g 1 _ (.int .i64 (E : Int)) _ rfl rfl rfl hR3 Tryd.underlying35 rfl rfl ?_; go_frame)
      | ((with_reducible change wpList _ _ _ (Oper.mk (some 25) _ _ _ _ _ :: _) _ _); refine kNeqI _ _ _ _ .i64 (E : Int) 0 false rfl rfl rfl rfl hq ?_; go_frame))
    go_ret
    exact ⟨_, rfl, own_less hX1.size hV2, hR2, hX1.trans hX2⟩
end Go.Proofs.YtmfjgehlkbndjaaDoor
