/-
  Layer 6: the walks of the reference's CountOf and TextOf.
-/
import Derived.Test.YtmfjgehlkbndjaaGreatDoorPcRefRead
namespace Go.Proofs.YtmfjgehlkbndjaaGreatDoor
open Go Go.RowKit
variable {Lm : Nat}

set_option maxRecDepth 100000 in
set_option maxHeartbeats 8000000 in
theorem jCountOf_bad {s : Scn} {g most : Nat} (w : World) (h : Rd Lm 89 w g s) (he : s.err ≠ 0) : Calls Tryz.prog 51 #[.pointer (some ⟨g, 0, none⟩), .int .u64 (most : Int)] w (PNumPost Lm 89 g w (countS s most)) := by
  rw [count_bad he]
  obtain ⟨v, hR, hV, hL⟩ := id h
  obtain ⟨E, hE⟩ : ∃ E, s.err = E := ⟨_, rfl⟩
  rw [hE] at hR he
  have hq : (!decide ((E : Int) = 0)) = true := by simp; exact he
  clear he
  go_enter Tryz.func51, Tryz.ntmps51
  go_wp2_with (first
    | ((with_reducible change wpList _ _ _ (Oper.mk (some 10) _ _ _ _ _ :: _) _ _); refine kS1 _ g rfl rfl rfl ?_; go_frame)
    | ((with_reducible change wpList _ _ _ (Oper.mk (some 11) _ _ _ _ _ :: _) _ _); refine kLoad1 _ _ _ g 1 _ (.int .i64 (E : Int)) _ rfl rfl rfl hR Tryz.underlying3 rfl rfl ?_; go_frame)
    | ((with_reducible change wpList _ _ _ (Oper.mk (some 12) _ _ _ _ _ :: _) _ _); refine kNeqI _ _ _ _ .i64 (E : Int) 0 true rfl rfl rfl rfl hq ?_; go_frame))
  go_ret
  exact ⟨rfl, h, exc_refl _ _⟩
set_option maxRecDepth 100000 in
set_option maxHeartbeats 8000000 in
theorem jCountOf_nil {g most : Nat} (w : World) (h : Rd Lm 89 w g ⟨[], 0⟩) : Calls Tryz.prog 51 #[.pointer (some ⟨g, 0, none⟩), .int .u64 (most : Int)] w (PNumPost Lm 89 g w (0, ⟨[], 61⟩)) := by
  obtain ⟨v, hR, hV, hL⟩ := id h
  change Row w g _ #[v, .int .i64 0] at hR
  go_enter Tryz.func51, Tryz.ntmps51
  go_wp2_with (first
    | ((with_reducible change wpList _ _ _ (Oper.mk (some 10) _ _ _ _ _ :: _) _ _); refine kS1 _ g rfl rfl rfl ?_; go_frame)
    | ((with_reducible change wpList _ _ _ (Oper.mk (some 11) _ _ _ _ _ :: _) _ _); refine kLoad1 _ _ _ g 1 _ (.int .i64 0) _ rfl rfl rfl hR Tryz.underlying3 rfl rfl ?_; go_frame)
    | ((with_reducible change wpList _ _ _ (Oper.mk (some 15) _ _ _ _ _ :: _) _ _); refine kS0 _ g rfl rfl rfl ?_; go_frame)
    | ((with_reducible change wpList _ _ _ (Oper.mk (some 16) _ _ _ _ _ :: _) _ _); refine kLoad1 _ _ _ g 0 _ v _ rfl rfl rfl hR Tryz.underlying38 rfl rfl ?_; go_frame)
    | ((with_reducible change wpList _ _ _ (Oper.mk (some 17) _ _ _ _ _ :: _) _ _); refine kLenN _ _ _ v _ 0 rfl rfl rfl hV rfl Tryz.underlying38 ?_; go_frame)
    | ((with_reducible change wpList _ _ _ (Oper.mk (some 21) _ _ _ _ _ :: _) _ _); refine kS1 _ g rfl rfl rfl ?_; go_frame)
    | ((with_reducible change wpList _ _ _ (Oper.mk none (Op.store _ (Operand.tmp 21) _) _ _ _ _ :: _) _ _); refine kStore1 _ _ _ _ g 1 _ (.int .i64 61) rfl rfl rfl rfl hR info_intP (show 1 < 2 by decide) rfl ?_; intro w1 hR1 hW1; go_frame))
  go_ret
  exact ⟨rfl, rd_put (t := ⟨[], 61⟩) h hR1 hW1 hV rfl hL, exc_wrote hW1⟩
/-- what is read behind a count's first byte -/
def cN (c : UInt8) (r : List UInt8) : Nat := if fSize c = 0 then c.toNat else numL (r.take (fSize c))
theorem countS_cN (c : UInt8) (r : List UInt8) (most : Nat) : countS ⟨c :: r, 0⟩ most = if r.length < fSize c then (0, ⟨c :: r, 61⟩) else if cSize (cN c r) ≠ fSize c ∨ most < cN c r then (0, ⟨c :: r, 62⟩) else (cN c r, ⟨r.drop (fSize c), 0⟩) := countS_cons c r most
theorem cN_lt {c : UInt8} {r : List UInt8} : cN c r < 18446744073709551616 := by
  have hc := c.toNat_lt
  unfold cN; split
  · omega
  · exact numL_lt64 _ (by have := fSize_le c; rw [List.length_take]; omega)
set_option maxRecDepth 100000 in
set_option maxHeartbeats 8000000 in
theorem jCountOf_0 {c : UInt8} {r : List UInt8} {g most : Nat} (hc : c.toNat ≤ 252) (w : World) (h : Rd Lm 89 w g ⟨c :: r, 0⟩) (hs : (c :: r).length ≤ 1000000) : Calls Tryz.prog 51 #[.pointer (some ⟨g, 0, none⟩), .int .u64 (most : Int)] w (PNumPost Lm 89 g w (countS ⟨c :: r, 0⟩ most)) := by
  rw [countS_cN]
  have hN := cN_lt (c := c) (r := r)
  obtain ⟨v, hR, hV, hL⟩ := id h
  change Row w g _ #[v, .int .i64 0] at hR
  change IsVals w v ((c :: r).map VB) at hV
  obtain ⟨m, hml⟩ : ∃ m, (c :: r).length = m := ⟨_, rfl⟩
  have hm : ((c :: r).map VB).length = m := by rw [List.length_map, hml]
  have hrl : r.length + 1 = m := hml
  have hm0 : decide ((m : Int) = 0) = false := by simp; omega
  have hc8 := c.toNat_lt
  have hF : fSize c = 0 := fSize_low hc
  have hnu : cN c r = c.toNat := by unfold cN; rw [if_pos hF]
  have hcs : cSize (cN c r) = 0 := by rw [hnu]; unfold cSize; rw [if_pos hc]
  have hb1 : decide (B c > 252) = false := by unfold B; simp; omega
  have hb2 : decide (B c > 253) = false := by unfold B; simp; omega
  have hb3 : decide (B c > 254) = false := by unfold B; simp; omega
  rw [hF]
  clear hc
  rw [if_neg (show ¬ r.length < 0 by omega)]
  have hsh : decide ((m : Int) < 1) = false := by simp; omega
  have hfl : 1 ≤ (c :: r).length := by omega
  rw [hcs]
  obtain ⟨q, hq1⟩ : ∃ q : Nat, q = 1 := ⟨_, rfl⟩
  have hqe : cSize c.toNat + 1 = q := by rw [← hnu, hcs, hq1]
  rw [hnu] at hN ⊢
  have hne : (!decide ((q : Int) = 1)) = false := by rw [hq1]; decide
  obtain ⟨N, hNe⟩ : ∃ N, c.toNat = N := ⟨_, rfl⟩
  rw [hNe] at hqe hN ⊢
  by_cases hgr : most < N
  · rw [if_pos (.inr hgr)]
    have hgt : decide ((N : Int) > (most : Int)) = true := by simp; omega
    go_enter Tryz.func51, Tryz.ntmps51
    go_wp2_with (first
      | ((with_reducible change wpList _ _ _ (Oper.mk (some 10) _ _ _ _ _ :: _) _ _); refine kS1 _ g rfl rfl rfl ?_; go_frame)
      | ((with_reducible change wpList _ _ _ (Oper.mk (some 11) _ _ _ _ _ :: _) _ _); refine kLoad1 _ _ _ g 1 _ (.int .i64 0) _ rfl rfl rfl hR Tryz.underlying3 rfl rfl ?_; go_frame)
      | ((with_reducible change wpList _ _ _ (Oper.mk (some 15) _ _ _ _ _ :: _) _ _); refine kS0 _ g rfl rfl rfl ?_; go_frame)
      | ((with_reducible change wpList _ _ _ (Oper.mk (some 16) _ _ _ _ _ :: _) _ _); refine kLoad1 _ _ _ g 0 _ v _ rfl rfl rfl hR Tryz.underlying38 rfl rfl ?_; go_frame)
      | ((with_reducible change wpList _ _ _ (Oper.mk (some 17) _ _ _ _ _ :: _) _ _); refine kLenN _ _ _ v _ m rfl rfl rfl hV hm Tryz.underlying38 ?_; go_frame)
      | ((with_reducible change wpList _ _ _ (Oper.mk (some 18) _ _ _ _ _ :: _) _ _); refine kEqlI _ _ _ _ .i64 (m : Int) 0 false rfl rfl rfl rfl hm0 ?_; go_frame)
      | ((with_reducible change wpList _ _ _ (Oper.mk (some 24) _ _ _ _ _ :: _) _ _); refine kS0 _ g rfl rfl rfl ?_; go_frame)
      | ((with_reducible change wpList _ _ _ (Oper.mk (some 25) _ _ _ _ _ :: _) _ _); refine kLoad1 _ _ _ g 0 _ v _ rfl rfl rfl hR Tryz.underlying38 rfl rfl ?_; go_frame)
      | ((with_reducible change wpList _ _ _ (Oper.mk (some 26) _ _ _ _ _ :: _) _ _); refine kIndexAddrV _ _ _ _ .i64 v _ 0 0 (VB c) rfl rfl rfl hV rfl Tryz.underlying38 info_b8P rfl rfl ?_; intro b hb; go_frame)
      | ((with_reducible change wpList _ _ _ (Oper.mk (some 27) _ _ _ _ _ :: _) _ _); refine kLoadCell _ _ b (VB c) _ rfl rfl rfl hb Tryz.underlying5 rfl ?_; clear hb; go_frame)
      | ((with_reducible change wpList _ _ _ (Oper.mk (some 29) _ _ _ _ _ :: _) _ _); refine kGtrI _ _ _ _ .u8 (B c) 252 false rfl rfl rfl rfl hb1 ?_; go_frame)
      | ((with_reducible change wpList _ _ _ (Oper.mk (some 31) _ _ _ _ _ :: _) _ _); refine kGtrI _ _ _ _ .u8 (B c) 253 false rfl rfl rfl rfl hb2 ?_; go_frame)
      | ((with_reducible change wpList _ _ _ (Oper.mk (some 33) _ _ _ _ _ :: _) _ _); refine kGtrI _ _ _ _ .u8 (B c) 254 false rfl rfl rfl rfl hb3 ?_; go_frame)
      | ((with_reducible change wpList _ _ _ (Oper.mk (some 36) _ _ _ _ _ :: _) _ _); refine kS0 _ g rfl rfl rfl ?_; go_frame)
      | ((with_reducible change wpList _ _ _ (Oper.mk (some 37) _ _ _ _ _ :: _) _ _); refine kLoad1 _ _ _ g 0 _ v _ rfl rfl rfl hR Tryz.underlying38 rfl rfl ?_; go_frame)
      | ((with_reducible change wpList _ _ _ (Oper.mk (some 38) _ _ _ _ _ :: _) _ _); refine kLenN _ _ _ v _ m rfl rfl rfl hV hm Tryz.underlying38 ?_; go_frame)
      | ((with_reducible change wpList _ _ _ (Oper.mk (some 41) _ _ _ _ _ :: _) _ _); refine kLssI _ _ _ _ .i64 (m : Int) 1 false rfl rfl rfl rfl hsh ?_; go_frame)
      | ((with_reducible change wpList _ _ _ (Oper.mk (some 46) _ _ _ _ _ :: _) _ _); refine kConvB8 _ c.toNat hc8 rfl rfl rfl ?_; rw [hNe]; go_frame)
      | (go_at_call 44; refine (jCount_any N hN _).mono ?_; rintro e w2 ⟨v2, rfl, hO2, hB2⟩; have h2 := h.below hB2; obtain ⟨v3, hR3, hV3, hL3⟩ := id h2; change Row w2 g _ #[v3, .int .i64 0] at hR3; go_frame)
      | ((with_reducible change wpList _ _ _ (Oper.mk (some 59) _ _ _ _ _ :: _) _ _); refine kLenN _ _ _ v2 _ q rfl rfl rfl hO2.vals (by rw [List.length_map, countL_len, hqe]) Tryz.underlying38 ?_; go_frame)
      | ((with_reducible change wpList _ _ _ (Oper.mk (some 62) _ _ _ _ _ :: _) _ _); refine kNeqI _ _ _ _ .i64 (q : Int) 1 false rfl rfl rfl rfl hne ?_; go_frame)
      | ((with_reducible change wpList _ _ _ (Oper.mk (some 66) _ _ _ _ _ :: _) _ _); refine kGtrI _ _ _ _ .u64 (N : Int) (most : Int) true rfl rfl rfl rfl hgt ?_; go_frame)
      | ((with_reducible change wpList _ _ _ (Oper.mk (some 70) _ _ _ _ _ :: _) _ _); refine kS1 _ g rfl rfl rfl ?_; go_frame)
      | ((with_reducible change wpList _ _ _ (Oper.mk none (Op.store _ (Operand.tmp 70) _) _ _ _ _ :: _) _ _); refine kStore1 _ _ _ _ g 1 _ (.int .i64 62) rfl rfl rfl rfl hR3 info_intP (show 1 < 2 by decide) rfl ?_; intro w4 hR4 hW4; go_frame))
    go_ret
    exact ⟨rfl, rd_put (t := ⟨c :: r, 62⟩) h2 hR4 hW4 hV3 rfl hL3, (exc_below g hB2).trans (exc_wrote hW4)⟩
  · rw [if_neg (by simp only [not_or]; exact ⟨fun h => h rfl, hgr⟩)]
    have hgt : decide ((N : Int) > (most : Int)) = false := by simp; omega
    go_enter Tryz.func51, Tryz.ntmps51
    go_wp2_with (first
      | ((with_reducible change wpList _ _ _ (Oper.mk (some 10) _ _ _ _ _ :: _) _ _); refine kS1 _ g rfl rfl rfl ?_; go_frame)
      | ((with_reducible change wpList _ _ _ (Oper.mk (some 11) _ _ _ _ _ :: _) _ _); refine kLoad1 _ _ _ g 1 _ (.int .i64 0) _ rfl rfl rfl hR Tryz.underlying3 rfl rfl ?_; go_frame)
      | ((with_reducible change wpList _ _ _ (Oper.mk (some 15) _ _ _ _ _ :: _) _ _); refine kS0 _ g rfl rfl rfl ?_; go_frame)
      | ((with_reducible change wpList _ _ _ (Oper.mk (some 16) _ _ _ _ _ :: _) _ _); refine kLoad1 _ _ _ g 0 _ v _ rfl rfl rfl hR Tryz.underlying38 rfl rfl ?_; go_frame)
      | ((with_reducible change wpList _ _ _ (Oper.mk (some 17) _ _ _ _ _ :: _) _ _); refine kLenN _ _ _ v _ m rfl rfl rfl hV hm Tryz.underlying38 ?_; go_frame)
      | ((with_reducible change wpList _ _ _ (Oper.mk (some 18) _ _ _ _ _ :: _) _ _); refine kEqlI _ _ _ _ .i64 (m : Int) 0 false rfl rfl rfl rfl hm0 ?_; go_frame)
      | ((with_reducible change wpList _ _ _ (Oper.mk (some 24) _ _ _ _ _ :: _) _ _); refine kS0 _ g rfl rfl rfl ?_; go_frame)
      | ((with_reducible change wpList _ _ _ (Oper.mk (some 25) _ _ _ _ _ :: _) _ _); refine kLoad1 _ _ _ g 0 _ v _ rfl rfl rfl hR Tryz.underlying38 rfl rfl ?_; go_frame)
      | ((with_reducible change wpList _ _ _ (Oper.mk (some 26) _ _ _ _ _ :: _) _ _); refine kIndexAddrV _ _ _ _ .i64 v _ 0 0 (VB c) rfl rfl rfl hV rfl Tryz.underlying38 info_b8P rfl rfl ?_; intro b hb; go_frame)
      | ((with_reducible change wpList _ _ _ (Oper.mk (some 27) _ _ _ _ _ :: _) _ _); refine kLoadCell _ _ b (VB c) _ rfl rfl rfl hb Tryz.underlying5 rfl ?_; clear hb; go_frame)
      | ((with_reducible change wpList _ _ _ (Oper.mk (some 29) _ _ _ _ _ :: _) _ _); refine kGtrI _ _ _ _ .u8 (B c) 252 false rfl rfl rfl rfl hb1 ?_; go_frame)
      | ((with_reducible change wpList _ _ _ (Oper.mk (some 31) _ _ _ _ _ :: _) _ _); refine kGtrI _ _ _ _ .u8 (B c) 253 false rfl rfl rfl rfl hb2 ?_; go_frame)
      | ((with_reducible change wpList _ _ _ (Oper.mk (some 33) _ _ _ _ _ :: _) _ _); refine kGtrI _ _ _ _ .u8 (B c) 254 false rfl rfl rfl rfl hb3 ?_; go_frame)
      | ((with_reducible change wpList _ _ _ (Oper.mk (some 36) _ _ _ _ _ :: _) _ _); refine kS0 _ g rfl rfl rfl ?_; go_frame)
      | ((with_reducible change wpList _ _ _ (Oper.mk (some 37) _ _ _ _ _ :: _) _ _); refine kLoad1 _ _ _ g 0 _ v _ rfl rfl rfl hR Tryz.underlying38 rfl rfl ?_; go_frame)
      | ((with_reducible change wpList _ _ _ (Oper.mk (some 38) _ _ _ _ _ :: _) _ _); refine kLenN _ _ _ v _ m rfl rfl rfl hV hm Tryz.underlying38 ?_; go_frame)
      | ((with_reducible change wpList _ _ _ (Oper.mk (some 41) _ _ _ _ _ :: _) _ _); refine kLssI _ _ _ _ .i64 (m : Int) 1 false rfl rfl rfl rfl hsh ?_; go_frame)
      | ((with_reducible change wpList _ _ _ (Oper.mk (some 46) _ _ _ _ _ :: _) _ _); refine kConvB8 _ c.toNat hc8 rfl rfl rfl ?_; rw [hNe]; go_frame)
      | (go_at_call 44; refine (jCount_any N hN _).mono ?_; rintro e w2 ⟨v2, rfl, hO2, hB2⟩; have h2 := h.below hB2; obtain ⟨v3, hR3, hV3, hL3⟩ := id h2; change Row w2 g _ #[v3, .int .i64 0] at hR3; go_frame)
      | ((with_reducible change wpList _ _ _ (Oper.mk (some 59) _ _ _ _ _ :: _) _ _); refine kLenN _ _ _ v2 _ q rfl rfl rfl hO2.vals (by rw [List.length_map, countL_len, hqe]) Tryz.underlying38 ?_; go_frame)
      | ((with_reducible change wpList _ _ _ (Oper.mk (some 62) _ _ _ _ _ :: _) _ _); refine kNeqI _ _ _ _ .i64 (q : Int) 1 false rfl rfl rfl rfl hne ?_; go_frame)
      | ((with_reducible change wpList _ _ _ (Oper.mk (some 66) _ _ _ _ _ :: _) _ _); refine kGtrI _ _ _ _ .u64 (N : Int) (most : Int) false rfl rfl rfl rfl hgt ?_; go_frame)
      | (go_at_call 82; refine (jTake_any (n := 1) _ h2 hfl hs).mono ?_; rintro e w4 ⟨v4, rfl, hV4, hR4, hX4⟩; go_frame))
    go_ret
    exact ⟨rfl, hR4, (exc_below g hB2).trans hX4⟩
set_option maxRecDepth 100000 in
set_option maxHeartbeats 8000000 in
theorem jCountOf_2 {c : UInt8} {r : List UInt8} {g most : Nat} (hc : c = 253) (w : World) (h : Rd Lm 89 w g ⟨c :: r, 0⟩) (hs : (c :: r).length ≤ 1000000) : Calls Tryz.prog 51 #[.pointer (some ⟨g, 0, none⟩), .int .u64 (most : Int)] w (PNumPost Lm 89 g w (countS ⟨c :: r, 0⟩ most)) := by
  rw [countS_cN]
  have hN := cN_lt (c := c) (r := r)
  obtain ⟨v, hR, hV, hL⟩ := id h
  change Row w g _ #[v, .int .i64 0] at hR
  change IsVals w v ((c :: r).map VB) at hV
  obtain ⟨m, hml⟩ : ∃ m, (c :: r).length = m := ⟨_, rfl⟩
  have hm : ((c :: r).map VB).length = m := by rw [List.length_map, hml]
  have hrl : r.length + 1 = m := hml
  have hm0 : decide ((m : Int) = 0) = false := by simp; omega
  have hc8 := c.toNat_lt
  have hF : fSize c = 2 := by rw [hc]; decide
  have hnu : numL (((c :: r).take 3).drop 1) = cN c r := by unfold cN; rw [if_neg (by rw [hF]; decide), hF]; rfl
  have h8 : (((c :: r).take 3).drop 1).length ≤ 8 := by rw [List.length_drop, List.length_take]; omega
  have hb1 : decide (B c > 252) = true := by rw [hc]; decide
  have hb2 : decide (B c > 253) = false := by rw [hc]; decide
  have hb3 : decide (B c > 254) = false := by rw [hc]; decide
  rw [hF]
  clear hc
  by_cases hlt : r.length < 2
  · rw [if_pos hlt]
    have hsh : decide ((m : Int) < 3) = true := by simp; omega
    clear hnu hN
    go_enter Tryz.func51, Tryz.ntmps51
    go_wp2_with (first
      | ((with_reducible change wpList _ _ _ (Oper.mk (some 10) _ _ _ _ _ :: _) _ _); refine kS1 _ g rfl rfl rfl ?_; go_frame)
      | ((with_reducible change wpList _ _ _ (Oper.mk (some 11) _ _ _ _ _ :: _) _ _); refine kLoad1 _ _ _ g 1 _ (.int .i64 0) _ rfl rfl rfl hR Tryz.underlying3 rfl rfl ?_; go_frame)
      | ((with_reducible change wpList _ _ _ (Oper.mk (some 15) _ _ _ _ _ :: _) _ _); refine kS0 _ g rfl rfl rfl ?_; go_frame)
      | ((with_reducible change wpList _ _ _ (Oper.mk (some 16) _ _ _ _ _ :: _) _ _); refine kLoad1 _ _ _ g 0 _ v _ rfl rfl rfl hR Tryz.underlying38 rfl rfl ?_; go_frame)
      | ((with_reducible change wpList _ _ _ (Oper.mk (some 17) _ _ _ _ _ :: _) _ _); refine kLenN _ _ _ v _ m rfl rfl rfl hV hm Tryz.underlying38 ?_; go_frame)
      | ((with_reducible change wpList _ _ _ (Oper.mk (some 18) _ _ _ _ _ :: _) _ _); refine kEqlI _ _ _ _ .i64 (m : Int) 0 false rfl rfl rfl rfl hm0 ?_; go_frame)
      | ((with_reducible change wpList _ _ _ (Oper.mk (some 24) _ _ _ _ _ :: _) _ _); refine kS0 _ g rfl rfl rfl ?_; go_frame)
      | ((with_reducible change wpList _ _ _ (Oper.mk (some 25) _ _ _ _ _ :: _) _ _); refine kLoad1 _ _ _ g 0 _ v _ rfl rfl rfl hR Tryz.underlying38 rfl rfl ?_; go_frame)
      | ((with_reducible change wpList _ _ _ (Oper.mk (some 26) _ _ _ _ _ :: _) _ _); refine kIndexAddrV _ _ _ _ .i64 v _ 0 0 (VB c) rfl rfl rfl hV rfl Tryz.underlying38 info_b8P rfl rfl ?_; intro b hb; go_frame)
      | ((with_reducible change wpList _ _ _ (Oper.mk (some 27) _ _ _ _ _ :: _) _ _); refine kLoadCell _ _ b (VB c) _ rfl rfl rfl hb Tryz.underlying5 rfl ?_; clear hb; go_frame)
      | ((with_reducible change wpList _ _ _ (Oper.mk (some 29) _ _ _ _ _ :: _) _ _); refine kGtrI _ _ _ _ .u8 (B c) 252 true rfl rfl rfl rfl hb1 ?_; go_frame)
      | ((with_reducible change wpList _ _ _ (Oper.mk (some 31) _ _ _ _ _ :: _) _ _); refine kGtrI _ _ _ _ .u8 (B c) 253 false rfl rfl rfl rfl hb2 ?_; go_frame)
      | ((with_reducible change wpList _ _ _ (Oper.mk (some 33) _ _ _ _ _ :: _) _ _); refine kGtrI _ _ _ _ .u8 (B c) 254 false rfl rfl rfl rfl hb3 ?_; go_frame)
      | ((with_reducible change wpList _ _ _ (Oper.mk (some 36) _ _ _ _ _ :: _) _ _); refine kS0 _ g rfl rfl rfl ?_; go_frame)
      | ((with_reducible change wpList _ _ _ (Oper.mk (some 37) _ _ _ _ _ :: _) _ _); refine kLoad1 _ _ _ g 0 _ v _ rfl rfl rfl hR Tryz.underlying38 rfl rfl ?_; go_frame)
      | ((with_reducible change wpList _ _ _ (Oper.mk (some 38) _ _ _ _ _ :: _) _ _); refine kLenN _ _ _ v _ m rfl rfl rfl hV hm Tryz.underlying38 ?_; go_frame)
      | ((with_reducible change wpList _ _ _ (Oper.mk (some 41) _ _ _ _ _ :: _) _ _); refine kLssI _ _ _ _ .i64 (m : Int) 3 true rfl rfl rfl rfl hsh ?_; go_frame)
      | ((with_reducible change wpList _ _ _ (Oper.mk (some 44) _ _ _ _ _ :: _) _ _); refine kS1 _ g rfl rfl rfl ?_; go_frame)
      | ((with_reducible change wpList _ _ _ (Oper.mk none (Op.store _ (Operand.tmp 44) _) _ _ _ _ :: _) _ _); refine kStore1 _ _ _ _ g 1 _ (.int .i64 61) rfl rfl rfl rfl hR info_intP (show 1 < 2 by decide) rfl ?_; intro w1 hR1 hW1; go_frame))
    go_ret
    exact ⟨rfl, rd_put (t := ⟨c :: r, 61⟩) h hR1 hW1 hV rfl hL, exc_wrote hW1⟩
  rw [if_neg (show ¬ r.length < 2 by omega)]
  have hsh : decide ((m : Int) < 3) = false := by simp; omega
  have hfl : 3 ≤ (c :: r).length := by omega
  obtain ⟨N, hNe⟩ : ∃ N, cN c r = N := ⟨_, rfl⟩
  rw [hNe] at hN hnu ⊢
  obtain ⟨q, hqe⟩ : ∃ q, cSize N + 1 = q := ⟨_, rfl⟩
  by_cases hcf : cSize N ≠ 2
  · rw [if_pos (.inl hcf)]
    have hne : (!decide ((q : Int) = 3)) = true := by simp; omega
    clear hcf
    go_enter Tryz.func51, Tryz.ntmps51
    go_wp2_with (first
      | ((with_reducible change wpList _ _ _ (Oper.mk (some 10) _ _ _ _ _ :: _) _ _); refine kS1 _ g rfl rfl rfl ?_; go_frame)
      | ((with_reducible change wpList _ _ _ (Oper.mk (some 11) _ _ _ _ _ :: _) _ _); refine kLoad1 _ _ _ g 1 _ (.int .i64 0) _ rfl rfl rfl hR Tryz.underlying3 rfl rfl ?_; go_frame)
      | ((with_reducible change wpList _ _ _ (Oper.mk (some 15) _ _ _ _ _ :: _) _ _); refine kS0 _ g rfl rfl rfl ?_; go_frame)
      | ((with_reducible change wpList _ _ _ (Oper.mk (some 16) _ _ _ _ _ :: _) _ _); refine kLoad1 _ _ _ g 0 _ v _ rfl rfl rfl hR Tryz.underlying38 rfl rfl ?_; go_frame)
      | ((with_reducible change wpList _ _ _ (Oper.mk (some 17) _ _ _ _ _ :: _) _ _); refine kLenN _ _ _ v _ m rfl rfl rfl hV hm Tryz.underlying38 ?_; go_frame)
      | ((with_reducible change wpList _ _ _ (Oper.mk (some 18) _ _ _ _ _ :: _) _ _); refine kEqlI _ _ _ _ .i64 (m : Int) 0 false rfl rfl rfl rfl hm0 ?_; go_frame)
      | ((with_reducible change wpList _ _ _ (Oper.mk (some 24) _ _ _ _ _ :: _) _ _); refine kS0 _ g rfl rfl rfl ?_; go_frame)
      | ((with_reducible change wpList _ _ _ (Oper.mk (some 25) _ _ _ _ _ :: _) _ _); refine kLoad1 _ _ _ g 0 _ v _ rfl rfl rfl hR Tryz.underlying38 rfl rfl ?_; go_frame)
      | ((with_reducible change wpList _ _ _ (Oper.mk (some 26) _ _ _ _ _ :: _) _ _); refine kIndexAddrV _ _ _ _ .i64 v _ 0 0 (VB c) rfl rfl rfl hV rfl Tryz.underlying38 info_b8P rfl rfl ?_; intro b hb; go_frame)
      | ((with_reducible change wpList _ _ _ (Oper.mk (some 27) _ _ _ _ _ :: _) _ _); refine kLoadCell _ _ b (VB c) _ rfl rfl rfl hb Tryz.underlying5 rfl ?_; clear hb; go_frame)
      | ((with_reducible change wpList _ _ _ (Oper.mk (some 29) _ _ _ _ _ :: _) _ _); refine kGtrI _ _ _ _ .u8 (B c) 252 true rfl rfl rfl rfl hb1 ?_; go_frame)
      | ((with_reducible change wpList _ _ _ (Oper.mk (some 31) _ _ _ _ _ :: _) _ _); refine kGtrI _ _ _ _ .u8 (B c) 253 false rfl rfl rfl rfl hb2 ?_; go_frame)
      | ((with_reducible change wpList _ _ _ (Oper.mk (some 33) _ _ _ _ _ :: _) _ _); refine kGtrI _ _ _ _ .u8 (B c) 254 false rfl rfl rfl rfl hb3 ?_; go_frame)
      | ((with_reducible change wpList _ _ _ (Oper.mk (some 36) _ _ _ _ _ :: _) _ _); refine kS0 _ g rfl rfl rfl ?_; go_frame)
      | ((with_reducible change wpList _ _ _ (Oper.mk (some 37) _ _ _ _ _ :: _) _ _); refine kLoad1 _ _ _ g 0 _ v _ rfl rfl rfl hR Tryz.underlying38 rfl rfl ?_; go_frame)
      | ((with_reducible change wpList _ _ _ (Oper.mk (some 38) _ _ _ _ _ :: _) _ _); refine kLenN _ _ _ v _ m rfl rfl rfl hV hm Tryz.underlying38 ?_; go_frame)
      | ((with_reducible change wpList _ _ _ (Oper.mk (some 41) _ _ _ _ _ :: _) _ _); refine kLssI _ _ _ _ .i64 (m : Int) 3 false rfl rfl rfl rfl hsh ?_; go_frame)
      | ((with_reducible change wpList _ _ _ (Oper.mk (some 46) _ _ _ _ _ :: _) _ _); refine kConvB8 _ c.toNat hc8 rfl rfl rfl ?_; go_frame)
      | ((with_reducible change wpList _ _ _ (Oper.mk (some 51) _ _ _ _ _ :: _) _ _); refine kS0 _ g rfl rfl rfl ?_; go_frame)
      | ((with_reducible change wpList _ _ _ (Oper.mk (some 52) _ _ _ _ _ :: _) _ _); refine kLoad1 _ _ _ g 0 _ v _ rfl rfl rfl hR Tryz.underlying38 rfl rfl ?_; go_frame)
      | ((with_reducible change wpList _ _ _ (Oper.mk (some 55) _ _ _ _ _ :: _) _ _); refine kSliceLH _ _ _ v (c :: r) 1 3 hV (by decide) hfl rfl rfl rfl rfl rfl ?_; intro u hU; go_frame)
      | (go_at_call 83; refine (jNumber_any _ hU h8).mono ?_; rintro e w9 ⟨rfl, rfl⟩; rw [hnu]; clear hU; go_frame)
      | (go_at_call 44; refine (jCount_any N hN _).mono ?_; rintro e w2 ⟨v2, rfl, hO2, hB2⟩; have h2 := h.below hB2; obtain ⟨v3, hR3, hV3, hL3⟩ := id h2; change Row w2 g _ #[v3, .int .i64 0] at hR3; go_frame)
      | ((with_reducible change wpList _ _ _ (Oper.mk (some 59) _ _ _ _ _ :: _) _ _); refine kLenN _ _ _ v2 _ q rfl rfl rfl hO2.vals (by rw [List.length_map, countL_len, hqe]) Tryz.underlying38 ?_; go_frame)
      | ((with_reducible change wpList _ _ _ (Oper.mk (some 62) _ _ _ _ _ :: _) _ _); refine kNeqI _ _ _ _ .i64 (q : Int) 3 true rfl rfl rfl rfl hne ?_; go_frame)
      | ((with_reducible change wpList _ _ _ (Oper.mk (some 70) _ _ _ _ _ :: _) _ _); refine kS1 _ g rfl rfl rfl ?_; go_frame)
      | ((with_reducible change wpList _ _ _ (Oper.mk none (Op.store _ (Operand.tmp 70) _) _ _ _ _ :: _) _ _); refine kStore1 _ _ _ _ g 1 _ (.int .i64 62) rfl rfl rfl rfl hR3 info_intP (show 1 < 2 by decide) rfl ?_; intro w4 hR4 hW4; go_frame))
    go_ret
    exact ⟨rfl, rd_put (t := ⟨c :: r, 62⟩) h2 hR4 hW4 hV3 rfl hL3, (exc_below g hB2).trans (exc_wrote hW4)⟩
  have hne : (!decide ((q : Int) = 3)) = false := by simp; omega
  by_cases hgr : most < N
  · rw [if_pos (.inr hgr)]
    have hgt : decide ((N : Int) > (most : Int)) = true := by simp; omega
    go_enter Tryz.func51, Tryz.ntmps51
    go_wp2_with (first
      | ((with_reducible change wpList _ _ _ (Oper.mk (some 10) _ _ _ _ _ :: _) _ _); refine kS1 _ g rfl rfl rfl ?_; go_frame)
      | ((with_reducible change wpList _ _ _ (Oper.mk (some 11) _ _ _ _ _ :: _) _ _); refine kLoad1 _ _ _ g 1 _ (.int .i64 0) _ rfl rfl rfl hR Tryz.underlying3 rfl rfl ?_; go_frame)
      | ((with_reducible change wpList _ _ _ (Oper.mk (some 15) _ _ _ _ _ :: _) _ _); refine kS0 _ g rfl rfl rfl ?_; go_frame)
      | ((with_reducible change wpList _ _ _ (Oper.mk (some 16) _ _ _ _ _ :: _) _ _); refine kLoad1 _ _ _ g 0 _ v _ rfl rfl rfl hR Tryz.underlying38 rfl rfl ?_; go_frame)
      | ((with_reducible change wpList _ _ _ (Oper.mk (some 17) _ _ _ _ _ :: _) _ _); refine kLenN _ _ _ v _ m rfl rfl rfl hV hm Tryz.underlying38 ?_; go_frame)
      | ((with_reducible change wpList _ _ _ (Oper.mk (some 18) _ _ _ _ _ :: _) _ _); refine kEqlI _ _ _ _ .i64 (m : Int) 0 false rfl rfl rfl rfl hm0 ?_; go_frame)
      | ((with_reducible change wpList _ _ _ (Oper.mk (some 24) _ _ _ _ _ :: _) _ _); refine kS0 _ g rfl rfl rfl ?_; go_frame)
      | ((with_reducible change wpList _ _ _ (Oper.mk (some 25) _ _ _ _ _ :: _) _ _); refine kLoad1 _ _ _ g 0 _ v _ rfl rfl rfl hR Tryz.underlying38 rfl rfl ?_; go_frame)
      | ((with_reducible change wpList _ _ _ (Oper.mk (some 26) _ _ _ _ _ :: _) _ _); refine kIndexAddrV _ _ _ _ .i64 v _ 0 0 (VB c) rfl rfl rfl hV rfl Tryz.underlying38 info_b8P rfl rfl ?_; intro b hb; go_frame)
      | ((with_reducible change wpList _ _ _ (Oper.mk (some 27) _ _ _ _ _ :: _) _ _); refine kLoadCell _ _ b (VB c) _ rfl rfl rfl hb Tryz.underlying5 rfl ?_; clear hb; go_frame)
      | ((with_reducible change wpList _ _ _ (Oper.mk (some 29) _ _ _ _ _ :: _) _ _); refine kGtrI _ _ _ _ .u8 (B c) 252 true rfl rfl rfl rfl hb1 ?_; go_frame)
      | ((with_reducible change wpList _ _ _ (Oper.mk (some 31) _ _ _ _ _ :: _) _ _); refine kGtrI _ _ _ _ .u8 (B c) 253 false rfl rfl rfl rfl hb2 ?_; go_frame)
      | ((with_reducible change wpList _ _ _ (Oper.mk (some 33) _ _ _ _ _ :: _) _ _); refine kGtrI _ _ _ _ .u8 (B c) 254 false rfl rfl rfl rfl hb3 ?_; go_frame)
      | ((with_reducible change wpList _ _ _ (Oper.mk (some 36) _ _ _ _ _ :: _) _ _); refine kS0 _ g rfl rfl rfl ?_; go_frame)
      | ((with_reducible change wpList _ _ _ (Oper.mk (some 37) _ _ _ _ _ :: _) _ _); refine kLoad1 _ _ _ g 0 _ v _ rfl rfl rfl hR Tryz.underlying38 rfl rfl ?_; go_frame)
      | ((with_reducible change wpList _ _ _ (Oper.mk (some 38) _ _ _ _ _ :: _) _ _); refine kLenN _ _ _ v _ m rfl rfl rfl hV hm Tryz.underlying38 ?_; go_frame)
      | ((with_reducible change wpList _ _ _ (Oper.mk (some 41) _ _ _ _ _ :: _) _ _); refine kLssI _ _ _ _ .i64 (m : Int) 3 false rfl rfl rfl rfl hsh ?_; go_frame)
      | ((with_reducible change wpList _ _ _ (Oper.mk (some 46) _ _ _ _ _ :: _) _ _); refine kConvB8 _ c.toNat hc8 rfl rfl rfl ?_; go_frame)
      | ((with_reducible change wpList _ _ _ (Oper.mk (some 51) _ _ _ _ _ :: _) _ _); refine kS0 _ g rfl rfl rfl ?_; go_frame)
      | ((with_reducible change wpList _ _ _ (Oper.mk (some 52) _ _ _ _ _ :: _) _ _); refine kLoad1 _ _ _ g 0 _ v _ rfl rfl rfl hR Tryz.underlying38 rfl rfl ?_; go_frame)
      | ((with_reducible change wpList _ _ _ (Oper.mk (some 55) _ _ _ _ _ :: _) _ _); refine kSliceLH _ _ _ v (c :: r) 1 3 hV (by decide) hfl rfl rfl rfl rfl rfl ?_; intro u hU; go_frame)
      | (go_at_call 83; refine (jNumber_any _ hU h8).mono ?_; rintro e w9 ⟨rfl, rfl⟩; rw [hnu]; clear hU; go_frame)
      | (go_at_call 44; refine (jCount_any N hN _).mono ?_; rintro e w2 ⟨v2, rfl, hO2, hB2⟩; have h2 := h.below hB2; obtain ⟨v3, hR3, hV3, hL3⟩ := id h2; change Row w2 g _ #[v3, .int .i64 0] at hR3; go_frame)
      | ((with_reducible change wpList _ _ _ (Oper.mk (some 59) _ _ _ _ _ :: _) _ _); refine kLenN _ _ _ v2 _ q rfl rfl rfl hO2.vals (by rw [List.length_map, countL_len, hqe]) Tryz.underlying38 ?_; go_frame)
      | ((with_reducible change wpList _ _ _ (Oper.mk (some 62) _ _ _ _ _ :: _) _ _); refine kNeqI _ _ _ _ .i64 (q : Int) 3 false rfl rfl rfl rfl hne ?_; go_frame)
      | ((with_reducible change wpList _ _ _ (Oper.mk (some 66) _ _ _ _ _ :: _) _ _); refine kGtrI _ _ _ _ .u64 (N : Int) (most : Int) true rfl rfl rfl rfl hgt ?_; go_frame)
      | ((with_reducible change wpList _ _ _ (Oper.mk (some 70) _ _ _ _ _ :: _) _ _); refine kS1 _ g rfl rfl rfl ?_; go_frame)
      | ((with_reducible change wpList _ _ _ (Oper.mk none (Op.store _ (Operand.tmp 70) _) _ _ _ _ :: _) _ _); refine kStore1 _ _ _ _ g 1 _ (.int .i64 62) rfl rfl rfl rfl hR3 info_intP (show 1 < 2 by decide) rfl ?_; intro w4 hR4 hW4; go_frame))
    go_ret
    exact ⟨rfl, rd_put (t := ⟨c :: r, 62⟩) h2 hR4 hW4 hV3 rfl hL3, (exc_below g hB2).trans (exc_wrote hW4)⟩
  · rw [if_neg (by simp only [not_or]; exact ⟨hcf, hgr⟩)]
    have hgt : decide ((N : Int) > (most : Int)) = false := by simp; omega
    go_enter Tryz.func51, Tryz.ntmps51
    go_wp2_with (first
      | ((with_reducible change wpList _ _ _ (Oper.mk (some 10) _ _ _ _ _ :: _) _ _); refine kS1 _ g rfl rfl rfl ?_; go_frame)
      | ((with_reducible change wpList _ _ _ (Oper.mk (some 11) _ _ _ _ _ :: _) _ _); refine kLoad1 _ _ _ g 1 _ (.int .i64 0) _ rfl rfl rfl hR Tryz.underlying3 rfl rfl ?_; go_frame)
      | ((with_reducible change wpList _ _ _ (Oper.mk (some 15) _ _ _ _ _ :: _) _ _); refine kS0 _ g rfl rfl rfl ?_; go_frame)
      | ((with_reducible change wpList _ _ _ (Oper.mk (some 16) _ _ _ _ _ :: _) _ _); refine kLoad1 _ _ _ g 0 _ v _ rfl rfl rfl hR Tryz.underlying38 rfl rfl ?_; go_frame)
      | ((with_reducible change wpList _ _ _ (Oper.mk (some 17) _ _ _ _ _ :: _) _ _); refine kLenN _ _ _ v _ m rfl rfl rfl hV hm Tryz.underlying38 ?_; go_frame)
      | ((with_reducible change wpList _ _ _ (Oper.mk (some 18) _ _ _ _ _ :: _) _ _); refine kEqlI _ _ _ _ .i64 (m : Int) 0 false rfl rfl rfl rfl hm0 ?_; go_frame)
      | ((with_reducible change wpList _ _ _ (Oper.mk (some 24) _ _ _ _ _ :: _) _ _); refine kS0 _ g rfl rfl rfl ?_; go_frame)
      | ((with_reducible change wpList _ _ _ (Oper.mk (some 25) _ _ _ _ _ :: _) _ _); refine kLoad1 _ _ _ g 0 _ v _ rfl rfl rfl hR Tryz.underlying38 rfl rfl ?_; go_frame)
      | ((with_reducible change wpList _ _ _ (Oper.mk (some 26) _ _ _ _ _ :: _) _ _); refine kIndexAddrV _ _ _ _ .i64 v _ 0 0 (VB c) rfl rfl rfl hV rfl Tryz.underlying38 info_b8P rfl rfl ?_; intro b hb; go_frame)
      | ((with_reducible change wpList _ _ _ (Oper.mk (some 27) _ _ _ _ _ :: _) _ _); refine kLoadCell _ _ b (VB c) _ rfl rfl rfl hb Tryz.underlying5 rfl ?_; clear hb; go_frame)
      | ((with_reducible change wpList _ _ _ (Oper.mk (some 29) _ _ _ _ _ :: _) _ _); refine kGtrI _ _ _ _ .u8 (B c) 252 true rfl rfl rfl rfl hb1 ?_; go_frame)
      | ((with_reducible change wpList _ _ _ (Oper.mk (some 31) _ _ _ _ _ :: _) _ _); refine kGtrI _ _ _ _ .u8 (B c) 253 false rfl rfl rfl rfl hb2 ?_; go_frame)
      | ((with_reducible change wpList _ _ _ (Oper.mk (some 33) _ _ _ _ _ :: _) _ _); refine kGtrI _ _ _ _ .u8 (B c) 254 false rfl rfl rfl rfl hb3 ?_; go_frame)
      | ((with_reducible change wpList _ _ _ (Oper.mk (some 36) _ _ _ _ _ :: _) _ _); refine kS0 _ g rfl rfl rfl ?_; go_frame)
      | ((with_reducible change wpList _ _ _ (Oper.mk (some 37) _ _ _ _ _ :: _) _ _); refine kLoad1 _ _ _ g 0 _ v _ rfl rfl rfl hR Tryz.underlying38 rfl rfl ?_; go_frame)
      | ((with_reducible change wpList _ _ _ (Oper.mk (some 38) _ _ _ _ _ :: _) _ _); refine kLenN _ _ _ v _ m rfl rfl rfl hV hm Tryz.underlying38 ?_; go_frame)
      | ((with_reducible change wpList _ _ _ (Oper.mk (some 41) _ _ _ _ _ :: _) _ _); refine kLssI _ _ _ _ .i64 (m : Int) 3 false rfl rfl rfl rfl hsh ?_; go_frame)
      | ((with_reducible change wpList _ _ _ (Oper.mk (some 46) _ _ _ _ _ :: _) _ _); refine kConvB8 _ c.toNat hc8 rfl rfl rfl ?_; go_frame)
      | ((with_reducible change wpList _ _ _ (Oper.mk (some 51) _ _ _ _ _ :: _) _ _); refine kS0 _ g rfl rfl rfl ?_; go_frame)
      | ((with_reducible change wpList _ _ _ (Oper.mk (some 52) _ _ _ _ _ :: _) _ _); refine kLoad1 _ _ _ g 0 _ v _ rfl rfl rfl hR Tryz.underlying38 rfl rfl ?_; go_frame)
      | ((with_reducible change wpList _ _ _ (Oper.mk (some 55) _ _ _ _ _ :: _) _ _); refine kSliceLH _ _ _ v (c :: r) 1 3 hV (by decide) hfl rfl rfl rfl rfl rfl ?_; intro u hU; go_frame)
      | (go_at_call 83; refine (jNumber_any _ hU h8).mono ?_; rintro e w9 ⟨rfl, rfl⟩; rw [hnu]; clear hU; go_frame)
      | (go_at_call 44; refine (jCount_any N hN _).mono ?_; rintro e w2 ⟨v2, rfl, hO2, hB2⟩; have h2 := h.below hB2; obtain ⟨v3, hR3, hV3, hL3⟩ := id h2; change Row w2 g _ #[v3, .int .i64 0] at hR3; go_frame)
      | ((with_reducible change wpList _ _ _ (Oper.mk (some 59) _ _ _ _ _ :: _) _ _); refine kLenN _ _ _ v2 _ q rfl rfl rfl hO2.vals (by rw [List.length_map, countL_len, hqe]) Tryz.underlying38 ?_; go_frame)
      | ((with_reducible change wpList _ _ _ (Oper.mk (some 62) _ _ _ _ _ :: _) _ _); refine kNeqI _ _ _ _ .i64 (q : Int) 3 false rfl rfl rfl rfl hne ?_; go_frame)
      | ((with_reducible change wpList _ _ _ (Oper.mk (some 66) _ _ _ _ _ :: _) _ _); refine kGtrI _ _ _ _ .u64 (N : Int) (most : Int) false rfl rfl rfl rfl hgt ?_; go_frame)
      | (go_at_call 82; refine (jTake_any (n := 3) _ h2 hfl hs).mono ?_; rintro e w4 ⟨v4, rfl, hV4, hR4, hX4⟩; go_frame))
    go_ret
    exact ⟨rfl, hR4, (exc_below g hB2).trans hX4⟩
set_option maxRecDepth 100000 in
set_option maxHeartbeats 8000000 in
theorem jCountOf_4 {c : UInt8} {r : List UInt8} {g most : Nat} (hc : c = 254) (w : World) (h : Rd Lm 89 w g ⟨c :: r, 0⟩) (hs : (c :: r).length ≤ 1000000) : Calls Tryz.prog 51 #[.pointer (some ⟨g, 0, none⟩), .int .u64 (most : Int)] w (PNumPost Lm 89 g w (countS ⟨c :: r, 0⟩ most)) := by
  rw [countS_cN]
  have hN := cN_lt (c := c) (r := r)
  obtain ⟨v, hR, hV, hL⟩ := id h
  change Row w g _ #[v, .int .i64 0] at hR
  change IsVals w v ((c :: r).map VB) at hV
  obtain ⟨m, hml⟩ : ∃ m, (c :: r).length = m := ⟨_, rfl⟩
  have hm : ((c :: r).map VB).length = m := by rw [List.length_map, hml]
  have hrl : r.length + 1 = m := hml
  have hm0 : decide ((m : Int) = 0) = false := by simp; omega
  have hc8 := c.toNat_lt
  have hF : fSize c = 4 := by rw [hc]; decide
  have hnu : numL (((c :: r).take 5).drop 1) = cN c r := by unfold cN; rw [if_neg (by rw [hF]; decide), hF]; rfl
  have h8 : (((c :: r).take 5).drop 1).length ≤ 8 := by rw [List.length_drop, List.length_take]; omega
  have hb1 : decide (B c > 252) = true := by rw [hc]; decide
  have hb2 : decide (B c > 253) = true := by rw [hc]; decide
  have hb3 : decide (B c > 254) = false := by rw [hc]; decide
  rw [hF]
  clear hc
  by_cases hlt : r.length < 4
  · rw [if_pos hlt]
    have hsh : decide ((m : Int) < 5) = true := by simp; omega
    clear hnu hN
    go_enter Tryz.func51, Tryz.ntmps51
    go_wp2_with (first
      | ((with_reducible change wpList _ _ _ (Oper.mk (some 10) _ _ _ _ _ :: _) _ _); refine kS1 _ g rfl rfl rfl ?_; go_frame)
      | ((with_reducible change wpList _ _ _ (Oper.mk (some 11) _ _ _ _ _ :: _) _ _); refine kLoad1 _ _ _ g 1 _ (.int .i64 0) _ rfl rfl rfl hR Tryz.underlying3 rfl rfl ?_; go_frame)
      | ((with_reducible change wpList _ _ _ (Oper.mk (some 15) _ _ _ _ _ :: _) _ _); refine kS0 _ g rfl rfl rfl ?_; go_frame)
      | ((with_reducible change wpList _ _ _ (Oper.mk (some 16) _ _ _ _ _ :: _) _ _); refine kLoad1 _ _ _ g 0 _ v _ rfl rfl rfl hR Tryz.underlying38 rfl rfl ?_; go_frame)
      | ((with_reducible change wpList _ _ _ (Oper.mk (some 17) _ _ _ _ _ :: _) _ _); refine kLenN _ _ _ v _ m rfl rfl rfl hV hm Tryz.underlying38 ?_; go_frame)
      | ((with_reducible change wpList _ _ _ (Oper.mk (some 18) _ _ _ _ _ :: _) _ _); refine kEqlI _ _ _ _ .i64 (m : Int) 0 false rfl rfl rfl rfl hm0 ?_; go_frame)
      | ((with_reducible change wpList _ _ _ (Oper.mk (some 24) _ _ _ _ _ :: _) _ _); refine kS0 _ g rfl rfl rfl ?_; go_frame)
      | ((with_reducible change wpList _ _ _ (Oper.mk (some 25) _ _ _ _ _ :: _) _ _); refine kLoad1 _ _ _ g 0 _ v _ rfl rfl rfl hR Tryz.underlying38 rfl rfl ?_; go_frame)
      | ((with_reducible change wpList _ _ _ (Oper.mk (some 26) _ _ _ _ _ :: _) _ _); refine kIndexAddrV _ _ _ _ .i64 v _ 0 0 (VB c) rfl rfl rfl hV rfl Tryz.underlying38 info_b8P rfl rfl ?_; intro b hb; go_frame)
      | ((with_reducible change wpList _ _ _ (Oper.mk (some 27) _ _ _ _ _ :: _) _ _); refine kLoadCell _ _ b (VB c) _ rfl rfl rfl hb Tryz.underlying5 rfl ?_; clear hb; go_frame)
      | ((with_reducible change wpList _ _ _ (Oper.mk (some 29) _ _ _ _ _ :: _) _ _); refine kGtrI _ _ _ _ .u8 (B c) 252 true rfl rfl rfl rfl hb1 ?_; go_frame)
      | ((with_reducible change wpList _ _ _ (Oper.mk (some 31) _ _ _ _ _ :: _) _ _); refine kGtrI _ _ _ _ .u8 (B c) 253 true rfl rfl rfl rfl hb2 ?_; go_frame)
      | ((with_reducible change wpList _ _ _ (Oper.mk (some 33) _ _ _ _ _ :: _) _ _); refine kGtrI _ _ _ _ .u8 (B c) 254 false rfl rfl rfl rfl hb3 ?_; go_frame)
      | ((with_reducible change wpList _ _ _ (Oper.mk (some 36) _ _ _ _ _ :: _) _ _); refine kS0 _ g rfl rfl rfl ?_; go_frame)
      | ((with_reducible change wpList _ _ _ (Oper.mk (some 37) _ _ _ _ _ :: _) _ _); refine kLoad1 _ _ _ g 0 _ v _ rfl rfl rfl hR Tryz.underlying38 rfl rfl ?_; go_frame)
      | ((with_reducible change wpList _ _ _ (Oper.mk (some 38) _ _ _ _ _ :: _) _ _); refine kLenN _ _ _ v _ m rfl rfl rfl hV hm Tryz.underlying38 ?_; go_frame)
      | ((with_reducible change wpList _ _ _ (Oper.mk (some 41) _ _ _ _ _ :: _) _ _); refine kLssI _ _ _ _ .i64 (m : Int) 5 true rfl rfl rfl rfl hsh ?_; go_frame)
      | ((with_reducible change wpList _ _ _ (Oper.mk (some 44) _ _ _ _ _ :: _) _ _); refine kS1 _ g rfl rfl rfl ?_; go_frame)
      | ((with_reducible change wpList _ _ _ (Oper.mk none (Op.store _ (Operand.tmp 44) _) _ _ _ _ :: _) _ _); refine kStore1 _ _ _ _ g 1 _ (.int .i64 61) rfl rfl rfl rfl hR info_intP (show 1 < 2 by decide) rfl ?_; intro w1 hR1 hW1; go_frame))
    go_ret
    exact ⟨rfl, rd_put (t := ⟨c :: r, 61⟩) h hR1 hW1 hV rfl hL, exc_wrote hW1⟩
  rw [if_neg (show ¬ r.length < 4 by omega)]
  have hsh : decide ((m : Int) < 5) = false := by simp; omega
  have hfl : 5 ≤ (c :: r).length := by omega
  obtain ⟨N, hNe⟩ : ∃ N, cN c r = N := ⟨_, rfl⟩
  rw [hNe] at hN hnu ⊢
  obtain ⟨q, hqe⟩ : ∃ q, cSize N + 1 = q := ⟨_, rfl⟩
  by_cases hcf : cSize N ≠ 4
  · rw [if_pos (.inl hcf)]
    have hne : (!decide ((q : Int) = 5)) = true := by simp; omega
    clear hcf
    go_enter Tryz.func51, Tryz.ntmps51
    go_wp2_with (first
      | ((with_reducible change wpList _ _ _ (Oper.mk (some 10) _ _ _ _ _ :: _) _ _); refine kS1 _ g rfl rfl rfl ?_; go_frame)
      | ((with_reducible change wpList _ _ _ (Oper.mk (some 11) _ _ _ _ _ :: _) _ _); refine kLoad1 _ _ _ g 1 _ (.int .i64 0) _ rfl rfl rfl hR Tryz.underlying3 rfl rfl ?_; go_frame)
      | ((with_reducible change wpList _ _ _ (Oper.mk (some 15) _ _ _ _ _ :: _) _ _); refine kS0 _ g rfl rfl rfl ?_; go_frame)
      | ((with_reducible change wpList _ _ _ (Oper.mk (some 16) _ _ _ _ _ :: _) _ _); refine kLoad1 _ _ _ g 0 _ v _ rfl rfl rfl hR Tryz.underlying38 rfl rfl ?_; go_frame)
      | ((with_reducible change wpList _ _ _ (Oper.mk (some 17) _ _ _ _ _ :: _) _ _); refine kLenN _ _ _ v _ m rfl rfl rfl hV hm Tryz.underlying38 ?_; go_frame)
      | ((with_reducible change wpList _ _ _ (Oper.mk (some 18) _ _ _ _ _ :: _) _ _); refine kEqlI _ _ _ _ .i64 (m : Int) 0 false rfl rfl rfl rfl hm0 ?_; go_frame)
      | ((with_reducible change wpList _ _ _ (Oper.mk (some 24) _ _ _ _ _ :: _) _ _); refine kS0 _ g rfl rfl rfl ?_; go_frame)
      | ((with_reducible change wpList _ _ _ (Oper.mk (some 25) _ _ _ _ _ :: _) _ _); refine kLoad1 _ _ _ g 0 _ v _ rfl rfl rfl hR Tryz.underlying38 rfl rfl ?_; go_frame)
      | ((with_reducible change wpList _ _ _ (Oper.mk (some 26) _ _ _ _ _ :: _) _ _); refine kIndexAddrV _ _ _ _ .i64 v _ 0 0 (VB c) rfl rfl rfl hV rfl Tryz.underlying38 info_b8P rfl rfl ?_; intro b hb; go_frame)
      | ((with_reducible change wpList _ _ _ (Oper.mk (some 27) _ _ _ _ _ :: _) _ _); refine kLoadCell _ _ b (VB c) _ rfl rfl rfl hb Tryz.underlying5 rfl ?_; clear hb; go_frame)
      | ((with_reducible change wpList _ _ _ (Oper.mk (some 29) _ _ _ _ _ :: _) _ _); refine kGtrI _ _ _ _ .u8 (B c) 252 true rfl rfl rfl rfl hb1 ?_; go_frame)
      | ((with_reducible change wpList _ _ _ (Oper.mk (some 31) _ _ _ _ _ :: _) _ _); refine kGtrI _ _ _ _ .u8 (B c) 253 true rfl rfl rfl rfl hb2 ?_; go_frame)
      | ((with_reducible change wpList _ _ _ (Oper.mk (some 33) _ _ _ _ _ :: _) _ _); refine kGtrI _ _ _ _ .u8 (B c) 254 false rfl rfl rfl rfl hb3 ?_; go_frame)
      | ((with_reducible change wpList _ _ _ (Oper.mk (some 36) _ _ _ _ _ :: _) _ _); refine kS0 _ g rfl rfl rfl ?_; go_frame)
      | ((with_reducible change wpList _ _ _ (Oper.mk (some 37) _ _ _ _ _ :: _) _ _); refine kLoad1 _ _ _ g 0 _ v _ rfl rfl rfl hR Tryz.underlying38 rfl rfl ?_; go_frame)
      | ((with_reducible change wpList _ _ _ (Oper.mk (some 38) _ _ _ _ _ :: _) _ _); refine kLenN _ _ _ v _ m rfl rfl rfl hV hm Tryz.underlying38 ?_; go_frame)
      | ((with_reducible change wpList _ _ _ (Oper.mk (some 41) _ _ _ _ _ :: _) _ _); refine kLssI _ _ _ _ .i64 (m : Int) 5 false rfl rfl rfl rfl hsh ?_; go_frame)
      | ((with_reducible change wpList _ _ _ (Oper.mk (some 46) _ _ _ _ _ :: _) _ _); refine kConvB8 _ c.toNat hc8 rfl rfl rfl ?_; go_frame)
      | ((with_reducible change wpList _ _ _ (Oper.mk (some 51) _ _ _ _ _ :: _) _ _); refine kS0 _ g rfl rfl rfl ?_; go_frame)
      | ((with_reducible change wpList _ _ _ (Oper.mk (some 52) _ _ _ _ _ :: _) _ _); refine kLoad1 _ _ _ g 0 _ v _ rfl rfl rfl hR Tryz.underlying38 rfl rfl ?_; go_frame)
      | ((with_reducible change wpList _ _ _ (Oper.mk (some 55) _ _ _ _ _ :: _) _ _); refine kSliceLH _ _ _ v (c :: r) 1 5 hV (by decide) hfl rfl rfl rfl rfl rfl ?_; intro u hU; go_frame)
      | (go_at_call 83; refine (jNumber_any _ hU h8).mono ?_; rintro e w9 ⟨rfl, rfl⟩; rw [hnu]; clear hU; go_frame)
      | (go_at_call 44; refine (jCount_any N hN _).mono ?_; rintro e w2 ⟨v2, rfl, hO2, hB2⟩; have h2 := h.below hB2; obtain ⟨v3, hR3, hV3, hL3⟩ := id h2; change Row w2 g _ #[v3, .int .i64 0] at hR3; go_frame)
      | ((with_reducible change wpList _ _ _ (Oper.mk (some 59) _ _ _ _ _ :: _) _ _); refine kLenN _ _ _ v2 _ q rfl rfl rfl hO2.vals (by rw [List.length_map, countL_len, hqe]) Tryz.underlying38 ?_; go_frame)
      | ((with_reducible change wpList _ _ _ (Oper.mk (some 62) _ _ _ _ _ :: _) _ _); refine kNeqI _ _ _ _ .i64 (q : Int) 5 true rfl rfl rfl rfl hne ?_; go_frame)
      | ((with_reducible change wpList _ _ _ (Oper.mk (some 70) _ _ _ _ _ :: _) _ _); refine kS1 _ g rfl rfl rfl ?_; go_frame)
      | ((with_reducible change wpList _ _ _ (Oper.mk none (Op.store _ (Operand.tmp 70) _) _ _ _ _ :: _) _ _); refine kStore1 _ _ _ _ g 1 _ (.int .i64 62) rfl rfl rfl rfl hR3 info_intP (show 1 < 2 by decide) rfl ?_; intro w4 hR4 hW4; go_frame))
    go_ret
    exact ⟨rfl, rd_put (t := ⟨c :: r, 62⟩) h2 hR4 hW4 hV3 rfl hL3, (exc_below g hB2).trans (exc_wrote hW4)⟩
  have hne : (!decide ((q : Int) = 5)) = false := by simp; omega
  by_cases hgr : most < N
  · rw [if_pos (.inr hgr)]
    have hgt : decide ((N : Int) > (most : Int)) = true := by simp; omega
    go_enter Tryz.func51, Tryz.ntmps51
    go_wp2_with (first
      | ((with_reducible change wpList _ _ _ (Oper.mk (some 10) _ _ _ _ _ :: _) _ _); refine kS1 _ g rfl rfl rfl ?_; go_frame)
      | ((with_reducible change wpList _ _ _ (Oper.mk (some 11) _ _ _ _ _ :: _) _ _); refine kLoad1 _ _ _ g 1 _ (.int .i64 0) _ rfl rfl rfl hR Tryz.underlying3 rfl rfl ?_; go_frame)
      | ((with_reducible change wpList _ _ _ (Oper.mk (some 15) _ _ _ _ _ :: _) _ _); refine kS0 _ g rfl rfl rfl ?_; go_frame)
      | ((with_reducible change wpList _ _ _ (Oper.mk (some 16) _ _ _ _ _ :: _) _ _); refine kLoad1 _ _ _ g 0 _ v _ rfl rfl rfl hR Tryz.underlying38 rfl rfl ?_; go_frame)
      | ((with_reducible change wpList _ _ _ (Oper.mk (some 17) _ _ _ _ _ :: _) _ _); refine kLenN _ _ _ v _ m rfl rfl rfl hV hm Tryz.underlying38 ?_; go_frame)
      | ((with_reducible change wpList _ _ _ (Oper.mk (some 18) _ _ _ _ _ :: _) _ _); refine kEqlI _ _ _ _ .i64 (m : Int) 0 false rfl rfl rfl rfl hm0 ?_; go_frame)
      | ((with_reducible change wpList _ _ _ (Oper.mk (some 24) _ _ _ _ _ :: _) _ _); refine kS0 _ g rfl rfl rfl ?_; go_frame)
      | ((with_reducible change wpList _ _ _ (Oper.mk (some 25) _ _ _ _ _ :: _) _ _); refine kLoad1 _ _ _ g 0 _ v _ rfl rfl rfl hR Tryz.underlying38 rfl rfl ?_; go_frame)
      | ((with_reducible change wpList _ _ _ (Oper.mk (some 26) _ _ _ _ _ :: _) _ _); refine kIndexAddrV _ _ _ _ .i64 v _ 0 0 (VB c) rfl rfl rfl hV rfl Tryz.underlying38 info_b8P rfl rfl ?_; intro b hb; go_frame)
      | ((with_reducible change wpList _ _ _ (Oper.mk (some 27) _ _ _ _ _ :: _) _ _); refine kLoadCell _ _ b (VB c) _ rfl rfl rfl hb Tryz.underlying5 rfl ?_; clear hb; go_frame)
      | ((with_reducible change wpList _ _ _ (Oper.mk (some 29) _ _ _ _ _ :: _) _ _); refine kGtrI _ _ _ _ .u8 (B c) 252 true rfl rfl rfl rfl hb1 ?_; go_frame)
      | ((with_reducible change wpList _ _ _ (Oper.mk (some 31) _ _ _ _ _ :: _) _ _); refine kGtrI _ _ _ _ .u8 (B c) 253 true rfl rfl rfl rfl hb2 ?_; go_frame)
      | ((with_reducible change wpList _ _ _ (Oper.mk (some 33) _ _ _ _ _ :: _) _ _); refine kGtrI _ _ _ _ .u8 (B c) 254 false rfl rfl rfl rfl hb3 ?_; go_frame)
      | ((with_reducible change wpList _ _ _ (Oper.mk (some 36) _ _ _ _ _ :: _) _ _); refine kS0 _ g rfl rfl rfl ?_; go_frame)
      | ((with_reducible change wpList _ _ _ (Oper.mk (some 37) _ _ _ _ _ :: _) _ _); refine kLoad1 _ _ _ g 0 _ v _ rfl rfl rfl hR Tryz.underlying38 rfl rfl ?_; go_frame)
      | ((with_reducible change wpList _ _ _ (Oper.mk (some 38) _ _ _ _ _ :: _) _ _); refine kLenN _ _ _ v _ m rfl rfl rfl hV hm Tryz.underlying38 ?_; go_frame)
      | ((with_reducible change wpList _ _ _ (Oper.mk (some 41) _ _ _ _ _ :: _) _ _); refine kLssI _ _ _ _ .i64 (m : Int) 5 false rfl rfl rfl rfl hsh ?_; go_frame)
      | ((with_reducible change wpList _ _ _ (Oper.mk (some 46) _ _ _ _ _ :: _) _ _); refine kConvB8 _ c.toNat hc8 rfl rfl rfl ?_; go_frame)
      | ((with_reducible change wpList _ _ _ (Oper.mk (some 51) _ _ _ _ _ :: _) _ _); refine kS0 _ g rfl rfl rfl ?_; go_frame)
      | ((with_reducible change wpList _ _ _ (Oper.mk (some 52) _ _ _ _ _ :: _) _ _); refine kLoad1 _ _ _ g 0 _ v _ rfl rfl rfl hR Tryz.underlying38 rfl rfl ?_; go_frame)
      | ((with_reducible change wpList _ _ _ (Oper.mk (some 55) _ _ _ _ _ :: _) _ _); refine kSliceLH _ _ _ v (c :: r) 1 5 hV (by decide) hfl rfl rfl rfl rfl rfl ?_; intro u hU; go_frame)
      | (go_at_call 83; refine (jNumber_any _ hU h8).mono ?_; rintro e w9 ⟨rfl, rfl⟩; rw [hnu]; clear hU; go_frame)
      | (go_at_call 44; refine (jCount_any N hN _).mono ?_; rintro e w2 ⟨v2, rfl, hO2, hB2⟩; have h2 := h.below hB2; obtain ⟨v3, hR3, hV3, hL3⟩ := id h2; change Row w2 g _ #[v3, .int .i64 0] at hR3; go_frame)
      | ((with_reducible change wpList _ _ _ (Oper.mk (some 59) _ _ _ _ _ :: _) _ _); refine kLenN _ _ _ v2 _ q rfl rfl rfl hO2.vals (by rw [List.length_map, countL_len, hqe]) Tryz.underlying38 ?_; go_frame)
      | ((with_reducible change wpList _ _ _ (Oper.mk (some 62) _ _ _ _ _ :: _) _ _); refine kNeqI _ _ _ _ .i64 (q : Int) 5 false rfl rfl rfl rfl hne ?_; go_frame)
      | ((with_reducible change wpList _ _ _ (Oper.mk (some 66) _ _ _ _ _ :: _) _ _); refine kGtrI _ _ _ _ .u64 (N : Int) (most : Int) true rfl rfl rfl rfl hgt ?_; go_frame)
      | ((with_reducible change wpList _ _ _ (Oper.mk (some 70) _ _ _ _ _ :: _) _ _); refine kS1 _ g rfl rfl rfl ?_; go_frame)
      | ((with_reducible change wpList _ _ _ (Oper.mk none (Op.store _ (Operand.tmp 70) _) _ _ _ _ :: _) _ _); refine kStore1 _ _ _ _ g 1 _ (.int .i64 62) rfl rfl rfl rfl hR3 info_intP (show 1 < 2 by decide) rfl ?_; intro w4 hR4 hW4; go_frame))
    go_ret
    exact ⟨rfl, rd_put (t := ⟨c :: r, 62⟩) h2 hR4 hW4 hV3 rfl hL3, (exc_below g hB2).trans (exc_wrote hW4)⟩
  · rw [if_neg (by simp only [not_or]; exact ⟨hcf, hgr⟩)]
    have hgt : decide ((N : Int) > (most : Int)) = false := by simp; omega
    go_enter Tryz.func51, Tryz.ntmps51
    go_wp2_with (first
      | ((with_reducible change wpList _ _ _ (Oper.mk (some 10) _ _ _ _ _ :: _) _ _); refine kS1 _ g rfl rfl rfl ?_; go_frame)
      | ((with_reducible change wpList _ _ _ (Oper.mk (some 11) _ _ _ _ _ :: _) _ _); refine kLoad1 _ _ _ g 1 _ (.int .i64 0) _ rfl rfl rfl hR Tryz.underlying3 rfl rfl ?_; go_frame)
      | ((with_reducible change wpList _ _ _ (Oper.mk (some 15) _ _ _ _ _ :: _) _ _); refine kS0 _ g rfl rfl rfl ?_; go_frame)
      | ((with_reducible change wpList _ _ _ (Oper.mk (some 16) _ _ _ _ _ :: _) _ _); refine kLoad1 _ _ _ g 0 _ v _ rfl rfl rfl hR Tryz.underlying38 rfl rfl ?_; go_frame)
      | ((with_reducible change wpList _ _ _ (Oper.mk (some 17) _ _ _ _ _ :: _) _ _); refine kLenN _ _ _ v _ m rfl rfl rfl hV hm Tryz.underlying38 ?_; go_frame)
      | ((with_reducible change wpList _ _ _ (Oper.mk (some 18) _ _ _ _ _ :: _) _ _); refine kEqlI _ _ _ _ .i64 (m : Int) 0 false rfl rfl rfl rfl hm0 ?_; go_frame)
      | ((with_reducible change wpList _ _ _ (Oper.mk (some 24) _ _ _ _ _ :: _) _ _); refine kS0 _ g rfl rfl rfl ?_; go_frame)
      | ((with_reducible change wpList _ _ _ (Oper.mk (some 25) _ _ _ _ _ :: _) _ _); refine kLoad1 _ _ _ g 0 _ v _ rfl rfl rfl hR Tryz.underlying38 rfl rfl ?_; go_frame)
      | ((with_reducible change wpList _ _ _ (Oper.mk (some 26) _ _ _ _ _ :: _) _ _); refine kIndexAddrV _ _ _ _ .i64 v _ 0 0 (VB c) rfl rfl rfl hV rfl Tryz.underlying38 info_b8P rfl rfl ?_; intro b hb; go_frame)
      | ((with_reducible change wpList _ _ _ (Oper.mk (some 27) _ _ _ _ _ :: _) _ _); refine kLoadCell _ _ b (VB c) _ rfl rfl rfl hb Tryz.underlying5 rfl ?_; clear hb; go_frame)
      | ((with_reducible change wpList _ _ _ (Oper.mk (some 29) _ _ _ _ _ :: _) _ _); refine kGtrI _ _ _ _ .u8 (B c) 252 true rfl rfl rfl rfl hb1 ?_; go_frame)
      | ((with_reducible change wpList _ _ _ (Oper.mk (some 31) _ _ _ _ _ :: _) _ _); refine kGtrI _ _ _ _ .u8 (B c) 253 true rfl rfl rfl rfl hb2 ?_; go_frame)
      | ((with_reducible change wpList _ _ _ (Oper.mk (some 33) _ _ _ _ _ :: _) _ _); refine kGtrI _ _ _ _ .u8 (B c) 254 false rfl rfl rfl rfl hb3 ?_; go_frame)
      | ((with_reducible change wpList _ _ _ (Oper.mk (some 36) _ _ _ _ _ :: _) _ _); refine kS0 _ g rfl rfl rfl ?_; go_frame)
      | ((with_reducible change wpList _ _ _ (Oper.mk (some 37) _ _ _ _ _ :: _) _ _); refine kLoad1 _ _ _ g 0 _ v _ rfl rfl rfl hR Tryz.underlying38 rfl rfl ?_; go_frame)
      | ((with_reducible change wpList _ _ _ (Oper.mk (some 38) _ _ _ _ _ :: _) _ _); refine kLenN _ _ _ v _ m rfl rfl rfl hV hm Tryz.underlying38 ?_; go_frame)
      | ((with_reducible change wpList _ _ _ (Oper.mk (some 41) _ _ _ _ _ :: _) _ _); refine kLssI _ _ _ _ .i64 (m : Int) 5 false rfl rfl rfl rfl hsh ?_; go_frame)
      | ((with_reducible change wpList _ _ _ (Oper.mk (some 46) _ _ _ _ _ :: _) _ _); refine kConvB8 _ c.toNat hc8 rfl rfl rfl ?_; go_frame)
      | ((with_reducible change wpList _ _ _ (Oper.mk (some 51) _ _ _ _ _ :: _) _ _); refine kS0 _ g rfl rfl rfl ?_; go_frame)
      | ((with_reducible change wpList _ _ _ (Oper.mk (some 52) _ _ _ _ _ :: _) _ _); refine kLoad1 _ _ _ g 0 _ v _ rfl rfl rfl hR Tryz.underlying38 rfl rfl ?_; go_frame)
      | ((with_reducible change wpList _ _ _ (Oper.mk (some 55) _ _ _ _ _ :: _) _ _); refine kSliceLH _ _ _ v (c :: r) 1 5 hV (by decide) hfl rfl rfl rfl rfl rfl ?_; intro u hU; go_frame)
      | (go_at_call 83; refine (jNumber_any _ hU h8).mono ?_; rintro e w9 ⟨rfl, rfl⟩; rw [hnu]; clear hU; go_frame)
      | (go_at_call 44; refine (jCount_any N hN _).mono ?_; rintro e w2 ⟨v2, rfl, hO2, hB2⟩; have h2 := h.below hB2; obtain ⟨v3, hR3, hV3, hL3⟩ := id h2; change Row w2 g _ #[v3, .int .i64 0] at hR3; go_frame)
      | ((with_reducible change wpList _ _ _ (Oper.mk (some 59) _ _ _ _ _ :: _) _ _); refine kLenN _ _ _ v2 _ q rfl rfl rfl hO2.vals (by rw [List.length_map, countL_len, hqe]) Tryz.underlying38 ?_; go_frame)
      | ((with_reducible change wpList _ _ _ (Oper.mk (some 62) _ _ _ _ _ :: _) _ _); refine kNeqI _ _ _ _ .i64 (q : Int) 5 false rfl rfl rfl rfl hne ?_; go_frame)
      | ((with_reducible change wpList _ _ _ (Oper.mk (some 66) _ _ _ _ _ :: _) _ _); refine kGtrI _ _ _ _ .u64 (N : Int) (most : Int) false rfl rfl rfl rfl hgt ?_; go_frame)
      | (go_at_call 82; refine (jTake_any (n := 5) _ h2 hfl hs).mono ?_; rintro e w4 ⟨v4, rfl, hV4, hR4, hX4⟩; go_frame))
    go_ret
    exact ⟨rfl, hR4, (exc_below g hB2).trans hX4⟩
set_option maxRecDepth 100000 in
set_option maxHeartbeats 8000000 in
theorem jCountOf_8 {c : UInt8} {r : List UInt8} {g most : Nat} (hc : c = 255) (w : World) (h : Rd Lm 89 w g ⟨c :: r, 0⟩) (hs : (c :: r).length ≤ 1000000) : Calls Tryz.prog 51 #[.pointer (some ⟨g, 0, none⟩), .int .u64 (most : Int)] w (PNumPost Lm 89 g w (countS ⟨c :: r, 0⟩ most)) := by
  rw [countS_cN]
  have hN := cN_lt (c := c) (r := r)
  obtain ⟨v, hR, hV, hL⟩ := id h
  change Row w g _ #[v, .int .i64 0] at hR
  change IsVals w v ((c :: r).map VB) at hV
  obtain ⟨m, hml⟩ : ∃ m, (c :: r).length = m := ⟨_, rfl⟩
  have hm : ((c :: r).map VB).length = m := by rw [List.length_map, hml]
  have hrl : r.length + 1 = m := hml
  have hm0 : decide ((m : Int) = 0) = false := by simp; omega
  have hc8 := c.toNat_lt
  have hF : fSize c = 8 := by rw [hc]; decide
  have hnu : numL (((c :: r).take 9).drop 1) = cN c r := by unfold cN; rw [if_neg (by rw [hF]; decide), hF]; rfl
  have h8 : (((c :: r).take 9).drop 1).length ≤ 8 := by rw [List.length_drop, List.length_take]; omega
  have hb1 : decide (B c > 252) = true := by rw [hc]; decide
  have hb2 : decide (B c > 253) = true := by rw [hc]; decide
  have hb3 : decide (B c > 254) = true := by rw [hc]; decide
  rw [hF]
  clear hc
  by_cases hlt : r.length < 8
  · rw [if_pos hlt]
    have hsh : decide ((m : Int) < 9) = true := by simp; omega
    clear hnu hN
    go_enter Tryz.func51, Tryz.ntmps51
    go_wp2_with (first
      | ((with_reducible change wpList _ _ _ (Oper.mk (some 10) _ _ _ _ _ :: _) _ _); refine kS1 _ g rfl rfl rfl ?_; go_frame)
      | ((with_reducible change wpList _ _ _ (Oper.mk (some 11) _ _ _ _ _ :: _) _ _); refine kLoad1 _ _ _ g 1 _ (.int .i64 0) _ rfl rfl rfl hR Tryz.underlying3 rfl rfl ?_; go_frame)
      | ((with_reducible change wpList _ _ _ (Oper.mk (some 15) _ _ _ _ _ :: _) _ _); refine kS0 _ g rfl rfl rfl ?_; go_frame)
      | ((with_reducible change wpList _ _ _ (Oper.mk (some 16) _ _ _ _ _ :: _) _ _); refine kLoad1 _ _ _ g 0 _ v _ rfl rfl rfl hR Tryz.underlying38 rfl rfl ?_; go_frame)
      | ((with_reducible change wpList _ _ _ (Oper.mk (some 17) _ _ _ _ _ :: _) _ _); refine kLenN _ _ _ v _ m rfl rfl rfl hV hm Tryz.underlying38 ?_; go_frame)
      | ((with_reducible change wpList _ _ _ (Oper.mk (some 18) _ _ _ _ _ :: _) _ _); refine kEqlI _ _ _ _ .i64 (m : Int) 0 false rfl rfl rfl rfl hm0 ?_; go_frame)
      | ((with_reducible change wpList _ _ _ (Oper.mk (some 24) _ _ _ _ _ :: _) _ _); refine kS0 _ g rfl rfl rfl ?_; go_frame)
      | ((with_reducible change wpList _ _ _ (Oper.mk (some 25) _ _ _ _ _ :: _) _ _); refine kLoad1 _ _ _ g 0 _ v _ rfl rfl rfl hR Tryz.underlying38 rfl rfl ?_; go_frame)
      | ((with_reducible change wpList _ _ _ (Oper.mk (some 26) _ _ _ _ _ :: _) _ _); refine kIndexAddrV _ _ _ _ .i64 v _ 0 0 (VB c) rfl rfl rfl hV rfl Tryz.underlying38 info_b8P rfl rfl ?_; intro b hb; go_frame)
      | ((with_reducible change wpList _ _ _ (Oper.mk (some 27) _ _ _ _ _ :: _) _ _); refine kLoadCell _ _ b (VB c) _ rfl rfl rfl hb Tryz.underlying5 rfl ?_; clear hb; go_frame)
      | ((with_reducible change wpList _ _ _ (Oper.mk (some 29) _ _ _ _ _ :: _) _ _); refine kGtrI _ _ _ _ .u8 (B c) 252 true rfl rfl rfl rfl hb1 ?_; go_frame)
      | ((with_reducible change wpList _ _ _ (Oper.mk (some 31) _ _ _ _ _ :: _) _ _); refine kGtrI _ _ _ _ .u8 (B c) 253 true rfl rfl rfl rfl hb2 ?_; go_frame)
      | ((with_reducible change wpList _ _ _ (Oper.mk (some 33) _ _ _ _ _ :: _) _ _); refine kGtrI _ _ _ _ .u8 (B c) 254 true rfl rfl rfl rfl hb3 ?_; go_frame)
      | ((with_reducible change wpList _ _ _ (Oper.mk (some 36) _ _ _ _ _ :: _) _ _); refine kS0 _ g rfl rfl rfl ?_; go_frame)
      | ((with_reducible change wpList _ _ _ (Oper.mk (some 37) _ _ _ _ _ :: _) _ _); refine kLoad1 _ _ _ g 0 _ v _ rfl rfl rfl hR Tryz.underlying38 rfl rfl ?_; go_frame)
      | ((with_reducible change wpList _ _ _ (Oper.mk (some 38) _ _ _ _ _ :: _) _ _); refine kLenN _ _ _ v _ m rfl rfl rfl hV hm Tryz.underlying38 ?_; go_frame)
      | ((with_reducible change wpList _ _ _ (Oper.mk (some 41) _ _ _ _ _ :: _) _ _); refine kLssI _ _ _ _ .i64 (m : Int) 9 true rfl rfl rfl rfl hsh ?_; go_frame)
      | ((with_reducible change wpList _ _ _ (Oper.mk (some 44) _ _ _ _ _ :: _) _ _); refine kS1 _ g rfl rfl rfl ?_; go_frame)
      | ((with_reducible change wpList _ _ _ (Oper.mk none (Op.store _ (Operand.tmp 44) _) _ _ _ _ :: _) _ _); refine kStore1 _ _ _ _ g 1 _ (.int .i64 61) rfl rfl rfl rfl hR info_intP (show 1 < 2 by decide) rfl ?_; intro w1 hR1 hW1; go_frame))
    go_ret
    exact ⟨rfl, rd_put (t := ⟨c :: r, 61⟩) h hR1 hW1 hV rfl hL, exc_wrote hW1⟩
  rw [if_neg (show ¬ r.length < 8 by omega)]
  have hsh : decide ((m : Int) < 9) = false := by simp; omega
  have hfl : 9 ≤ (c :: r).length := by omega
  obtain ⟨N, hNe⟩ : ∃ N, cN c r = N := ⟨_, rfl⟩
  rw [hNe] at hN hnu ⊢
  obtain ⟨q, hqe⟩ : ∃ q, cSize N + 1 = q := ⟨_, rfl⟩
  by_cases hcf : cSize N ≠ 8
  · rw [if_pos (.inl hcf)]
    have hne : (!decide ((q : Int) = 9)) = true := by simp; omega
    clear hcf
    go_enter Tryz.func51, Tryz.ntmps51
    go_wp2_with (first
      | ((with_reducible change wpList _ _ _ (Oper.mk (some 10) _ _ _ _ _ :: _) _ _); refine kS1 _ g rfl rfl rfl ?_; go_frame)
      | ((with_reducible change wpList _ _ _ (Oper.mk (some 11) _ _ _ _ _ :: _) _ _); refine kLoad1 _ _ _ g 1 _ (.int .i64 0) _ rfl rfl rfl hR Tryz.underlying3 rfl rfl ?_; go_frame)
      | ((with_reducible change wpList _ _ _ (Oper.mk (some 15) _ _ _ _ _ :: _) _ _); refine kS0 _ g rfl rfl rfl ?_; go_frame)
      | ((with_reducible change wpList _ _ _ (Oper.mk (some 16) _ _ _ _ _ :: _) _ _); refine kLoad1 _ _ _ g 0 _ v _ rfl rfl rfl hR Tryz.underlying38 rfl rfl ?_; go_frame)
      | ((with_reducible change wpList _ _ _ (Oper.mk (some 17) _ _ _ _ _ :: _) _ _); refine kLenN _ _ _ v _ m rfl rfl rfl hV hm Tryz.underlying38 ?_; go_frame)
      | ((with_reducible change wpList _ _ _ (Oper.mk (some 18) _ _ _ _ _ :: _) _ _); refine kEqlI _ _ _ _ .i64 (m : Int) 0 false rfl rfl rfl rfl hm0 ?_; go_frame)
      | ((with_reducible change wpList _ _ _ (Oper.mk (some 24) _ _ _ _ _ :: _) _ _); refine kS0 _ g rfl rfl rfl ?_; go_frame)
      | ((with_reducible change wpList _ _ _ (Oper.mk (some 25) _ _ _ _ _ :: _) _ _); refine kLoad1 _ _ _ g 0 _ v _ rfl rfl rfl hR Tryz.underlying38 rfl rfl ?_; go_frame)
      | ((with_reducible change wpList _ _ _ (Oper.mk (some 26) _ _ _ _ _ :: _) _ _); refine kIndexAddrV _ _ _ _ .i64 v _ 0 0 (VB c) rfl rfl rfl hV rfl Tryz.underlying38 info_b8P rfl rfl ?_; intro b hb; go_frame)
      | ((with_reducible change wpList _ _ _ (Oper.mk (some 27) _ _ _ _ _ :: _) _ _); refine kLoadCell _ _ b (VB c) _ rfl rfl rfl hb Tryz.underlying5 rfl ?_; clear hb; go_frame)
      | ((with_reducible change wpList _ _ _ (Oper.mk (some 29) _ _ _ _ _ :: _) _ _); refine kGtrI _ _ _ _ .u8 (B c) 252 true rfl rfl rfl rfl hb1 ?_; go_frame)
      | ((with_reducible change wpList _ _ _ (Oper.mk (some 31) _ _ _ _ _ :: _) _ _); refine kGtrI _ _ _ _ .u8 (B c) 253 true rfl rfl rfl rfl hb2 ?_; go_frame)
      | ((with_reducible change wpList _ _ _ (Oper.mk (some 33) _ _ _ _ _ :: _) _ _); refine kGtrI _ _ _ _ .u8 (B c) 254 true rfl rfl rfl rfl hb3 ?_; go_frame)
      | ((with_reducible change wpList _ _ _ (Oper.mk (some 36) _ _ _ _ _ :: _) _ _); refine kS0 _ g rfl rfl rfl ?_; go_frame)
      | ((with_reducible change wpList _ _ _ (Oper.mk (some 37) _ _ _ _ _ :: _) _ _); refine kLoad1 _ _ _ g 0 _ v _ rfl rfl rfl hR Tryz.underlying38 rfl rfl ?_; go_frame)
      | ((with_reducible change wpList _ _ _ (Oper.mk (some 38) _ _ _ _ _ :: _) _ _); refine kLenN _ _ _ v _ m rfl rfl rfl hV hm Tryz.underlying38 ?_; go_frame)
      | ((with_reducible change wpList _ _ _ (Oper.mk (some 41) _ _ _ _ _ :: _) _ _); refine kLssI _ _ _ _ .i64 (m : Int) 9 false rfl rfl rfl rfl hsh ?_; go_frame)
      | ((with_reducible change wpList _ _ _ (Oper.mk (some 46) _ _ _ _ _ :: _) _ _); refine kConvB8 _ c.toNat hc8 rfl rfl rfl ?_; go_frame)
      | ((with_reducible change wpList _ _ _ (Oper.mk (some 51) _ _ _ _ _ :: _) _ _); refine kS0 _ g rfl rfl rfl ?_; go_frame)
      | ((with_reducible change wpList _ _ _ (Oper.mk (some 52) _ _ _ _ _ :: _) _ _); refine kLoad1 _ _ _ g 0 _ v _ rfl rfl rfl hR Tryz.underlying38 rfl rfl ?_; go_frame)
      | ((with_reducible change wpList _ _ _ (Oper.mk (some 55) _ _ _ _ _ :: _) _ _); refine kSliceLH _ _ _ v (c :: r) 1 9 hV (by decide) hfl rfl rfl rfl rfl rfl ?_; intro u hU; go_frame)
      | (go_at_call 83; refine (jNumber_any _ hU h8).mono ?_; rintro e w9 ⟨rfl, rfl⟩; rw [hnu]; clear hU; go_frame)
      | (go_at_call 44; refine (jCount_any N hN _).mono ?_; rintro e w2 ⟨v2, rfl, hO2, hB2⟩; have h2 := h.below hB2; obtain ⟨v3, hR3, hV3, hL3⟩ := id h2; change Row w2 g _ #[v3, .int .i64 0] at hR3; go_frame)
      | ((with_reducible change wpList _ _ _ (Oper.mk (some 59) _ _ _ _ _ :: _) _ _); refine kLenN _ _ _ v2 _ q rfl rfl rfl hO2.vals (by rw [List.length_map, countL_len, hqe]) Tryz.underlying38 ?_; go_frame)
      | ((with_reducible change wpList _ _ _ (Oper.mk (some 62) _ _ _ _ _ :: _) _ _); refine kNeqI _ _ _ _ .i64 (q : Int) 9 true rfl rfl rfl rfl hne ?_; go_frame)
      | ((with_reducible change wpList _ _ _ (Oper.mk (some 70) _ _ _ _ _ :: _) _ _); refine kS1 _ g rfl rfl rfl ?_; go_frame)
      | ((with_reducible change wpList _ _ _ (Oper.mk none (Op.store _ (Operand.tmp 70) _) _ _ _ _ :: _) _ _); refine kStore1 _ _ _ _ g 1 _ (.int .i64 62) rfl rfl rfl rfl hR3 info_intP (show 1 < 2 by decide) rfl ?_; intro w4 hR4 hW4; go_frame))
    go_ret
    exact ⟨rfl, rd_put (t := ⟨c :: r, 62⟩) h2 hR4 hW4 hV3 rfl hL3, (exc_below g hB2).trans (exc_wrote hW4)⟩
  have hne : (!decide ((q : Int) = 9)) = false := by simp; omega
  by_cases hgr : most < N
  · rw [if_pos (.inr hgr)]
    have hgt : decide ((N : Int) > (most : Int)) = true := by simp; omega
    go_enter Tryz.func51, Tryz.ntmps51
    go_wp2_with (first
      | ((with_reducible change wpList _ _ _ (Oper.mk (some 10) _ _ _ _ _ :: _) _ _); refine kS1 _ g rfl rfl rfl ?_; go_frame)
      | ((with_reducible change wpList _ _ _ (Oper.mk (some 11) _ _ _ _ _ :: _) _ _); refine kLoad1 _ _ _ g 1 _ (.int .i64 0) _ rfl rfl rfl hR Tryz.underlying3 rfl rfl ?_; go_frame)
      | ((with_reducible change wpList _ _ _ (Oper.mk (some 15) _ _ _ _ _ :: _) _ _); refine kS0 _ g rfl rfl rfl ?_; go_frame)
      | ((with_reducible change wpList _ _ _ (Oper.mk (some 16) _ _ _ _ _ :: _) _ _); refine kLoad1 _ _ _ g 0 _ v _ rfl rfl rfl hR Tryz.underlying38 rfl rfl ?_; go_frame)
      | ((with_reducible change wpList _ _ _ (Oper.mk (some 17) _ _ _ _ _ :: _) _ _); refine kLenN _ _ _ v _ m rfl rfl rfl hV hm Tryz.underlying38 ?_; go_frame)
      | ((with_reducible change wpList _ _ _ (Oper.mk (some 18) _ _ _ _ _ :: _) _ _); refine kEqlI _ _ _ _ .i64 (m : Int) 0 false rfl rfl rfl rfl hm0 ?_; go_frame)
      | ((with_reducible change wpList _ _ _ (Oper.mk (some 24) _ _ _ _ _ :: _) _ _); refine kS0 _ g rfl rfl rfl ?_; go_frame)
      | ((with_reducible change wpList _ _ _ (Oper.mk (some 25) _ _ _ _ _ :: _) _ _); refine kLoad1 _ _ _ g 0 _ v _ rfl rfl rfl hR Tryz.underlying38 rfl rfl ?_; go_frame)
      | ((with_reducible change wpList _ _ _ (Oper.mk (some 26) _ _ _ _ _ :: _) _ _); refine kIndexAddrV _ _ _ _ .i64 v _ 0 0 (VB c) rfl rfl rfl hV rfl Tryz.underlying38 info_b8P rfl rfl ?_; intro b hb; go_frame)
      | ((with_reducible change wpList _ _ _ (Oper.mk (some 27) _ _ _ _ _ :: _) _ _); refine kLoadCell _ _ b (VB c) _ rfl rfl rfl hb Tryz.underlying5 rfl ?_; clear hb; go_frame)
      | ((with_reducible change wpList _ _ _ (Oper.mk (some 29) _ _ _ _ _ :: _) _ _); refine kGtrI _ _ _ _ .u8 (B c) 252 true rfl rfl rfl rfl hb1 ?_; go_frame)
      | ((with_reducible change wpList _ _ _ (Oper.mk (some 31) _ _ _ _ _ :: _) _ _); refine kGtrI _ _ _ _ .u8 (B c) 253 true rfl rfl rfl rfl hb2 ?_; go_frame)
      | ((with_reducible change wpList _ _ _ (Oper.mk (some 33) _ _ _ _ _ :: _) _ _); refine kGtrI _ _ _ _ .u8 (B c) 254 true rfl rfl rfl rfl hb3 ?_; go_frame)
      | ((with_reducible change wpList _ _ _ (Oper.mk (some 36) _ _ _ _ _ :: _) _ _); refine kS0 _ g rfl rfl rfl ?_; go_frame)
      | ((with_reducible change wpList _ _ _ (Oper.mk (some 37) _ _ _ _ _ :: _) _ _); refine kLoad1 _ _ _ g 0 _ v _ rfl rfl rfl hR Tryz.underlying38 rfl rfl ?_; go_frame)
      | ((with_reducible change wpList _ _ _ (Oper.mk (some 38) _ _ _ _ _ :: _) _ _); refine kLenN _ _ _ v _ m rfl rfl rfl hV hm Tryz.underlying38 ?_; go_frame)
      | ((with_reducible change wpList _ _ _ (Oper.mk (some 41) _ _ _ _ _ :: _) _ _); refine kLssI _ _ _ _ .i64 (m : Int) 9 false rfl rfl rfl rfl hsh ?_; go_frame)
      | ((with_reducible change wpList _ _ _ (Oper.mk (some 46) _ _ _ _ _ :: _) _ _); refine kConvB8 _ c.toNat hc8 rfl rfl rfl ?_; go_frame)
      | ((with_reducible change wpList _ _ _ (Oper.mk (some 51) _ _ _ _ _ :: _) _ _); refine kS0 _ g rfl rfl rfl ?_; go_frame)
      | ((with_reducible change wpList _ _ _ (Oper.mk (some 52) _ _ _ _ _ :: _) _ _); refine kLoad1 _ _ _ g 0 _ v _ rfl rfl rfl hR Tryz.underlying38 rfl rfl ?_; go_frame)
      | ((with_reducible change wpList _ _ _ (Oper.mk (some 55) _ _ _ _ _ :: _) _ _); refine kSliceLH _ _ _ v (c :: r) 1 9 hV (by decide) hfl rfl rfl rfl rfl rfl ?_; intro u hU; go_frame)
      | (go_at_call 83; refine (jNumber_any _ hU h8).mono ?_; rintro e w9 ⟨rfl, rfl⟩; rw [hnu]; clear hU; go_frame)
      | (go_at_call 44; refine (jCount_any N hN _).mono ?_; rintro e w2 ⟨v2, rfl, hO2, hB2⟩; have h2 := h.below hB2; obtain ⟨v3, hR3, hV3, hL3⟩ := id h2; change Row w2 g _ #[v3, .int .i64 0] at hR3; go_frame)
      | ((with_reducible change wpList _ _ _ (Oper.mk (some 59) _ _ _ _ _ :: _) _ _); refine kLenN _ _ _ v2 _ q rfl rfl rfl hO2.vals (by rw [List.length_map, countL_len, hqe]) Tryz.underlying38 ?_; go_frame)
      | ((with_reducible change wpList _ _ _ (Oper.mk (some 62) _ _ _ _ _ :: _) _ _); refine kNeqI _ _ _ _ .i64 (q : Int) 9 false rfl rfl rfl rfl hne ?_; go_frame)
      | ((with_reducible change wpList _ _ _ (Oper.mk (some 66) _ _ _ _ _ :: _) _ _); refine kGtrI _ _ _ _ .u64 (N : Int) (most : Int) true rfl rfl rfl rfl hgt ?_; go_frame)
      | ((with_reducible change wpList _ _ _ (Oper.mk (some 70) _ _ _ _ _ :: _) _ _); refine kS1 _ g rfl rfl rfl ?_; go_frame)
      | ((with_reducible change wpList _ _ _ (Oper.mk none (Op.store _ (Operand.tmp 70) _) _ _ _ _ :: _) _ _); refine kStore1 _ _ _ _ g 1 _ (.int .i64 62) rfl rfl rfl rfl hR3 info_intP (show 1 < 2 by decide) rfl ?_; intro w4 hR4 hW4; go_frame))
    go_ret
    exact ⟨rfl, rd_put (t := ⟨c :: r, 62⟩) h2 hR4 hW4 hV3 rfl hL3, (exc_below g hB2).trans (exc_wrote hW4)⟩
  · rw [if_neg (by simp only [not_or]; exact ⟨hcf, hgr⟩)]
    have hgt : decide ((N : Int) > (most : Int)) = false := by simp; omega
    go_enter Tryz.func51, Tryz.ntmps51
    go_wp2_with (first
      | ((with_reducible change wpList _ _ _ (Oper.mk (some 10) _ _ _ _ _ :: _) _ _); refine kS1 _ g rfl rfl rfl ?_; go_frame)
      | ((with_reducible change wpList _ _ _ (Oper.mk (some 11) _ _ _ _ _ :: _) _ _); refine kLoad1 _ _ _ g 1 _ (.int .i64 0) _ rfl rfl rfl hR Tryz.underlying3 rfl rfl ?_; go_frame)
      | ((with_reducible change wpList _ _ _ (Oper.mk (some 15) _ _ _ _ _ :: _) _ _); refine kS0 _ g rfl rfl rfl ?_; go_frame)
      | ((with_reducible change wpList _ _ _ (Oper.mk (some 16) _ _ _ _ _ :: _) _ _); refine kLoad1 _ _ _ g 0 _ v _ rfl rfl rfl hR Tryz.underlying38 rfl rfl ?_; go_frame)
      | ((with_reducible change wpList _ _ _ (Oper.mk (some 17) _ _ _ _ _ :: _) _ _); refine kLenN _ _ _ v _ m rfl rfl rfl hV hm Tryz.underlying38 ?_; go_frame)
      | ((with_reducible change wpList _ _ _ (Oper.mk (some 18) _ _ _ _ _ :: _) _ _); refine kEqlI _ _ _ _ .i64 (m : Int) 0 false rfl rfl rfl rfl hm0 ?_; go_frame)
      | ((with_reducible change wpList _ _ _ (Oper.mk (some 24) _ _ _ _ _ :: _) _ _); refine kS0 _ g rfl rfl rfl ?_; go_frame)
      | ((with_reducible change wpList _ _ _ (Oper.mk (some 25) _ _ _ _ _ :: _) _ _); refine kLoad1 _ _ _ g 0 _ v _ rfl rfl rfl hR Tryz.underlying38 rfl rfl ?_; go_frame)
      | ((with_reducible change wpList _ _ _ (Oper.mk (some 26) _ _ _ _ _ :: _) _ _); refine kIndexAddrV _ _ _ _ .i64 v _ 0 0 (VB c) rfl rfl rfl hV rfl Tryz.underlying38 info_b8P rfl rfl ?_; intro b hb; go_frame)
      | ((with_reducible change wpList _ _ _ (Oper.mk (some 27) _ _ _ _ _ :: _) _ _); refine kLoadCell _ _ b (VB c) _ rfl rfl rfl hb Tryz.underlying5 rfl ?_; clear hb; go_frame)
      | ((with_reducible change wpList _ _ _ (Oper.mk (some 29) _ _ _ _ _ :: _) _ _); refine kGtrI _ _ _ _ .u8 (B c) 252 true rfl rfl rfl rfl hb1 ?_; go_frame)
      | ((with_reducible change wpList _ _ _ (Oper.mk (some 31) _ _ _ _ _ :: _) _ _); refine kGtrI _ _ _ _ .u8 (B c) 253 true rfl rfl rfl rfl hb2 ?_; go_frame)
      | ((with_reducible change wpList _ _ _ (Oper.mk (some 33) _ _ _ _ _ :: _) _ _); refine kGtrI _ _ _ _ .u8 (B c) 254 true rfl rfl rfl rfl hb3 ?_; go_frame)
      | ((with_reducible change wpList _ _ _ (Oper.mk (some 36) _ _ _ _ _ :: _) _ _); refine kS0 _ g rfl rfl rfl ?_; go_frame)
      | ((with_reducible change wpList _ _ _ (Oper.mk (some 37) _ _ _ _ _ :: _) _ _); refine kLoad1 _ _ _ g 0 _ v _ rfl rfl rfl hR Tryz.underlying38 rfl rfl ?_; go_frame)
      | ((with_reducible change wpList _ _ _ (Oper.mk (some 38) _ _ _ _ _ :: _) _ _); refine kLenN _ _ _ v _ m rfl rfl rfl hV hm Tryz.underlying38 ?_; go_frame)
      | ((with_reducible change wpList _ _ _ (Oper.mk (some 41) _ _ _ _ _ :: _) _ _); refine kLssI _ _ _ _ .i64 (m : Int) 9 false rfl rfl rfl rfl hsh ?_; go_frame)
      | ((with_reducible change wpList _ _ _ (Oper.mk (some 46) _ _ _ _ _ :: _) _ _); refine kConvB8 _ c.toNat hc8 rfl rfl rfl ?_; go_frame)
      | ((with_reducible change wpList _ _ _ (Oper.mk (some 51) _ _ _ _ _ :: _) _ _); refine kS0 _ g rfl rfl rfl ?_; go_frame)
      | ((with_reducible change wpList _ _ _ (Oper.mk (some 52) _ _ _ _ _ :: _) _ _); refine kLoad1 _ _ _ g 0 _ v _ rfl rfl rfl hR Tryz.underlying38 rfl rfl ?_; go_frame)
      | ((with_reducible change wpList _ _ _ (Oper.mk (some 55) _ _ _ _ _ :: _) _ _); refine kSliceLH _ _ _ v (c :: r) 1 9 hV (by decide) hfl rfl rfl rfl rfl rfl ?_; intro u hU; go_frame)
      | (go_at_call 83; refine (jNumber_any _ hU h8).mono ?_; rintro e w9 ⟨rfl, rfl⟩; rw [hnu]; clear hU; go_frame)
      | (go_at_call 44; refine (jCount_any N hN _).mono ?_; rintro e w2 ⟨v2, rfl, hO2, hB2⟩; have h2 := h.below hB2; obtain ⟨v3, hR3, hV3, hL3⟩ := id h2; change Row w2 g _ #[v3, .int .i64 0] at hR3; go_frame)
      | ((with_reducible change wpList _ _ _ (Oper.mk (some 59) _ _ _ _ _ :: _) _ _); refine kLenN _ _ _ v2 _ q rfl rfl rfl hO2.vals (by rw [List.length_map, countL_len, hqe]) Tryz.underlying38 ?_; go_frame)
      | ((with_reducible change wpList _ _ _ (Oper.mk (some 62) _ _ _ _ _ :: _) _ _); refine kNeqI _ _ _ _ .i64 (q : Int) 9 false rfl rfl rfl rfl hne ?_; go_frame)
      | ((with_reducible change wpList _ _ _ (Oper.mk (some 66) _ _ _ _ _ :: _) _ _); refine kGtrI _ _ _ _ .u64 (N : Int) (most : Int) false rfl rfl rfl rfl hgt ?_; go_frame)
      | (go_at_call 82; refine (jTake_any (n := 9) _ h2 hfl hs).mono ?_; rintro e w4 ⟨v4, rfl, hV4, hR4, hX4⟩; go_frame))
    go_ret
    exact ⟨rfl, hR4, (exc_below g hB2).trans hX4⟩
theorem jCountOf_any {s : Scn} {g most : Nat} (w : World) (h : Rd Lm 89 w g s) (hs : s.rest.length ≤ 1000000) : Calls Tryz.prog 51 #[.pointer (some ⟨g, 0, none⟩), .int .u64 (most : Int)] w (PNumPost Lm 89 g w (countS s most)) := by
  by_cases he : s.err ≠ 0
  · exact jCountOf_bad w h he
  · obtain ⟨l, e⟩ := s
    obtain rfl : e = 0 := by simpa using he
    cases l with
    | nil => exact jCountOf_nil w h
    | cons c r =>
      rcases byte_cases c with hc | hc | hc | hc
      · exact jCountOf_0 hc w h hs
      · exact jCountOf_2 hc w h hs
      · exact jCountOf_4 hc w h hs
      · exact jCountOf_8 hc w h hs
set_option maxRecDepth 100000 in
set_option maxHeartbeats 8000000 in
theorem jTextOf_own {s : Scn} {g : Nat} {z : Int} (hz : z < 9223372036854775808) (w : World) (h : Rd Lm 89 w g s) (hs : s.rest.length ≤ 1000000) : Calls Tryz.prog 86 #[.pointer (some ⟨g, 0, none⟩), .int .i64 z] w (RawPost Lm 89 g w (textS s z)) := by
  obtain ⟨i, hi, hzz, hs1, hby⟩ := b8Info
  have hmx := max0 z
  have hm9 : z.toNat < 9223372036854775808 := by omega
  have hnl := count_le s z.toNat
  have hrl := count_restLe s z.toNat
  have hct := jCountOf_any (most := z.toNat) w h hs
  unfold textS
  generalize z.toNat = m at *
  generalize countS s m = q at *
  obtain ⟨n, t⟩ := q
  dsimp only at hnl hrl ⊢
  obtain ⟨v0, hR0, hV0, hL0⟩ := id h
  have hone := vals_one hV0
  obtain ⟨E, hE⟩ : ∃ E, t.err = E := ⟨_, rfl⟩
  obtain ⟨k, hk⟩ : ∃ k, t.rest.length = k := ⟨_, rfl⟩
  rw [hE]
  by_cases he : E ≠ 0
  · rw [if_pos he]
    have hq : decide ((E : Int) = 0) = false := by simp; exact he
    have hq2 : (!decide ((E : Int) = 0)) = true := by simp; exact he
    clear he
    go_enter Tryz.func86, Tryz.ntmps86
    go_wp2_with (first
      | ((with_reducible change wpList _ _ _ (Oper.mk (some 9) _ _ _ _ _ :: _) _ _); refine kS0 _ g rfl rfl rfl ?_; go_frame)
      | ((with_reducible change wpList _ _ _ (Oper.mk (some 10) _ _ _ _ _ :: _) _ _); refine kLoad1 _ _ _ g 0 _ v0 _ rfl rfl rfl hR0 Tryz.underlying38 rfl rfl ?_; go_frame)
      | ((with_reducible change wpList _ _ _ (Oper.mk (some 13) _ _ _ _ _ :: _) _ _); refine kMaxZ _ _ z 0 (m : Int) hmx rfl rfl rfl rfl ?_; go_frame)
      | ((with_reducible change wpList _ _ _ (Oper.mk (some 14) _ _ _ _ _ :: _) _ _); refine kConvIU _ m (by omega) rfl rfl rfl ?_; go_frame)
      | (go_at_call 51; refine (hct).mono ?_; rintro e w1 ⟨rfl, hR1, hX1⟩; clear hct; change Rd Lm _ _ _ t at hR1; obtain ⟨v, hR, hV, hL⟩ := id hR1; rw [hE] at hR; go_frame)
      | ((with_reducible change wpList _ _ _ (Oper.mk (some 18) _ _ _ _ _ :: _) _ _); refine kS1 _ g rfl rfl rfl ?_; go_frame)
      | ((with_reducible change wpList _ _ _ (Oper.mk (some 19) _ _ _ _ _ :: _) _ _); refine kLoad1 _ _ _ g 1 _ (.int .i64 (E : Int)) _ rfl rfl rfl hR Tryz.underlying3 rfl rfl ?_; go_frame)
      | ((with_reducible change wpList _ _ _ (Oper.mk (some 20) _ _ _ _ _ :: _) _ _); refine kEqlI _ _ _ _ .i64 (E : Int) 0 false rfl rfl rfl rfl hq ?_; go_frame)
      | ((with_reducible change wpList _ _ _ (Oper.mk (some 40) _ _ _ _ _ :: _) _ _); refine kS1 _ g rfl rfl rfl ?_; go_frame)
      | ((with_reducible change wpList _ _ _ (Oper.mk (some 41) _ _ _ _ _ :: _) _ _); refine kLoad1 _ _ _ g 1 _ (.int .i64 (E : Int)) _ rfl rfl rfl hR Tryz.underlying3 rfl rfl ?_; go_frame)
      | ((with_reducible change wpList _ _ _ (Oper.mk (some 42) _ _ _ _ _ :: _) _ _); refine kNeqI _ _ _ _ .i64 (E : Int) 0 true rfl rfl rfl rfl hq2 ?_; go_frame)
      | ((with_reducible change wpList _ _ _ (Oper.mk (some 43) _ _ _ _ _ :: _) _ _); refine kBuildSlice0 _ _ rfl rfl Tryz.underlying38 i hi ?_; intro w5 hR5 hz5 hB5; clear hz5; have hO5 : OwnB w5 _ _ [] := own_empty (Nat.le_refl _) hR5; clear hR5; go_frame))
    go_ret
    exact ⟨_, rfl, own_less hX1.size hO5, hR1.below hB5, hX1.trans (exc_below g hB5)⟩
  rw [if_neg he]
  have hq : decide ((E : Int) = 0) = true := by simp; omega
  have hq2 : (!decide ((E : Int) = 0)) = false := by simp; omega
  have hE0 : t.err = 0 := by omega
  clear he
  by_cases hn : t.rest.length < n
  · rw [if_pos hn]
    have hgt : decide ((n : Int) > (k : Int)) = true := by simp; omega
    go_enter Tryz.func86, Tryz.ntmps86
    go_wp2_with (first
      | ((with_reducible change wpList _ _ _ (Oper.mk (some 9) _ _ _ _ _ :: _) _ _); refine kS0 _ g rfl rfl rfl ?_; go_frame)
      | ((with_reducible change wpList _ _ _ (Oper.mk (some 10) _ _ _ _ _ :: _) _ _); refine kLoad1 _ _ _ g 0 _ v0 _ rfl rfl rfl hR0 Tryz.underlying38 rfl rfl ?_; go_frame)
      | ((with_reducible change wpList _ _ _ (Oper.mk (some 13) _ _ _ _ _ :: _) _ _); refine kMaxZ _ _ z 0 (m : Int) hmx rfl rfl rfl rfl ?_; go_frame)
      | ((with_reducible change wpList _ _ _ (Oper.mk (some 14) _ _ _ _ _ :: _) _ _); refine kConvIU _ m (by omega) rfl rfl rfl ?_; go_frame)
      | (go_at_call 51; refine (hct).mono ?_; rintro e w1 ⟨rfl, hR1, hX1⟩; clear hct; change Rd Lm _ _ _ t at hR1; obtain ⟨v, hR, hV, hL⟩ := id hR1; rw [hE] at hR; go_frame)
      | ((with_reducible change wpList _ _ _ (Oper.mk (some 18) _ _ _ _ _ :: _) _ _); refine kS1 _ g rfl rfl rfl ?_; go_frame)
      | ((with_reducible change wpList _ _ _ (Oper.mk (some 19) _ _ _ _ _ :: _) _ _); refine kLoad1 _ _ _ g 1 _ (.int .i64 (E : Int)) _ rfl rfl rfl hR Tryz.underlying3 rfl rfl ?_; go_frame)
      | ((with_reducible change wpList _ _ _ (Oper.mk (some 20) _ _ _ _ _ :: _) _ _); refine kEqlI _ _ _ _ .i64 (E : Int) 0 true rfl rfl rfl rfl hq ?_; go_frame)
      | ((with_reducible change wpList _ _ _ (Oper.mk (some 25) _ _ _ _ _ :: _) _ _); refine kS0 _ g rfl rfl rfl ?_; go_frame)
      | ((with_reducible change wpList _ _ _ (Oper.mk (some 26) _ _ _ _ _ :: _) _ _); refine kLoad1 _ _ _ g 0 _ v _ rfl rfl rfl hR Tryz.underlying38 rfl rfl ?_; go_frame)
      | ((with_reducible change wpList _ _ _ (Oper.mk (some 27) _ _ _ _ _ :: _) _ _); refine kLenN _ _ _ v _ k rfl rfl rfl hV (by rw [List.length_map, hk]) Tryz.underlying38 ?_; go_frame)
      | ((with_reducible change wpList _ _ _ (Oper.mk (some 28) _ _ _ _ _ :: _) _ _); refine kConvIU _ k (by omega) rfl rfl rfl ?_; go_frame)
      | ((with_reducible change wpList _ _ _ (Oper.mk (some 29) _ _ _ _ _ :: _) _ _); refine kGtrI _ _ _ _ .u64 (n : Int) (k : Int) true rfl rfl rfl rfl hgt ?_; go_frame)
      | ((with_reducible change wpList _ _ _ (Oper.mk (some 33) _ _ _ _ _ :: _) _ _); refine kS1 _ g rfl rfl rfl ?_; go_frame)
      | ((with_reducible change wpList _ _ _ (Oper.mk none (Op.store _ (Operand.tmp 33) _) _ _ _ _ :: _) _ _); refine kStore1 _ _ _ _ g 1 _ (.int .i64 61) rfl rfl rfl rfl hR info_intP (show 1 < 2 by decide) rfl ?_; intro w2 hR2 hW2; go_frame)
      | ((with_reducible change wpList _ _ _ (Oper.mk (some 37) _ _ _ _ _ :: _) _ _); refine kS0 _ g rfl rfl rfl ?_; go_frame)
      | ((with_reducible change wpList _ _ _ (Oper.mk none (Op.store _ (Operand.tmp 37) _) _ _ _ _ :: _) _ _); refine kStore1 _ _ _ _ g 0 _ (v0) rfl rfl rfl rfl hR2 info_bytesP (show 0 < 2 by decide) hone ?_; intro w3 hR3 hW3; go_frame)
      | ((with_reducible change wpList _ _ _ (Oper.mk (some 40) _ _ _ _ _ :: _) _ _); refine kS1 _ g rfl rfl rfl ?_; go_frame)
      | ((with_reducible change wpList _ _ _ (Oper.mk (some 41) _ _ _ _ _ :: _) _ _); refine kLoad1 _ _ _ g 1 _ (.int .i64 61) _ rfl rfl rfl hR3 Tryz.underlying3 rfl rfl ?_; go_frame)
      | ((with_reducible change wpList _ _ _ (Oper.mk (some 42) _ _ _ _ _ :: _) _ _); refine kNeqI _ _ _ _ .i64 61 0 true rfl rfl rfl rfl (by decide) ?_; go_frame)
      | ((with_reducible change wpList _ _ _ (Oper.mk (some 43) _ _ _ _ _ :: _) _ _); refine kBuildSlice0 _ _ rfl rfl Tryz.underlying38 i hi ?_; intro w5 hR5 hz5 hB5; clear hz5; have hO5 : OwnB w5 _ _ [] := own_empty (Nat.le_refl _) hR5; clear hR5; go_frame))
    go_ret
    have hX := (hX1.trans (exc_wrote hW2)).trans (exc_wrote hW3)
    have h4 : Rd Lm 89 w3 g ⟨s.rest, 61⟩ := ⟨v0, hR3, hX.vals h hV0, hL0⟩
    exact ⟨_, rfl, own_less hX.size hO5, h4.below hB5, hX.trans (exc_below g hB5)⟩
  · rw [if_neg hn]
    have hgt : decide ((n : Int) > (k : Int)) = false := by simp; omega
    have hnk : n ≤ t.rest.length := by omega
    go_enter Tryz.func86, Tryz.ntmps86
    go_wp2_with (first
      | ((with_reducible change wpList _ _ _ (Oper.mk (some 9) _ _ _ _ _ :: _) _ _); refine kS0 _ g rfl rfl rfl ?_; go_frame)
      | ((with_reducible change wpList _ _ _ (Oper.mk (some 10) _ _ _ _ _ :: _) _ _); refine kLoad1 _ _ _ g 0 _ v0 _ rfl rfl rfl hR0 Tryz.underlying38 rfl rfl ?_; go_frame)
      | ((with_reducible change wpList _ _ _ (Oper.mk (some 13) _ _ _ _ _ :: _) _ _); refine kMaxZ _ _ z 0 (m : Int) hmx rfl rfl rfl rfl ?_; go_frame)
      | ((with_reducible change wpList _ _ _ (Oper.mk (some 14) _ _ _ _ _ :: _) _ _); refine kConvIU _ m (by omega) rfl rfl rfl ?_; go_frame)
      | (go_at_call 51; refine (hct).mono ?_; rintro e w1 ⟨rfl, hR1, hX1⟩; clear hct; change Rd Lm _ _ _ t at hR1; obtain ⟨v, hR, hV, hL⟩ := id hR1; rw [hE] at hR; go_frame)
      | ((with_reducible change wpList _ _ _ (Oper.mk (some 18) _ _ _ _ _ :: _) _ _); refine kS1 _ g rfl rfl rfl ?_; go_frame)
      | ((with_reducible change wpList _ _ _ (Oper.mk (some 19) _ _ _ _ _ :: _) _ _); refine kLoad1 _ _ _ g 1 _ (.int .i64 (E : Int)) _ rfl rfl rfl hR Tryz.underlying3 rfl rfl ?_; go_frame)
      | ((with_reducible change wpList _ _ _ (Oper.mk (some 20) _ _ _ _ _ :: _) _ _); refine kEqlI _ _ _ _ .i64 (E : Int) 0 true rfl rfl rfl rfl hq ?_; go_frame)
      | ((with_reducible change wpList _ _ _ (Oper.mk (some 25) _ _ _ _ _ :: _) _ _); refine kS0 _ g rfl rfl rfl ?_; go_frame)
      | ((with_reducible change wpList _ _ _ (Oper.mk (some 26) _ _ _ _ _ :: _) _ _); refine kLoad1 _ _ _ g 0 _ v _ rfl rfl rfl hR Tryz.underlying38 rfl rfl ?_; go_frame)
      | ((with_reducible change wpList _ _ _ (Oper.mk (some 27) _ _ _ _ _ :: _) _ _); refine kLenN _ _ _ v _ k rfl rfl rfl hV (by rw [List.length_map, hk]) Tryz.underlying38 ?_; go_frame)
      | ((with_reducible change wpList _ _ _ (Oper.mk (some 28) _ _ _ _ _ :: _) _ _); refine kConvIU _ k (by omega) rfl rfl rfl ?_; go_frame)
      | ((with_reducible change wpList _ _ _ (Oper.mk (some 29) _ _ _ _ _ :: _) _ _); refine kGtrI _ _ _ _ .u64 (n : Int) (k : Int) false rfl rfl rfl rfl hgt ?_; go_frame)
      | ((with_reducible change wpList _ _ _ (Oper.mk (some 40) _ _ _ _ _ :: _) _ _); refine kS1 _ g rfl rfl rfl ?_; go_frame)
      | ((with_reducible change wpList _ _ _ (Oper.mk (some 41) _ _ _ _ _ :: _) _ _); refine kLoad1 _ _ _ g 1 _ (.int .i64 (E : Int)) _ rfl rfl rfl hR Tryz.underlying3 rfl rfl ?_; go_frame)
      | ((with_reducible change wpList _ _ _ (Oper.mk (some 42) _ _ _ _ _ :: _) _ _); refine kNeqI _ _ _ _ .i64 (E : Int) 0 false rfl rfl rfl rfl hq2 ?_; go_frame)
      | ((with_reducible change wpList _ _ _ (Oper.mk (some 46) _ _ _ _ _ :: _) _ _); refine kConvUI _ n (by omega) rfl rfl rfl ?_; go_frame)
      | (go_at_call 82; refine (jTake_own (n := n) _ hR1 hnk (by omega)).mono ?_; rintro e w4 ⟨v4, rfl, hV4, hR4, hX4⟩; go_frame))
    go_ret
    rw [show t.err = 0 by omega] at hR4
    exact ⟨_, rfl, own_less hX1.size hV4, hR4, hX1.trans hX4⟩
end Go.Proofs.YtmfjgehlkbndjaaGreatDoor
