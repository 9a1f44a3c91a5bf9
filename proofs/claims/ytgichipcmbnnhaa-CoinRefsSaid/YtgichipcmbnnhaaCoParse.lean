/-
  Layer 9: the walk of Parse.
-/
import Derived.Test.YtgichipcmbnnhaaCoRead
import Derived.Test.YtgichipcmbnnhaaPcCount
namespace Go.Proofs.Ytgichipcmbnnhaa
open Go Go.RowKit

def ParsePost (w : World) (p : CoinP × Nat) (e : Ending) (w' : World) : Prop := ∃ u, e = .returned (.tuple #[.agg (coinV p.1 u), .int .i64 (p.2 : Int)]) ∧ OwnB w' w.heap.size u p.1.lock ∧ Below w.heap.size w w'
theorem coin_noByte (n h : Int) (b : Bool) {w : World} {v : Value} {l : List Value} (hv : IsVals w v l) (j : Nat) (c : UInt8) : (coinC n v h b)[j]? ≠ some (VB c) := by
  obtain ⟨ao, k, rfl, _⟩ := hv
  match j with
  | 0 => simp [coinC]
  | 1 => simp [coinC]
  | 2 => simp [coinC]
  | 3 => simp [coinC]
  | j + 4 => simp [coinC]
theorem count_restLeC (s : Scn) (m : Nat) : (countS s m).2.rest.length ≤ s.rest.length := count_restLe s m
set_option maxRecDepth 100000 in
set_option maxHeartbeats 8000000 in
theorem coParse_any {b : List UInt8} {v : Value} (W0 : World) (hv : IsVals W0 v (b.map VB)) (hl : b.length ≤ 1000000) : Calls Try.prog 9 #[v] W0 (ParsePost W0 (parseC b)) := by
  obtain ⟨R, hR⟩ : ∃ R, parseC b = R := ⟨_, rfl⟩
  rw [hR]
  unfold parseC at hR
  obtain ⟨p, hp⟩ : ∃ p, countS ⟨b, 0⟩ 2000000001 = p := ⟨_, rfl⟩
  have hrc : ∀ (Lm : Nat) (w : World) (g : Nat), Rd Lm 73 w g ⟨b, 0⟩ → Calls Try.prog 33 #[.pointer (some ⟨g, 0, none⟩), .int .u64 2000000001] w (PNumPost Lm 73 g w p) := fun Lm w g h => by rw [← hp]; exact rdCount_any (most := 2000000001) w h
  have hP : p.1 ≤ 2000000001 := by rw [← hp]; exact count_le _ _
  have hpr : p.2.rest.length ≤ 1000000 := by rw [← hp]; exact Nat.le_trans (count_restLe _ _) hl
  rw [hp] at hR
  obtain ⟨q, hq⟩ : ∃ q, fixedS p.2 8 = q := ⟨_, rfl⟩
  have hrv : ∀ (Lm : Nat) (w : World) (g : Nat), Rd Lm 73 w g p.2 → Calls Try.prog 34 #[.pointer (some ⟨g, 0, none⟩)] w (VPost Lm 73 g w q) := fun Lm w g h => by rw [← hq]; exact coValueRead_any w h
  have hqr : q.2.rest.length ≤ 1000000 := by rw [← hq]; exact Nat.le_trans (fixed_restLeC p.2 8) hpr
  rw [hq] at hR
  obtain ⟨r, hr⟩ : ∃ r, textS q.2 2000 = r := ⟨_, rfl⟩
  have hrl : ∀ (Lm : Nat) (w : World) (g : Nat), Rd Lm 73 w g q.2 → Calls Try.prog 35 #[.pointer (some ⟨g, 0, none⟩)] w (RawPost Lm 73 g w r) := fun Lm w g h => by rw [← hr]; exact coLockRead_any w h hqr
  rw [hr] at hR
  obtain ⟨V, hV⟩ : ∃ V, i64Z q.1 = V := ⟨_, rfl⟩
  obtain ⟨E, hE⟩ : ∃ E, r.2.err = E := ⟨_, rfl⟩
  obtain ⟨n, hn⟩ : ∃ n, r.2.rest.length = n := ⟨_, rfl⟩
  obtain ⟨P, hPP⟩ : ∃ P, p.1 = P := ⟨_, rfl⟩
  obtain ⟨X, hX⟩ : ∃ X, r.1 = X := ⟨_, rfl⟩
  rw [hV, hE, hn, hPP, hX] at hR
  rw [hPP] at hP
  clear hp hq hr hpr hqr
  by_cases m0 : moneyB V = false
  · rw [if_pos m0] at hR
    subst hR
    have hm := m0
    clear m0
    go_enter Try.func9, Try.ntmps9
    go_wp2_with (first
      | ((with_reducible change wpList _ _ _ (Oper.mk (some 2) _ _ _ _ _ :: _) _ _); refine kAllocL _ _ rfl rfl zero_CoinC ?_; intro w1 hRA hz1 hB1; have hv1 := hv.below hB1; go_frame)
      | (go_at_call 21; refine (pcNew_any _ hv1 hl).mono ?_; rintro e w2 ⟨g, rfl, hg2, h2, hB2⟩; have hRA2 := hRA.below hB2 hRA.lt; have hgA : W0.heap.size ≠ g := (by omega); have hge : W0.heap.size ≤ g := (by omega); have hB3 := hB1.trans (hB2.mono hB1.size); clear hRA hB1 hB2 hv1 hz1 hg2; go_frame)
      | (go_at_call 33; refine (hrc _ _ _ h2).mono ?_; rintro e w3 ⟨rfl, h3, hX3⟩; have hRA3 := hX3.row hRA2 hgA; have hB4 := hB3.trans (hX3.below hge hB3.size); rw [hPP]; clear hRA2 hB3 h2 hX3 hrc; go_frame)
      | (go_at_call 34; refine (hrv _ _ _ h3).mono ?_; rintro e w4 ⟨rfl, h4, hX4⟩; have hRA4 := hX4.row hRA3 hgA; have hB5 := hB4.trans (hX4.below hge hB4.size); rw [hV]; clear hRA3 hB4 h3 hX4 hrv; go_frame)
      | (go_at_call 11; refine (coMoney_any V _).mono ?_; rintro e w5 ⟨rfl, rfl⟩; rw [hm]; go_frame)
      | ((with_reducible change wpList _ _ _ (Oper.mk (some 18) _ _ _ _ _ :: _) _ _); refine kBuildCoin0 rfl rfl ?_; go_frame)
      | ((with_reducible change wpList _ _ _ (Oper.mk none _ _ _ _ _ :: _) _ _); refine kStoreCoin _ _ W0.heap.size 0 (.slice none 0 0) 0 false _ hRA4 rfl (isVals_nil W0) rfl rfl rfl rfl ?_; intro y hRA9 hW9; have hB9 := hB5.trans (hW9.below (Nat.le_refl _)); go_frame))
    (try simp only [Exit.inBlock, Exit.then])
    exact result_row_tmp rfl rfl rfl hRA9 Try.underlying29 rfl info_CoinC rfl ⟨_, rfl, ownB_nil _ _, hB9⟩
  rw [if_neg m0] at hR
  have hm : moneyB V = true := by simpa using m0
  clear m0
  by_cases e0 : E ≠ 0
  · rw [if_pos e0] at hR
    subst hR
    have he : (!decide ((E : Int) = 0)) = true := by simp; exact e0
    clear e0
    go_enter Try.func9, Try.ntmps9
    go_wp2_with (first
      | ((with_reducible change wpList _ _ _ (Oper.mk (some 2) _ _ _ _ _ :: _) _ _); refine kAllocL _ _ rfl rfl zero_CoinC ?_; intro w1 hRA hz1 hB1; have hv1 := hv.below hB1; go_frame)
      | (go_at_call 21; refine (pcNew_any _ hv1 hl).mono ?_; rintro e w2 ⟨g, rfl, hg2, h2, hB2⟩; have hRA2 := hRA.below hB2 hRA.lt; have hgA : W0.heap.size ≠ g := (by omega); have hge : W0.heap.size ≤ g := (by omega); have hB3 := hB1.trans (hB2.mono hB1.size); clear hRA hB1 hB2 hv1 hz1 hg2; go_frame)
      | (go_at_call 33; refine (hrc _ _ _ h2).mono ?_; rintro e w3 ⟨rfl, h3, hX3⟩; have hRA3 := hX3.row hRA2 hgA; have hB4 := hB3.trans (hX3.below hge hB3.size); rw [hPP]; clear hRA2 hB3 h2 hX3 hrc; go_frame)
      | (go_at_call 34; refine (hrv _ _ _ h3).mono ?_; rintro e w4 ⟨rfl, h4, hX4⟩; have hRA4 := hX4.row hRA3 hgA; have hB5 := hB4.trans (hX4.below hge hB4.size); rw [hV]; clear hRA3 hB4 h3 hX4 hrv; go_frame)
      | (go_at_call 11; refine (coMoney_any V _).mono ?_; rintro e w5 ⟨rfl, rfl⟩; rw [hm]; go_frame)
      | (go_at_call 35; refine (hrl _ _ _ h4).mono ?_; rintro e w6 ⟨u, rfl, hO0, h6, hX6⟩; have hRA6 := hX6.row hRA4 hgA; have hO6 := own_less hB5.size hO0; have hB7 := hB5.trans (hX6.below hge hB5.size); rw [hX] at hO6; clear hRA4 hB5 h4 hX6 hrl hO0; go_frame)
      | (go_at_call 25; refine (rdErr_any (n := E) _ h6 hE).mono ?_; rintro e w8 ⟨rfl, rfl⟩; go_frame)
      | ((with_reducible change wpList _ _ _ (Oper.mk (some 23) _ _ _ _ _ :: _) _ _); refine kNeqI _ _ _ _ .i64 (E : Int) 0 true rfl rfl rfl rfl he ?_; go_frame)
      | ((with_reducible change wpList _ _ _ (Oper.mk (some 24) _ _ _ _ _ :: _) _ _); refine kBuildCoin0 rfl rfl ?_; go_frame)
      | ((with_reducible change wpList _ _ _ (Oper.mk none _ _ _ _ _ :: _) _ _); refine kStoreCoin _ _ W0.heap.size 0 (.slice none 0 0) 0 false _ hRA6 rfl (isVals_nil W0) rfl rfl rfl rfl ?_; intro y hRA9 hW9; have hB9 := hB7.trans (hW9.below (Nat.le_refl _)); go_frame))
    (try simp only [Exit.inBlock, Exit.then])
    exact result_row_tmp rfl rfl rfl hRA9 Try.underlying29 rfl info_CoinC rfl ⟨_, rfl, ownB_nil _ _, hB9⟩
  rw [if_neg e0] at hR
  have he : (!decide ((E : Int) = 0)) = false := by simp; omega
  clear e0
  by_cases n0 : 0 < n
  · rw [if_pos n0] at hR
    subst hR
    have hn0 : decide ((n : Int) > 0) = true := by simp; omega
    clear n0
    go_enter Try.func9, Try.ntmps9
    go_wp2_with (first
      | ((with_reducible change wpList _ _ _ (Oper.mk (some 2) _ _ _ _ _ :: _) _ _); refine kAllocL _ _ rfl rfl zero_CoinC ?_; intro w1 hRA hz1 hB1; have hv1 := hv.below hB1; go_frame)
      | (go_at_call 21; refine (pcNew_any _ hv1 hl).mono ?_; rintro e w2 ⟨g, rfl, hg2, h2, hB2⟩; have hRA2 := hRA.below hB2 hRA.lt; have hgA : W0.heap.size ≠ g := (by omega); have hge : W0.heap.size ≤ g := (by omega); have hB3 := hB1.trans (hB2.mono hB1.size); clear hRA hB1 hB2 hv1 hz1 hg2; go_frame)
      | (go_at_call 33; refine (hrc _ _ _ h2).mono ?_; rintro e w3 ⟨rfl, h3, hX3⟩; have hRA3 := hX3.row hRA2 hgA; have hB4 := hB3.trans (hX3.below hge hB3.size); rw [hPP]; clear hRA2 hB3 h2 hX3 hrc; go_frame)
      | (go_at_call 34; refine (hrv _ _ _ h3).mono ?_; rintro e w4 ⟨rfl, h4, hX4⟩; have hRA4 := hX4.row hRA3 hgA; have hB5 := hB4.trans (hX4.below hge hB4.size); rw [hV]; clear hRA3 hB4 h3 hX4 hrv; go_frame)
      | (go_at_call 11; refine (coMoney_any V _).mono ?_; rintro e w5 ⟨rfl, rfl⟩; rw [hm]; go_frame)
      | (go_at_call 35; refine (hrl _ _ _ h4).mono ?_; rintro e w6 ⟨u, rfl, hO0, h6, hX6⟩; have hRA6 := hX6.row hRA4 hgA; have hO6 := own_less hB5.size hO0; have hB7 := hB5.trans (hX6.below hge hB5.size); rw [hX] at hO6; clear hRA4 hB5 h4 hX6 hrl hO0; go_frame)
      | (go_at_call 25; refine (rdErr_any (n := E) _ h6 hE).mono ?_; rintro e w8 ⟨rfl, rfl⟩; go_frame)
      | ((with_reducible change wpList _ _ _ (Oper.mk (some 23) _ _ _ _ _ :: _) _ _); refine kNeqI _ _ _ _ .i64 (E : Int) 0 false rfl rfl rfl rfl he ?_; go_frame)
      | (go_at_call 24; refine (rdLeft_any (n := n) _ h6 hn).mono ?_; rintro e w9 ⟨rfl, rfl⟩; go_frame)
      | ((with_reducible change wpList _ _ _ (Oper.mk (some 29) _ _ _ _ _ :: _) _ _); refine kGtrI _ _ _ _ .i64 (n : Int) 0 true rfl rfl rfl rfl hn0 ?_; go_frame)
      | ((with_reducible change wpList _ _ _ (Oper.mk (some 30) _ _ _ _ _ :: _) _ _); refine kBuildCoin0 rfl rfl ?_; go_frame)
      | ((with_reducible change wpList _ _ _ (Oper.mk none _ _ _ _ _ :: _) _ _); refine kStoreCoin _ _ W0.heap.size 0 (.slice none 0 0) 0 false _ hRA6 rfl (isVals_nil W0) rfl rfl rfl rfl ?_; intro y hRA9 hW9; have hB9 := hB7.trans (hW9.below (Nat.le_refl _)); go_frame))
    (try simp only [Exit.inBlock, Exit.then])
    exact result_row_tmp rfl rfl rfl hRA9 Try.underlying29 rfl info_CoinC rfl ⟨_, rfl, ownB_nil _ _, hB9⟩
  · rw [if_neg n0] at hR
    subst hR
    have hn0 : decide ((n : Int) > 0) = false := by simp; omega
    have hq2 : i64Z (P / 2) = ((P / 2 : Nat) : Int) := by unfold i64Z; omega
    have hb2 : decide (((P % 2 : Nat) : Int) = 1) = decide (P % 2 = 1) := decide_eq_decide.2 (by omega)
    obtain ⟨H, hH⟩ : ∃ H, ((P / 2 : Nat) : Int) = H := ⟨_, rfl⟩
    obtain ⟨bb, hbb⟩ : ∃ bb, decide (P % 2 = 1) = bb := ⟨_, rfl⟩
    rw [hH] at hq2 ⊢
    rw [hbb] at hb2 ⊢
    clear n0 hH hbb
    go_enter Try.func9, Try.ntmps9
    go_wp2_with (first
      | ((with_reducible change wpList _ _ _ (Oper.mk (some 2) _ _ _ _ _ :: _) _ _); refine kAllocL _ _ rfl rfl zero_CoinC ?_; intro w1 hRA hz1 hB1; have hv1 := hv.below hB1; go_frame)
      | (go_at_call 21; refine (pcNew_any _ hv1 hl).mono ?_; rintro e w2 ⟨g, rfl, hg2, h2, hB2⟩; have hRA2 := hRA.below hB2 hRA.lt; have hgA : W0.heap.size ≠ g := (by omega); have hge : W0.heap.size ≤ g := (by omega); have hB3 := hB1.trans (hB2.mono hB1.size); clear hRA hB1 hB2 hv1 hz1 hg2; go_frame)
      | (go_at_call 33; refine (hrc _ _ _ h2).mono ?_; rintro e w3 ⟨rfl, h3, hX3⟩; have hRA3 := hX3.row hRA2 hgA; have hB4 := hB3.trans (hX3.below hge hB3.size); rw [hPP]; clear hRA2 hB3 h2 hX3 hrc; go_frame)
      | (go_at_call 34; refine (hrv _ _ _ h3).mono ?_; rintro e w4 ⟨rfl, h4, hX4⟩; have hRA4 := hX4.row hRA3 hgA; have hB5 := hB4.trans (hX4.below hge hB4.size); rw [hV]; clear hRA3 hB4 h3 hX4 hrv; go_frame)
      | (go_at_call 11; refine (coMoney_any V _).mono ?_; rintro e w5 ⟨rfl, rfl⟩; rw [hm]; go_frame)
      | (go_at_call 35; refine (hrl _ _ _ h4).mono ?_; rintro e w6 ⟨u, rfl, hO0, h6, hX6⟩; have hRA6 := hX6.row hRA4 hgA; have hO6 := own_less hB5.size hO0; have hB7 := hB5.trans (hX6.below hge hB5.size); rw [hX] at hO6; clear hRA4 hB5 h4 hX6 hrl hO0; go_frame)
      | (go_at_call 25; refine (rdErr_any (n := E) _ h6 hE).mono ?_; rintro e w8 ⟨rfl, rfl⟩; go_frame)
      | ((with_reducible change wpList _ _ _ (Oper.mk (some 23) _ _ _ _ _ :: _) _ _); refine kNeqI _ _ _ _ .i64 (E : Int) 0 false rfl rfl rfl rfl he ?_; go_frame)
      | (go_at_call 24; refine (rdLeft_any (n := n) _ h6 hn).mono ?_; rintro e w9 ⟨rfl, rfl⟩; go_frame)
      | ((with_reducible change wpList _ _ _ (Oper.mk (some 29) _ _ _ _ _ :: _) _ _); refine kGtrI _ _ _ _ .i64 (n : Int) 0 false rfl rfl rfl rfl hn0 ?_; go_frame)
      | ((with_reducible change wpList _ _ _ (Oper.mk (some 33) _ _ _ _ _ :: _) _ _); refine kBuildOut2 _ _ V u hO6.vals rfl rfl rfl rfl ?_; go_frame)
      | ((with_reducible change wpList _ _ _ (Oper.mk (some 8) _ _ _ _ _ :: _) _ _); refine kAllocL _ _ rfl rfl zero_OutC ?_; intro y1 hRB hz hB; have hAB := Nat.ne_of_lt hRA6.lt; have hle := hB7.size; have hRA7 := hRA6.below hB hRA6.lt; have hO7 := hO6.below hB; have hB8 := hB7.trans (hB.mono hB7.size); clear hRA6 hO6 hB7 hB hz h6; go_frame)
      | ((with_reducible change wpList _ _ _ (Oper.mk none _ _ _ _ _ :: _) _ _); refine kStoreOut _ _ _ V u _ hRB rfl hO7.vals rfl rfl rfl rfl ?_; intro y2 hRB2 hW2; have hRA8 := hW2.row hRA7 hAB; have hO8 := own_wroteN hO7 hRB (by decide) hW2; have hB9a := hB8.trans (hW2.below hle); clear hRA7 hO7 hB8 hRB hW2; go_frame)
      | ((with_reducible change wpList _ _ _ (Oper.mk (some 34) _ _ _ _ _ :: _) _ _); refine kLoadOut _ _ V u hRB2 rfl rfl rfl ?_; go_frame)
      | ((with_reducible change wpList _ _ _ (Oper.mk (some 36) _ _ _ _ _ :: _) _ _); refine kQuoU _ _ _ _ P 2 (by decide) (by omega) rfl rfl rfl rfl ?_; go_frame)
      | ((with_reducible change wpList _ _ _ (Oper.mk (some 37) _ _ _ _ _ :: _) _ _); refine kConvUZ _ (P / 2) rfl rfl rfl ?_; rw [hq2]; go_frame)
      | ((with_reducible change wpList _ _ _ (Oper.mk (some 39) _ _ _ _ _ :: _) _ _); refine kRemUP _ _ _ _ P 2 (by decide) rfl rfl rfl rfl ?_; go_frame)
      | ((with_reducible change wpList _ _ _ (Oper.mk (some 40) _ _ _ _ _ :: _) _ _); refine kEqlI _ _ _ _ .u64 ((P % 2 : Nat) : Int) 1 bb rfl rfl rfl rfl hb2 ?_; go_frame)
      | ((with_reducible change wpList _ _ _ (Oper.mk (some 41) _ _ _ _ _ :: _) _ _); refine kBuildCoin3 _ _ _ V u H bb hO8.vals rfl rfl rfl rfl rfl ?_; go_frame)
      | ((with_reducible change wpList _ _ _ (Oper.mk none _ _ _ _ _ :: _) _ _); refine kStoreCoin _ _ W0.heap.size V u H bb _ hRA8 rfl hO8.vals rfl rfl rfl rfl ?_; intro y hRA9 hW9; have hO9 := own_wroteN hO8 hRA8 (by decide) hW9; have hB9 := hB9a.trans (hW9.below (Nat.le_refl _)); go_frame))
    (try simp only [Exit.inBlock, Exit.then])
    exact result_row_tmp rfl rfl rfl hRA9 Try.underlying29 rfl info_CoinC rfl ⟨_, rfl, hO9, hB9⟩
def coA : CoinP := ⟨7, [81], 3, true⟩
theorem coA_bytes : coinL coA = [7, 7, 0, 0, 0, 0, 0, 0, 0, 1, 81] := by decide +kernel
theorem coA_right : rightC coA = true := by decide
end Go.Proofs.Ytgichipcmbnnhaa
