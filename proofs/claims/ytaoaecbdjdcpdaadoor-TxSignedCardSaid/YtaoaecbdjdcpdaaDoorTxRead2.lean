/-
  Layer 10: the walks of what reads, the reference's.
-/
import Derived.Test.YtaoaecbdjdcpdaaDoorTxRead
import Derived.Test.YtaoaecbdjdcpdaaDoorKitE
namespace Go.Proofs.YtaoaecbdjdcpdaaDoor
open Go Go.RowKit

variable {Lm : Nat}
theorem ownsRow_grown {n m : Nat} {E F : TypeId} {w w' : World} {b b' k : Nat} {v u : Value} {xs : List Value} {L : List (List Value)} (h : w.ownsRow b F m u k xs) (ho : OwnR n E w b' v L) (hE : E ≠ F) (hg : w.grownBy w' v.ownBlock) : w'.ownsRow b F m u k xs := by
  refine ⟨h.1, ?_⟩
  rcases h.2 with hn | ⟨g, cap, cur, rfl, hb, hk, rest⟩
  · exact .inl hn
  · refine .inr ⟨g, cap, cur, rfl, hb, ?_, rest⟩
    rw [hg.block g (Array.getElem?_eq_some_iff.1 hk).1 ?_]
    · exact hk
    · intro e
      rcases ho.1.2 with ⟨rfl, _⟩ | ⟨g', cap', cur', rfl, _, hg', _⟩
      · simp [Value.ownBlock] at e
      · simp only [Value.ownBlock, Option.some.injEq] at e
        subst e
        rw [hg'] at hk
        simp only [Option.some.injEq, Obj.cells.injEq] at hk
        exact hE hk.2.1
theorem ownIns_grownO {w w' : World} {b b' : Nat} {v u : Value} {l : List InP} {L : List (List Value)} (h : OwnIns w b u l) (ho : OwnR 2 36 w b' v L) (hg : w.grownBy w' v.ownBlock) : OwnIns w' b u l := by
  obtain ⟨zs, e, h1, h2⟩ := h
  exact ⟨zs, e, ⟨ownsRow_grown h1.1 ho (by decide) hg, h1.2⟩, fun z hz => ownsRow_grown (h2 z hz) ho (by decide) hg⟩
theorem inS_eq {s : Scn} {p : (List UInt8 × Nat) × Scn} {q : List UInt8 × Scn} {r : Nat × Scn} (hp : refS s = p) (hq : textS p.2 2000 = q) (hr : fixedS q.2 4 = r) : inS s = (⟨p.1.1, p.1.2, q.1, r.1⟩, r.2) := by
  unfold inS; rw [hp, hq, hr]
section
variable {P : Program} {ops : Array Oper} {S : World → Prop} {o : Oper} {a : Act}
end
set_option maxRecDepth 100000 in
set_option maxHeartbeats 8000000 in
theorem yRead_any {s : Scn} {g : Nat} (W0 : World) (h : Rd Lm 55 W0 g s) (hs : s.rest.length ≤ 1000000) (hLm : Lm ≤ W0.heap.size) : Calls Tryd.prog 28 #[.pointer (some ⟨g, 0, none⟩)] W0 (TxPost Lm 55 g W0 (readS s)) := by
  have hgl : Hid (g < W0.heap.size) := h.lt
  have hgA : W0.heap.size ≠ g := by have := hgl.out; omega
  obtain ⟨R, hR⟩ : ∃ R, readS s = R := ⟨_, rfl⟩
  rw [hR]
  unfold readS at hR
  rw [rawTx_eq] at hR
  obtain ⟨p, hp⟩ : ∃ p, fixedS s 4 = p := ⟨_, rfl⟩
  have hpr : p.2.rest.length ≤ 1000000 := by rw [← hp]; exact Nat.le_trans (fixed_restLeC s 4) hs
  have hp4 : p.1 % 4294967296 = p.1 := by rw [← hp]; exact Nat.mod_eq_of_lt (fixed4_lt s)
  rw [hp] at hR
  obtain ⟨q, hq⟩ : ∃ q, insS p.2 = q := ⟨_, rfl⟩
  have hqr : q.2.rest.length ≤ 1000000 := by rw [← hq]; exact Nat.le_trans (ins_restLe p.2) hpr
  rw [hq] at hR
  obtain ⟨r, hr⟩ : ∃ r, outsS q.2 = r := ⟨_, rfl⟩
  have hrr : r.2.rest.length ≤ 1000000 := by rw [← hr]; exact Nat.le_trans (outs_restLe q.2) hqr
  rw [hr] at hR
  obtain ⟨t, ht⟩ : ∃ t, fixedS r.2 4 = t := ⟨_, rfl⟩
  have ht4 : t.1 % 4294967296 = t.1 := by rw [← ht]; exact Nat.mod_eq_of_lt (fixed4_lt r.2)
  rw [ht] at hR
  dsimp only at hR
  obtain ⟨E, hE⟩ : ∃ E, t.2.err = E := ⟨_, rfl⟩
  rw [hE] at hR
  unfold insS at hq
  obtain ⟨c1, hc1⟩ : ∃ c, countS p.2 200 = c := ⟨_, rfl⟩
  have hc1r : c1.2.rest.length ≤ 1000000 := by rw [← hc1]; exact Nat.le_trans (count_restLe p.2 200) hpr
  have hN : c1.1 ≤ 200 := by rw [← hc1]; exact count_le p.2 200
  rw [hc1] at hq
  obtain ⟨N, s1⟩ := c1
  dsimp only at hc1r hN hq
  unfold outsS at hr
  obtain ⟨c2, hc2⟩ : ∃ c, countS q.2 200 = c := ⟨_, rfl⟩
  have hc2r : c2.2.rest.length ≤ 1000000 := by rw [← hc2]; exact Nat.le_trans (count_restLe q.2 200) hqr
  have hM : c2.1 ≤ 200 := by rw [← hc2]; exact count_le q.2 200
  rw [hc2] at hr
  obtain ⟨M, s2⟩ := c2
  dsimp only at hc2r hM hr
  go_enter Tryd.func28, Tryd.ntmps28
  go_wp2_with (first
    | ((with_reducible change wpList _ _ _ (Oper.mk (some 2) _ _ _ _ _ :: _) _ _); refine kAllocL _ _ rfl rfl zero_TxC ?_; intro w1 hRA hz1 hB1; have h1 := h.below hB1; have hE1 := exc_below g hB1; have hz1h : Hid (W0.heap.size < w1.heap.size) := hz1; clear hB1 hz1; go_frame)
    | (go_at_call 57; refine (jFixedOf_any (z := 4) _ h1 hs).mono ?_; rintro e w2 ⟨rfl, h2, hX2⟩; rw [hp] at h2 ⊢; have hRA2 := hX2.row hRA hgA; have hE2 := hE1.trans hX2; have hs2 : Hid (W0.heap.size < w2.heap.size) := Nat.lt_of_lt_of_le hz1h.out hX2.size; clear hRA hE1 hX2 h1 hz1h; go_frame)
    | ((with_reducible change wpList _ _ _ (Oper.mk (some 11) _ _ _ _ _ :: _) _ _); refine kConvUW _ p.1 rfl rfl rfl ?_; rw [hp4]; go_frame)
    | ((with_reducible change wpList _ _ _ (Oper.mk (some 12) _ _ _ _ _ :: _) _ _); refine kBuildTx1 _ p.1 rfl rfl rfl ?_; go_frame)
    | ((with_reducible change wpList _ _ _ (Oper.mk (some 3) _ _ _ _ _ :: _) _ _); refine kAllocL _ _ rfl rfl zero_TxC ?_; intro w3 hRB hz3 hB3; have hRA3 := hRA2.below hB3 hRA2.lt; have hz3h : Hid (w2.heap.size < w3.heap.size) := hz3; clear hz3; go_frame)
    | ((with_reducible change wpList _ _ _ (Oper.mk none _ _ _ _ _ :: _) _ _); refine kStoreTx _ _ w2.heap.size p.1 0 (.slice none 0 0) (.slice none 0 0) _ hRB rfl rfl rfl rfl rfl rfl rfl ?_; intro w4 hRB4 hW4; have hB4 := hB3.trans (hW4.below (Nat.le_refl _)); have h4 := h2.below hB4; have hRA4 := hW4.row hRA3 (Nat.ne_of_lt hs2.out); have hE4 := hE2.trans (exc_below g hB4); have hBb : Hid (w2.heap.size < w4.heap.size) := Nat.lt_of_lt_of_le hz3h.out (by rw [hW4.size]; exact Nat.le_refl _); clear hRB hB3 hW4 hB4 h2 hRA2 hRA3 hE2 hz3h; go_frame)
    | (go_at_call 58; refine (jCountOf_any (most := 200) _ h4 hpr).mono ?_; rintro e w5 ⟨rfl, h5, hX5⟩; rw [hc1] at h5 ⊢; have hBg : Hid (w2.heap.size ≠ g) := (by show w2.heap.size ≠ g; have := hs2.out; have := hgl.out; omega); have hRB5 := hX5.row hRB4 hBg.out; have hRA5 := hX5.row hRA4 hgA; have hE5 := hE4.trans hX5; have hs5 : w4.heap.size ≤ w5.heap.size := hX5.size; clear hRB4 hRA4 hE4 hX5 h4; go_frame)
    | ((with_reducible change wpList _ _ _ (Oper.mk (some 15) _ _ _ _ _ :: _) _ _); refine kConvUI _ N (by omega) rfl rfl rfl ?_; go_frame))
  have hgb : Hid (g < w4.heap.size) := by show g < w4.heap.size; have := hgl.out; have := hs2.out; have := hBb.out; omega
  have hLb : Hid (Lm ≤ w4.heap.size) := by show Lm ≤ w4.heap.size; have := hs2.out; have := hBb.out; omega
  have hAb : Hid (W0.heap.size < w4.heap.size) := Nat.lt_trans hs2.out hBb.out
  have hAB : Hid (W0.heap.size ≠ w2.heap.size) := Nat.ne_of_lt hs2.out
  have hWB : Hid (W0.heap.size ≤ w2.heap.size) := Nat.le_of_lt hs2.out
  clear hs h hs2
  go_loopw [5] (fun x wr => ∃ (k : Nat) (zs : List (InP × Value)) (s : Scn) (y : Value), k ≤ N ∧ x = .int .i64 (k : Int) ∧ Row wr W0.heap.size 26 (txC 0 (.slice none 0 0) (.slice none 0 0) 0) ∧ Row wr w2.heap.size 26 (txC p.1 y (.slice none 0 0) 0) ∧ OwnR 35 34 wr w4.heap.size y (zs.map inR) ∧ (∀ z ∈ zs, OwnB wr w4.heap.size z.2 z.1.unlock) ∧ zs.length = k ∧ Rd Lm 55 wr g s ∧ s.rest.length ≤ 1000000 ∧ (zs.map Prod.fst ++ (listS inS (N - k) s).1, (listS inS (N - k) s).2) = q ∧ w4.heap.size ≤ wr.heap.size ∧ Exc g W0 wr) (fun x _ => N - (intOf x).toNat)
  case atStart => exact ⟨0, [], s1, (.slice none 0 0), by omega, rfl, hRA5, hRB5, ownR_nil _ _ _ _, (fun z hz => by cases hz), rfl, h5, hc1r, by rw [← hq]; rfl, hs5, hE5⟩
  case round =>
    clear hq h5 hRA5 hRB5 hE5 hs5 hc1r
    obtain ⟨k, zs, s, y, hk, rfl, hRA, hRB, hO, hU, hzl, hrd, hsr, hPP, hsb, hX⟩ := hrel
    by_cases hlt : k < N
    · have hd : decide ((k : Int) < (N : Int)) = true := by simp; omega
      have hL := Nat.le_trans hLb.out hsb
      have hPP2 : (zs.map Prod.fst ++ ((inS s).1 :: (listS inS (N - (k + 1)) (inS s).2).1), (listS inS (N - (k + 1)) (inS s).2).2) = q := by
        rw [show N - k = (N - (k + 1)) + 1 by omega] at hPP; exact hPP
      clear hPP
      obtain ⟨p1, hp1⟩ : ∃ p, refS s = p := ⟨_, rfl⟩
      have hp1r : p1.2.rest.length ≤ 1000000 := by rw [← hp1]; exact Nat.le_trans (ref_restLeT s) hsr
      obtain ⟨q1, hq1⟩ : ∃ p, textS p1.2 2000 = p := ⟨_, rfl⟩
      have hq1r : q1.2.rest.length ≤ 1000000 := by rw [← hq1]; exact Nat.le_trans (text_restLeT p1.2 2000) hp1r
      obtain ⟨r1, hr1⟩ : ∃ p, fixedS q1.2 4 = p := ⟨_, rfl⟩
      have hr1r : r1.2.rest.length ≤ 1000000 := by rw [← hr1]; exact Nat.le_trans (fixed_restLeC q1.2 4) hq1r
      have hr14 : r1.1 % 4294967296 = r1.1 := by rw [← hr1]; exact Nat.mod_eq_of_lt (fixed4_lt q1.2)
      rw [inS_eq hp1 hq1 hr1] at hPP2
      dsimp only at hPP2
      go_wp2_with (first
        | ((with_reducible change wpList _ _ _ (Oper.mk (some 18) _ _ _ _ _ :: _) _ _); refine kLssI _ _ _ _ .i64 (k : Int) (N : Int) true rfl rfl rfl rfl hd ?_; go_frame)
        | (go_at_call 59; refine (zRefRead_any _ hrd hsr hL).mono ?_; rintro e a1 ⟨rfl, hrd1, hX1⟩; rw [hp1] at hrd1 ⊢; have hRA1 := hX1.row hRA hgA; have hRB1 := hX1.row hRB hBg.out; have hO1 := hO.over (over_exc hX1 hgb.out); have hU1 := fun z hz => (hU z hz).over (over_exc hX1 hgb.out); have hE1 := hX.trans hX1; have hs1 := Nat.le_trans hsb hX1.size; clear hRA hRB hO hU hX hX1 hrd hsb hL; go_frame)
        | ((with_reducible change wpList _ _ _ (Oper.mk (some 23) _ _ _ _ _ :: _) _ _); refine kBuildInR _ p1.1.1 p1.1.2 rfl rfl rfl ?_; go_frame)
        | ((with_reducible change wpList _ _ _ (Oper.mk (some 6) _ _ _ _ _ :: _) _ _); refine kAllocL _ _ rfl rfl zero_InC ?_; intro a2 hRC hz2 hB2; have hgC : Hid (a1.heap.size ≠ g) := (by show a1.heap.size ≠ g; have := hrd1.lt; omega); have hLC : Hid (Lm ≤ a1.heap.size) := Nat.le_trans hLb.out hs1; have hzC : Hid (a1.heap.size < a2.heap.size) := hz2; clear hz2; go_frame)
        | ((with_reducible change wpList _ _ _ (Oper.mk none _ _ _ _ _ :: _) _ _); refine kStoreIn _ _ a1.heap.size ⟨p1.1.1, p1.1.2, [], 0⟩ (.slice none 0 0) _ hRC (inC_size _ _) rfl rfl rfl rfl rfl ?_; intro a3 hRC3 hW3; have hB3 := hB2.trans (hW3.below (Nat.le_refl _)); have hrd3 := hrd1.below hB3; have hF3 := exc_below g hB3; have hz3 : Hid (a1.heap.size < a3.heap.size) := Nat.lt_of_lt_of_le hzC.out (by rw [hW3.size]; exact Nat.le_refl _); clear hB2 hW3 hRC hB3 hrd1 hzC; go_frame)
        | (go_at_call 60; refine (jTextOf_own (z := 2000) (by decide) _ hrd3 hp1r).mono ?_; rintro e a4 ⟨u, rfl, hu4, hrd4, hX4⟩; rw [hq1] at hu4 hrd4; have hRC4 := hX4.row hRC3 hgC.out; have hF4 := hF3.trans hX4; clear hRC3 hF3 hX4 hrd3; go_frame)
        | ((with_reducible change wpList _ _ _ (Oper.mk (some 26) _ _ _ _ _ :: _) _ _); refine kFld inCF1 _ _ 0 33 rfl rfl rfl rfl ?_; go_frame)
        | ((with_reducible change wpList _ _ _ (Oper.mk none (Op.store 28 _ _) _ _ _ _ :: _) _ _); refine kStore1 _ _ _ _ a1.heap.size 33 _ u rfl rfl rfl rfl hRC4 info_bytesP (by rw [inC_size]; decide) hu4.vals.sl.one ?_; intro a5 hRC5 hW5; rw [inC_put _ _ _ q1.1] at hRC5; have hu5 := own_wroteN hu4 hRC4 (by decide) hW5; have hrd5 := hrd4.wrote hW5 hLC.out (Ne.symm hgC.out); have hF5 := exc_new hF4 hW5 (Nat.le_refl _); clear hRC4 hW5 hu4 hrd4 hF4; go_frame)
        | (go_at_call 57; refine (jFixedOf_any (z := 4) _ hrd5 hq1r).mono ?_; rintro e a6 ⟨rfl, hrd6, hX6⟩; rw [hr1] at hrd6 ⊢; have hRC6 := hX6.row hRC5 hgC.out; have hu6 := hu5.over (over_exc hX6 (Nat.lt_trans (Nat.lt_of_lt_of_le hgb.out hs1) hz3.out)); have hF6 := hF5.trans hX6; clear hRC5 hu5 hX6 hF5 hrd5; go_frame)
        | ((with_reducible change wpList _ _ _ (Oper.mk (some 29) _ _ _ _ _ :: _) _ _); refine kConvUW _ r1.1 rfl rfl rfl ?_; rw [hr14]; go_frame)
        | ((with_reducible change wpList _ _ _ (Oper.mk (some 30) _ _ _ _ _ :: _) _ _); refine kFld inCF2 _ _ 0 34 rfl rfl rfl rfl ?_; go_frame)
        | ((with_reducible change wpList _ _ _ (Oper.mk none (Op.store 22 _ _) _ _ _ _ :: _) _ _); refine kStore1 _ _ _ _ a1.heap.size 34 _ (.int .u32 (r1.1 : Int)) rfl rfl rfl rfl hRC6 info_u32Co (by rw [inC_size]; decide) rfl ?_; intro a7 hRC7 hW7; rw [inC_order] at hRC7; have hu7 := own_less (Nat.le_trans hs1 (Nat.le_of_lt hz3.out)) (own_wroteN hu6 hRC6 (by decide) hW7); have hrd7 := hrd6.wrote hW7 hLC.out (Ne.symm hgC.out); have hF7 := exc_new hF6 hW7 (Nat.le_refl _); have hO7 := hO1.over (over_exc hF7 hgb.out); have hU7 := fun z hz => (hU1 z hz).over (over_exc hF7 hgb.out); have hRA7 := hF7.row hRA1 hgA; have hRB7 := hF7.row hRB1 hBg.out; have hE7 := hE1.trans hF7; have hs7 := Nat.le_trans hs1 hF7.size; clear hRC6 hW7 hu6 hrd6 hF6 hO1 hU1 hRA1 hRB1 hE1 hF7 hs1; go_frame)
        | ((with_reducible change wpList _ _ _ (Oper.mk (some 31) _ _ _ _ _ :: _) _ _); refine kFld txCF1 _ _ 0 1 rfl rfl rfl rfl ?_; go_frame)
        | ((with_reducible change wpList _ _ _ (Oper.mk (some 32) _ _ _ _ _ :: _) _ _); refine kLd Tryd.underlying23 rfl _ _ 1 _ y hRB7 rfl rfl rfl rfl ?_; go_frame)
        | ((with_reducible change wpList _ _ _ (Oper.mk (some 33) _ _ _ _ _ :: _) _ _); refine kLoadIn _ a1.heap.size ⟨p1.1.1, p1.1.2, q1.1, r1.1⟩ u hRC7 rfl rfl rfl ?_; go_frame)
        | ((with_reducible change wpList _ _ _ (Oper.mk (some 34) _ _ _ _ _ :: _) _ _); refine kBuildIn1 _ ⟨p1.1.1, p1.1.2, q1.1, r1.1⟩ u hu7.vals.sl rfl rfl rfl ?_; intro a8 hR8 hz8 hB8; have hO8 := hO7.below hB8; have hU8 := fun z hz => (hU7 z hz).below hB8; have hu8 := hu7.below hB8; have hrd8 := hrd7.below hB8; have hRA8 := hRA7.below hB8 hRA7.lt; have hRB8 := hRB7.below hB8 hRB7.lt; have hE8 := hE7.trans (exc_below g hB8); have hs8 := Nat.le_trans hs7 hB8.size; have hrow := isRows_one (n := 35) hR8 (inR_len _); clear hO7 hU7 hu7 hrd7 hRA7 hRB7 hE7 hs7 hB8 hR8 hz8 hRC7; go_frame)
        | ((with_reducible change wpList _ _ _ (Oper.mk (some 35) _ _ _ _ _ :: _) _ _); refine kAppIns _ _ rfl rfl w4.heap.size _ _ zs [(⟨p1.1.1, p1.1.2, q1.1, r1.1⟩, u)] rfl hO8 rfl hrow (by intro z hz; simp at hz; subst hz; exact hu8.vals.sl.one) (by simp; omega) hs8 ?_; intro y9 a9 hO9 hB9 hg9; have hU9 := fun z (hz : z ∈ zs) => ownB_grown (hU8 z hz) hO8 (by decide) hg9; have hu9 := ownB_grown hu8 hO8 (by decide) hg9; have hrd9 := hrd8.under hB9 hgb.out hLb.out; have hRA9 := hRA8.below hB9 hAb.out; have hRB9 := hRB8.below hB9 hBb.out; have hE9 := exc_then hE8 (hB9.mono (Nat.le_of_lt hAb.out)); have hs9 := Nat.le_trans hs8 hB9.size; clear hO8 hU8 hu8 hrd8 hRA8 hRB8 hE8 hg9 hB9 hrow hs8; go_frame)
        | ((with_reducible change wpList _ _ _ (Oper.mk (some 36) _ _ _ _ _ :: _) _ _); refine kFld txCF1 _ _ 0 1 rfl rfl rfl rfl ?_; go_frame)
        | ((with_reducible change wpList _ _ _ (Oper.mk none (Op.store 23 _ _) _ _ _ _ :: _) _ _); refine kStore1 _ _ _ _ w2.heap.size 1 _ y9 rfl rfl rfl rfl hRB9 info_insC (by show 1 < 4; decide) hO9.rows.sl.one ?_; intro a10 hRB10 hW10; have hO10 := hO9.over (over_wrote hW10 hBb.out); have hU10 := fun z hz => (hU9 z hz).over (over_wrote hW10 hBb.out); have hu10 := hu9.over (over_wrote hW10 hBb.out); have hrd10 := hrd9.wrote hW10 (Nat.le_trans hLm hWB.out) (Ne.symm hBg.out); have hRA10 := hW10.row hRA9 hAB.out; have hE10 := exc_new hE9 hW10 hWB.out; have hs10 : w4.heap.size ≤ a10.heap.size := (by rw [hW10.size]; exact hs9); clear hO9 hU9 hu9 hrd9 hRA9 hRB9 hE9 hW10 hs9; go_frame)
        | ((with_reducible change wpList _ _ _ (Oper.mk (some 20) _ _ _ _ _ :: _) _ _); refine kAddI _ _ _ _ (k : Int) 1 ((k + 1 : Nat) : Int) (by omega) rfl rfl rfl rfl ?_; go_frame))
      go_roundw
      case rel =>
        refine ⟨k + 1, zs ++ [(⟨p1.1.1, p1.1.2, q1.1, r1.1⟩, u)], r1.2, y9, by omega, rfl, hRA10, hRB10, hO10, fun z hz => ?_, by simp; omega, hrd10, hr1r, by rw [← hPP2]; simp, hs10, hE10⟩
        rcases List.mem_append.1 hz with hz | hz
        · exact hU10 z hz
        · simp at hz; subst hz; exact hu10
      case measure => simp [intOf]; omega
    · have hd : decide ((k : Int) < (N : Int)) = false := by simp; omega
      rw [show N - k = 0 by omega] at hPP
      have hPP2 : (zs.map Prod.fst ++ [], s) = q := hPP
      rw [List.append_nil] at hPP2
      subst hPP2
      have hI : OwnIns wr w4.heap.size y (zs.map Prod.fst) := ⟨zs, rfl, hO, hU⟩
      obtain ⟨is, his⟩ : ∃ is, zs.map Prod.fst = is := ⟨_, rfl⟩
      rw [his] at hI hR
      clear hO hU his hPP hzl hlt
      go_wp2_with (first
        | ((with_reducible change wpList _ _ _ (Oper.mk (some 18) _ _ _ _ _ :: _) _ _); refine kLssI _ _ _ _ .i64 (k : Int) (N : Int) false rfl rfl rfl rfl hd ?_; go_frame)
        | (go_at_call 58; refine (jCountOf_any (most := 200) _ hrd hsr).mono ?_; rintro e w5 ⟨rfl, h5, hX5⟩; rw [hc2] at h5 ⊢; have hRB5 := hX5.row hRB hBg.out; have hRA5 := hX5.row hRA hgA; have hI5 := hI.over (over_exc hX5 hgb.out); have hE5 := hX.trans hX5; have hs5 := Nat.le_trans hsb hX5.size; clear hRB hRA hX hX5 hrd hI hsb; go_frame)
        | ((with_reducible change wpList _ _ _ (Oper.mk (some 39) _ _ _ _ _ :: _) _ _); refine kConvUI _ M (by omega) rfl rfl rfl ?_; go_frame))
      go_loopw [8] (fun x wr => ∃ (k : Nat) (zs : List ((Int × List UInt8) × Value)) (s : Scn) (b : Value), k ≤ M ∧ x = .int .i64 (k : Int) ∧ Row wr W0.heap.size 26 (txC 0 (.slice none 0 0) (.slice none 0 0) 0) ∧ Row wr w2.heap.size 26 (txC p.1 y b 0) ∧ OwnIns wr w4.heap.size y is ∧ OwnR 2 36 wr w4.heap.size b (zs.map outR) ∧ (∀ z ∈ zs, OwnB wr w4.heap.size z.2 z.1.2) ∧ zs.length = k ∧ Rd Lm 55 wr g s ∧ s.rest.length ≤ 1000000 ∧ (zs.map Prod.fst ++ (listS outS (M - k) s).1, (listS outS (M - k) s).2) = r ∧ w4.heap.size ≤ wr.heap.size ∧ Exc g W0 wr) (fun x _ => M - (intOf x).toNat)
      case atStart => exact ⟨0, [], s2, (.slice none 0 0), by omega, rfl, hRA5, hRB5, hI5, ownR_nil _ _ _ _, (fun z hz => by cases hz), rfl, h5, hc2r, by rw [← hr]; rfl, hs5, hE5⟩
      case round =>
        clear hr h5 hRA5 hRB5 hE5 hI5 hs5 hc2r hd hsr
        obtain ⟨k, zs, s, b, hk, rfl, hRA, hRB, hI, hO, hU, hzl, hrd, hsr, hPP, hsb, hX⟩ := hrel
        by_cases hlt : k < M
        · have hd : decide ((k : Int) < (M : Int)) = true := by simp; omega
          have hPP2 : (zs.map Prod.fst ++ ((outS s).1 :: (listS outS (M - (k + 1)) (outS s).2).1), (listS outS (M - (k + 1)) (outS s).2).2) = r := by
            rw [show M - k = (M - (k + 1)) + 1 by omega] at hPP; exact hPP
          clear hPP
          have hsr2 : (outS s).2.rest.length ≤ 1000000 := Nat.le_trans (out_restLeT s) hsr
          obtain ⟨⟨⟨n1, l1⟩, s3⟩, hp1⟩ : ∃ p, outS s = p := ⟨_, rfl⟩
          rw [hp1] at hPP2 hsr2
          dsimp only at hPP2 hsr2
          go_wp2_with (first
            | ((with_reducible change wpList _ _ _ (Oper.mk (some 42) _ _ _ _ _ :: _) _ _); refine kLssI _ _ _ _ .i64 (k : Int) (M : Int) true rfl rfl rfl rfl hd ?_; go_frame))
          refine region_mixE [(0, true), (1, true), (2, true), (3, false), (4, false), (5, false), (6, true)] 7 _ (fun w => Row w w2.heap.size 26 (txC p.1 y b 0)) (by kernel_rfl) (by kernel_rfl) rfl rfl ?_
          intro b0 hBd hsd
          have hRA0 := hRA.below hBd hRA.lt
          have hRB0 := hRB.below hBd hRB.lt
          have hI0 := hI.below hBd
          have hO0 := hO.below hBd
          have hU0 := fun z hz => (hU z hz).below hBd
          have hrd0 := hrd.below hBd
          have hE0 := hX.trans (exc_below g hBd)
          have hs0 : w4.heap.size ≤ b0.heap.size := by rw [hsd]; exact hsb
          clear hRA hRB hI hO hU hrd hX hBd hsd hsb
          simp only [List.map_cons, List.map_nil]
          dsimp only [List.filterMap, List.getElem?_cons_zero, List.getElem?_cons_succ]
          refine dY _ hRB0 (yFld txCF2 _ _ 0 2 rfl rfl rfl rfl) ?_; go_frame
          refine dY _ hRB0 (yLoad1 _ _ _ _ 2 _ b _ rfl rfl rfl (fun _ h => h) Tryd.underlying24 rfl rfl) ?_; go_frame
          refine dY _ hRB0 (yMove _ (.pointer (some ⟨g, 0, none⟩)) rfl rfl rfl) ?_; go_frame
          refine dLoud ?_
          refine kCall1 61 _ _ _ rfl rfl (by kernel_rfl) rfl ?_
          refine (zOutRead_any _ hrd0 hsr).mono ?_
          rintro e b1 ⟨u, rfl, hou, hrd1, hX1⟩
          rw [hp1] at hrd1 hou ⊢
          have hRA1 := hX1.row hRA0 hgA
          have hRB1 := hX1.row hRB0 hBg.out
          have hI1 := hI0.over (over_exc hX1 hgb.out)
          have hO1 := hO0.over (over_exc hX1 hgb.out)
          have hU1 := fun z hz => (hU0 z hz).over (over_exc hX1 hgb.out)
          have hu1 := own_less hs0 hou
          have hE1 := hE0.trans hX1
          have hs1 := Nat.le_trans hs0 hX1.size
          clear hRA0 hRB0 hI0 hO0 hU0 hou hE0 hs0 hX1 hrd0
          refine ⟨_, rfl, mixOn ⟨fun w => Row w w2.heap.size 26 (txC p.1 y b 0), fun _ h => h, hRB1, ?_⟩⟩
          go_frame
          refine dLoud ?_
          refine kBuildOut1T _ n1 l1 u hu1.vals.sl rfl rfl rfl ?_
          intro b2 hR2 hz2 hB2
          have hRA2 := hRA1.below hB2 hRA1.lt
          have hRB2 := hRB1.below hB2 hRB1.lt
          have hI2 := hI1.below hB2
          have hO2 := hO1.below hB2
          have hU2 := fun z hz => (hU1 z hz).below hB2
          have hu2 := hu1.below hB2
          have hrd2 := hrd1.below hB2
          have hE2 := hE1.trans (exc_below g hB2)
          have hs2 := Nat.le_trans hs1 hB2.size
          have hrow := isRows_one (n := 2) hR2 (outR_len _)
          clear hRA1 hRB1 hI1 hO1 hU1 hu1 hrd1 hE1 hs1 hR2 hz2 hB2
          refine mixOn ⟨fun w => Row w w2.heap.size 26 (txC p.1 y b 0), fun _ h => h, hRB2, ?_⟩
          go_frame
          refine dLoud ?_
          refine kAppOuts _ _ rfl rfl w4.heap.size _ _ zs [((n1, l1), u)] rfl hO2 rfl hrow (by intro z hz; simp at hz; subst hz; exact hu2.vals.sl.one) (by simp; omega) hs2 ?_
          intro b9 a3 hO3 hB3 hg3
          have hU3 := fun z (hz : z ∈ zs) => ownB_grown (hU2 z hz) hO2 (by decide) hg3
          have hu3 := ownB_grown hu2 hO2 (by decide) hg3
          have hI3 := ownIns_grownO hI2 hO2 hg3
          have hrd3 := hrd2.under hB3 hgb.out hLb.out
          have hRA3 := hRA2.below hB3 hAb.out
          have hRB3 := hRB2.below hB3 hBb.out
          have hE3 := exc_then hE2 (hB3.mono (Nat.le_of_lt hAb.out))
          have hs3 := Nat.le_trans hs2 hB3.size
          clear hRA2 hRB2 hI2 hO2 hU2 hu2 hrd2 hE2 hs2 hB3 hg3 hrow
          refine mixOn ⟨fun w => Row w w2.heap.size 26 (txC p.1 y b 0), fun _ h => h, hRB3, ?_⟩
          go_frame
          refine dY _ hRB3 (yFld txCF2 _ _ 0 2 rfl rfl rfl rfl) ?_; go_frame
          refine dDone ?_
          refine kStore1 _ _ _ _ w2.heap.size 2 _ b9 rfl rfl rfl rfl hRB3 info_outsC (by show 2 < 4; decide) hO3.rows.sl.one ?_
          intro a4 hRB4 hW4
          have hO4 := hO3.over (over_wrote hW4 hBb.out)
          have hU4 := fun z hz => (hU3 z hz).over (over_wrote hW4 hBb.out)
          have hu4 := hu3.over (over_wrote hW4 hBb.out)
          have hI4 := hI3.over (over_wrote hW4 hBb.out)
          have hrd4 := hrd3.wrote hW4 (Nat.le_trans hLm hWB.out) (Ne.symm hBg.out)
          have hRA4 := hW4.row hRA3 hAB.out
          have hE4 := exc_new hE3 hW4 hWB.out
          have hs4 : w4.heap.size ≤ a4.heap.size := by rw [hW4.size]; exact hs3
          clear hO3 hU3 hu3 hI3 hrd3 hRA3 hRB3 hE3 hs3 hW4
          refine mixOn ?_
          go_frame
          go_wp2_with (first
            | ((with_reducible change wpList _ _ _ (Oper.mk (some 44) _ _ _ _ _ :: _) _ _); refine kAddI _ _ _ _ (k : Int) 1 ((k + 1 : Nat) : Int) (by omega) rfl rfl rfl rfl ?_; go_frame))
          go_roundw
          case rel =>
            refine ⟨k + 1, zs ++ [((n1, l1), u)], s3, b9, by omega, rfl, hRA4, hRB4, hI4, hO4, fun z hz => ?_, by simp; omega, hrd4, hsr2, by rw [← hPP2]; simp, hs4, hE4⟩
            rcases List.mem_append.1 hz with hz | hz
            · exact hU4 z hz
            · simp at hz; subst hz; exact hu4
          case measure => simp [intOf]; omega
        · have hd : decide ((k : Int) < (M : Int)) = false := by simp; omega
          rw [show M - k = 0 by omega] at hPP
          have hPP2 : (zs.map Prod.fst ++ [], s) = r := hPP
          rw [List.append_nil] at hPP2
          subst hPP2
          have hO' : OwnOuts wr w4.heap.size b (zs.map Prod.fst) := ⟨zs, rfl, hO, hU⟩
          obtain ⟨os, hos⟩ : ∃ os, zs.map Prod.fst = os := ⟨_, rfl⟩
          rw [hos] at hO' hR
          clear hO hU hos hPP hzl hlt
          by_cases e0 : E ≠ 0
          · rw [if_pos e0] at hR
            subst hR
            have he : (!decide ((E : Int) = 0)) = true := by simp; exact e0
            clear e0
            go_wp2_with (first
              | ((with_reducible change wpList _ _ _ (Oper.mk (some 42) _ _ _ _ _ :: _) _ _); refine kLssI _ _ _ _ .i64 (k : Int) (M : Int) false rfl rfl rfl rfl hd ?_; go_frame)
              | (go_at_call 57; refine (jFixedOf_any (z := 4) _ hrd hsr).mono ?_; rintro e w5 ⟨rfl, h5, hX5⟩; rw [ht] at h5 ⊢; have hRB5 := hX5.row hRB hBg.out; have hRA5 := hX5.row hRA hgA; have hI5 := hI.over (over_exc hX5 hgb.out); have hO5 := hO'.over (over_exc hX5 hgb.out); have hE5 := hX.trans hX5; clear hRB hRA hX hX5 hrd hI hO' hsb; go_frame)
              | ((with_reducible change wpList _ _ _ (Oper.mk (some 54) _ _ _ _ _ :: _) _ _); refine kConvUW _ t.1 rfl rfl rfl ?_; rw [ht4]; go_frame)
              | ((with_reducible change wpList _ _ _ (Oper.mk (some 55) _ _ _ _ _ :: _) _ _); refine kFld txCF3 _ _ 0 3 rfl rfl rfl rfl ?_; go_frame)
              | ((with_reducible change wpList _ _ _ (Oper.mk none (Op.store 22 _ _) _ _ _ _ :: _) _ _); refine kStore1 _ _ _ _ w2.heap.size 3 _ (.int .u32 (t.1 : Int)) rfl rfl rfl rfl hRB5 info_u32Co (by show 3 < 4; decide) rfl ?_; intro w6 hRB6 hW6; have hI6 := hI5.over (over_wrote hW6 hBb.out); have hO6 := hO5.over (over_wrote hW6 hBb.out); have h6 := h5.wrote hW6 (Nat.le_trans hLm hWB.out) (Ne.symm hBg.out); have hRA6 := hW6.row hRA5 hAB.out; have hE6 := exc_new hE5 hW6 hWB.out; have hRB7 : Row w6 w2.heap.size 26 (txC p.1 y b t.1) := hRB6; obtain ⟨vS, hRS, hVS, hLS⟩ := id h6; rw [hE] at hRS; clear hRB6 hRB5 hRA5 hI5 hO5 hE5 h5 hW6 hVS hLS; go_frame)
              | ((with_reducible change wpList _ _ _ (Oper.mk (some 58) _ _ _ _ _ :: _) _ _); refine kS1 _ g rfl rfl rfl ?_; go_frame)
              | ((with_reducible change wpList _ _ _ (Oper.mk (some 59) _ _ _ _ _ :: _) _ _); refine kLoad1 _ _ _ g 1 _ (.int .i64 (E : Int)) _ rfl rfl rfl hRS Tryd.underlying3 rfl rfl ?_; clear hRS; go_frame)
              | ((with_reducible change wpList _ _ _ (Oper.mk (some 60) _ _ _ _ _ :: _) _ _); refine kNeqI _ _ _ _ .i64 (E : Int) 0 true rfl rfl rfl rfl he ?_; go_frame)
              | ((with_reducible change wpList _ _ _ (Oper.mk (some 61) _ _ _ _ _ :: _) _ _); refine kBuildTx0 rfl rfl ?_; go_frame)
              | ((with_reducible change wpList _ _ _ (Oper.mk none (Op.store 26 _ _) _ _ _ _ :: _) _ _); refine kStoreTx _ _ W0.heap.size 0 0 (.slice none 0 0) (.slice none 0 0) _ hRA6 rfl rfl rfl rfl rfl rfl rfl ?_; intro w9 hRA9 hW9; have h9 := h6.wrote hW9 hLm (Ne.symm hgA); have hE9 := exc_new hE6 hW9 (Nat.le_refl _); go_frame))
            (try simp only [Exit.inBlock, Exit.then])
            exact result_row rfl rfl hRA9 Tryd.underlying26 rfl info_TxC rfl ⟨_, _, rfl, ownIns_nil _ _, ownOuts_nil _ _, h9, hE9⟩
          · rw [if_neg e0] at hR
            subst hR
            have he : (!decide ((E : Int) = 0)) = false := by simp; omega
            clear e0
            go_wp2_with (first
              | ((with_reducible change wpList _ _ _ (Oper.mk (some 42) _ _ _ _ _ :: _) _ _); refine kLssI _ _ _ _ .i64 (k : Int) (M : Int) false rfl rfl rfl rfl hd ?_; go_frame)
              | (go_at_call 57; refine (jFixedOf_any (z := 4) _ hrd hsr).mono ?_; rintro e w5 ⟨rfl, h5, hX5⟩; rw [ht] at h5 ⊢; have hRB5 := hX5.row hRB hBg.out; have hRA5 := hX5.row hRA hgA; have hI5 := hI.over (over_exc hX5 hgb.out); have hO5 := hO'.over (over_exc hX5 hgb.out); have hE5 := hX.trans hX5; clear hRB hRA hX hX5 hrd hI hO' hsb; go_frame)
              | ((with_reducible change wpList _ _ _ (Oper.mk (some 54) _ _ _ _ _ :: _) _ _); refine kConvUW _ t.1 rfl rfl rfl ?_; rw [ht4]; go_frame)
              | ((with_reducible change wpList _ _ _ (Oper.mk (some 55) _ _ _ _ _ :: _) _ _); refine kFld txCF3 _ _ 0 3 rfl rfl rfl rfl ?_; go_frame)
              | ((with_reducible change wpList _ _ _ (Oper.mk none (Op.store 22 _ _) _ _ _ _ :: _) _ _); refine kStore1 _ _ _ _ w2.heap.size 3 _ (.int .u32 (t.1 : Int)) rfl rfl rfl rfl hRB5 info_u32Co (by show 3 < 4; decide) rfl ?_; intro w6 hRB6 hW6; have hI6 := hI5.over (over_wrote hW6 hBb.out); have hO6 := hO5.over (over_wrote hW6 hBb.out); have h6 := h5.wrote hW6 (Nat.le_trans hLm hWB.out) (Ne.symm hBg.out); have hRA6 := hW6.row hRA5 hAB.out; have hE6 := exc_new hE5 hW6 hWB.out; have hRB7 : Row w6 w2.heap.size 26 (txC p.1 y b t.1) := hRB6; obtain ⟨vS, hRS, hVS, hLS⟩ := id h6; rw [hE] at hRS; clear hRB6 hRB5 hRA5 hI5 hO5 hE5 h5 hW6 hVS hLS; go_frame)
              | ((with_reducible change wpList _ _ _ (Oper.mk (some 58) _ _ _ _ _ :: _) _ _); refine kS1 _ g rfl rfl rfl ?_; go_frame)
              | ((with_reducible change wpList _ _ _ (Oper.mk (some 59) _ _ _ _ _ :: _) _ _); refine kLoad1 _ _ _ g 1 _ (.int .i64 (E : Int)) _ rfl rfl rfl hRS Tryd.underlying3 rfl rfl ?_; clear hRS; go_frame)
              | ((with_reducible change wpList _ _ _ (Oper.mk (some 60) _ _ _ _ _ :: _) _ _); refine kNeqI _ _ _ _ .i64 (E : Int) 0 false rfl rfl rfl rfl he ?_; go_frame)
              | ((with_reducible change wpList _ _ _ (Oper.mk (some 62) _ _ _ _ _ :: _) _ _); refine kLoadTx _ _ p.1 t.1 y b hRB7 rfl rfl rfl ?_; go_frame)
              | ((with_reducible change wpList _ _ _ (Oper.mk none (Op.store 26 _ _) _ _ _ _ :: _) _ _); refine kStoreTx _ _ W0.heap.size p.1 t.1 y b _ hRA6 rfl hI6.of.sl.one hO6.of.sl.one rfl rfl rfl rfl ?_; intro w9 hRA9 hW9; have h9 := h6.wrote hW9 hLm (Ne.symm hgA); have hE9 := exc_new hE6 hW9 (Nat.le_refl _); have hI9 := (hI6.over (over_wrote hW9 hAb.out)).less (Nat.le_of_lt hAb.out); have hO9 := (hO6.over (over_wrote hW9 hAb.out)).less (Nat.le_of_lt hAb.out); go_frame))
            (try simp only [Exit.inBlock, Exit.then])
            exact result_row rfl rfl hRA9 Tryd.underlying26 rfl info_TxC rfl ⟨_, _, rfl, hI9, hO9, h9, hE9⟩
end Go.Proofs.YtaoaecbdjdcpdaaDoor
