/-
  Layer 6: the walk of PieceBack.
-/
import Derived.Test.YtalcopfhofijlaaPcLaw3
namespace Go.Proofs.Ytalcopfhofijlaa
open Go Go.RowKit

theorem bsInfo0 : (Try.prog.info? 25).map (fun i => (i.zero, i.size)) = some (some (.slice none 0 0), 1) := by kernel_rfl
theorem bsInfo : ∃ i, Try.prog.info? 25 = some i ∧ i.zero = some (.slice none 0 0) ∧ i.size = 1 := by
  have h := bsInfo0
  cases hq : Try.prog.info? 25 with
  | none => rw [hq] at h; cases h
  | some i => rw [hq] at h; simp at h; exact ⟨i, rfl, h.1, h.2⟩
theorem text_restLe (s : Scn) (z : Int) : (textS s z).2.rest.length ≤ s.rest.length := by
  have h := count_restLe s z.toNat
  unfold textS
  split
  · exact h
  · split
    · exact Nat.le_refl _
    · show (List.drop _ _).length ≤ _
      rw [List.length_drop]; omega
/-- so many texts are read -/
def afterT (s : Scn) : Nat → Scn
  | 0 => s
  | k + 1 => (textS (afterT s k) 300).2
theorem afterT_le (s : Scn) (k : Nat) : (afterT s k).rest.length ≤ s.rest.length := by
  induction k with
  | zero => exact Nat.le_refl _
  | succ k ih => exact Nat.le_trans (text_restLe _ _) ih
theorem afterT_bad {s : Scn} (h : s.err ≠ 0) (k : Nat) : afterT s k = s := by
  induction k with
  | zero => rfl
  | succ k ih => show (textS (afterT s k) 300).2 = s; rw [ih, text_bad h]
theorem afterT_first (s : Scn) (k : Nat) : afterT s (k + 1) = afterT (textS s 300).2 k := by
  induction k with
  | zero => rfl
  | succ k ih => show (textS (afterT s (k + 1)) 300).2 = (textS (afterT (textS s 300).2 k) 300).2; rw [ih]
theorem texts_short (Ls : List (List UInt8)) (h : ∀ L ∈ Ls, L.length ≤ 300) (c : Nat) (hc : c < (textsL Ls).length) : (afterT ⟨(textsL Ls).take c, 0⟩ Ls.length).err = 61 := by
  induction Ls generalizing c with
  | nil => simp [textsL] at hc
  | cons x Ls ih =>
    have hx := h x (by simp)
    have e : textsL (x :: Ls) = textL x ++ textsL Ls := by simp [textsL]
    rw [e] at hc ⊢
    rw [List.length_cons, afterT_first]
    by_cases h1 : c < (textL x).length
    · have h2 := text_short (most := 300) hx (by omega) h1
      rw [take_under _ _ _ (Nat.le_of_lt h1)]
      have h3 : (textS ⟨(textL x).take c, 0⟩ 300).2.err = 61 := h2
      rw [afterT_bad (by rw [h3]; decide)]; exact h3
    · have h2 := text_back (most := 300) hx (by omega) ((textsL Ls).take (c - (textL x).length))
      rw [take_over _ _ _ (by omega)]
      have h3 : textS ⟨textL x ++ (textsL Ls).take (c - (textL x).length), 0⟩ 300 = (x, ⟨(textsL Ls).take (c - (textL x).length), 0⟩) := h2
      rw [h3]
      exact ih (fun L hL => h L (by simp [hL])) _ (by rw [List.length_append] at hc; omega)
theorem all_short {n : Nat} (hn : n < 18446744073709551616) (Ls : List (List UInt8)) (h : ∀ L ∈ Ls, L.length ≤ 300) (c : Nat) (hc : c < (fixedL n 8 ++ (countL n ++ textsL Ls)).length) :
    (afterT (countS (fixedS ⟨(fixedL n 8 ++ (countL n ++ textsL Ls)).take c, 0⟩ 8).2 n).2 Ls.length).err = 61 := by
  have hl := fixedL_len n 8
  rw [List.length_append, List.length_append, hl] at hc
  by_cases h1 : c < 8
  · have h2 : (fixedS ⟨(fixedL n 8).take c, 0⟩ 8).2.err = 61 := fixed_short (k := 8) (by decide) h1
    rw [take_under _ _ _ (by omega), count_bad (by rw [h2]; decide), afterT_bad (by rw [h2]; decide)]; exact h2
  · have h2 : fixedS ⟨fixedL n 8 ++ (countL n ++ textsL Ls).take (c - 8), 0⟩ 8 = (n % 256 ^ 8, ⟨(countL n ++ textsL Ls).take (c - 8), 0⟩) := fixed_back n 8 (by decide) _
    rw [take_over _ _ _ (by omega), hl, h2]
    show (afterT (countS ⟨(countL n ++ textsL Ls).take (c - 8), 0⟩ n).2 Ls.length).err = 61
    by_cases h3 : c - 8 < (countL n).length
    · have h4 := count_short hn (most := n) h3
      rw [take_under _ _ _ (by omega), afterT_bad (by rw [h4]; decide)]; exact h4
    · rw [take_over _ _ _ (by omega), count_back hn (Nat.le_refl _)]
      exact texts_short Ls h _ (by omega)
theorem textsL_drop (Ls : List (List UInt8)) (k : Nat) (hk : k < Ls.length) : textsL (Ls.drop k) = textL Ls[k] ++ textsL (Ls.drop (k + 1)) := by
  rw [List.drop_eq_getElem_cons hk]; unfold textsL; rw [List.map_cons, List.flatten_cons]
set_option maxRecDepth 100000 in
set_option maxHeartbeats 8000000 in
theorem PieceBack_out {u : Value} {n : Nat} {z : Int} {Ls : List (List UInt8)} (w : World) (hu : AreLists w u Ls) (h : 9 < Ls.length) : Calls Try.prog 6 #[.int .u64 (n : Int), u, .int .i64 z] w (SizesPost w) := by
  obtain ⟨N, hN⟩ : ∃ N, Ls.length = N := ⟨_, rfl⟩
  have hn1 : decide ((N : Int) > 9) = true := by simp; omega
  clear h
  go_enter Try.func6, Try.ntmps6
  go_wp2_with (first
    | (go_at_call 9; refine (pieceAlive_any _).mono ?_; rintro e w1 ⟨rfl, hB1⟩; have hsz1 := hB1.size; have hu1 := hu.below hB1; obtain ⟨vs1, hvs1, hU1⟩ := hu1.len; go_frame)
    | ((with_reducible change wpList _ _ _ (Oper.mk (some 17) _ _ _ _ _ :: _) _ _); refine kLenN _ _ _ u _ N rfl rfl rfl hU1 (hvs1.trans hN) Try.underlying34 ?_; go_frame)
    | ((with_reducible change wpList _ _ _ (Oper.mk (some 18) _ _ _ _ _ :: _) _ _); refine kGtrI _ _ _ _ .i64 (N : Int) 9 true rfl rfl rfl rfl hn1 ?_; go_frame))
  go_ret
  exact ⟨rfl, hB1⟩
set_option maxRecDepth 100000 in
set_option maxHeartbeats 8000000 in
theorem PieceBack_in {u : Value} {n : Nat} {z : Int} {Ls : List (List UInt8)} (hn : n < 18446744073709551616) (w : World) (hu : AreLists w u Ls) (h2 : Ls.length ≤ 9) : Calls Try.prog 6 #[.int .u64 (n : Int), u, .int .i64 z] w (SizesPost w) := by
  obtain ⟨ib, hib, hzb, hsb⟩ := bsInfo
  obtain ⟨N, hN⟩ : ∃ N, Ls.length = N := ⟨_, rfl⟩
  have hn1 : decide ((N : Int) > 9) = false := by simp; omega
  have hcl := countL_le n
  have hfl := fixedL_len n 8
  have hF0 := fun w => pcFixed_nil n 8 w
  rw [show clampS 8 = 8 by decide] at hF0
  go_enter Try.func6, Try.ntmps6
  go_wp2_with (first
    | (go_at_call 9; refine (pieceAlive_any _).mono ?_; rintro e w1 ⟨rfl, hB1⟩; have hsz1 := hB1.size; have hu1 := hu.below hB1; obtain ⟨vs1, hvs1, hU1⟩ := hu1.len; go_frame)
    | ((with_reducible change wpList _ _ _ (Oper.mk (some 17) _ _ _ _ _ :: _) _ _); refine kLenN _ _ _ u _ N rfl rfl rfl hU1 (hvs1.trans hN) Try.underlying34 ?_; go_frame)
    | ((with_reducible change wpList _ _ _ (Oper.mk (some 18) _ _ _ _ _ :: _) _ _); refine kGtrI _ _ _ _ .i64 (N : Int) 9 false rfl rfl rfl rfl hn1 ?_; go_frame)
    | (go_at_call 16; refine (hF0 _).mono ?_; rintro e w2 ⟨v2, rfl, hO2, hB2⟩; have hB3 := hB1.trans (hB2.mono hsz1); have hsz3 := hB3.size; clear hB1 hB2 hsz1 hu1 hU1 hvs1; go_frame)
    | (go_at_call 15; refine (pcCount_any n _ hO2.vals (by omega)).mono ?_; rintro e w4 ⟨v4, rfl, hO4, hB4⟩; have hV4 := hO4.vals; have hB5 := hB3.trans (hB4.mono hsz3); clear hO2 hB3 hB4 hsz3 hO4 hF0; have hu5 := hu.below hB5; obtain ⟨vs5, hvs5, hU5⟩ := hu5.len; go_frame)
    | ((with_reducible change wpList _ _ _ (Oper.mk (some 24) _ _ _ _ _ :: _) _ _); refine kLenN _ _ _ u _ N rfl rfl rfl hU5 (hvs5.trans hN) Try.underlying34 ?_; clear hU5 hvs5 hu5; go_frame))
  go_loopw [25, 7] (fun i t wr => ∃ k : Nat, k ≤ N ∧ i = .int .i64 k ∧ IsVals wr t ((fixedL n 8 ++ countL n ++ textsL (Ls.take k)).map VB) ∧ Below w.heap.size w wr ∧ ∀ L ∈ Ls.take k, L.length ≤ 300) (fun i _ _ => N - (intOf i).toNat)
  case atStart => exact ⟨0, by omega, rfl, by simpa [textsL] using hV4, hB5, fun L h => by simp at h⟩
  case round =>
    obtain ⟨k, hk, rfl, hT0, hB, hall⟩ := hrel
    clear hV4 hB5
    by_cases hlt : k < N
    · have hd : decide ((k : Int) < (N : Int)) = true := by simp; omega
      have hkl : k < Ls.length := by omega
      obtain ⟨vs, x, hvs, hV0, hxk, hX0⟩ := hu.at hkl
      have hV := hV0.below hB
      have hX := hX0.below hB
      have hsz := hB.size
      have hTk := textsL_take Ls k hkl
      have hTl : (textsL (Ls.take k)).length ≤ 10000 := by have := textsL_le (Ls.take k) 300 hall; rw [List.length_take] at this; omega
      have hallS : Ls[k].length ≤ 300 → ∀ L ∈ Ls.take (k + 1), L.length ≤ 300 := fun hx L hL => by
        rw [List.take_succ_eq_append_getElem hkl, List.mem_append] at hL
        rcases hL with hL | hL
        · exact hall L hL
        · simp at hL; rw [hL]; exact hx
      obtain ⟨X, hXe⟩ : ∃ X, Ls[k] = X := ⟨_, rfl⟩
      rw [hXe] at hX hX0 hTk hallS
      obtain ⟨q, hqe⟩ : ∃ q, X.length = q := ⟨_, rfl⟩
      clear hV0
      by_cases hbig : 300 < q
      · have hg : decide ((q : Int) > 300) = true := by simp; omega
        clear hallS hTk hTl hbig
        go_wp2_with (first
          | ((with_reducible change wpList _ _ _ (Oper.mk (some 26) _ _ _ _ _ :: _) _ _); refine kLssI _ _ _ _ .i64 (k : Int) (N : Int) true rfl rfl rfl rfl hd ?_; go_frame)
          | ((with_reducible change wpList _ _ _ (Oper.mk (some 27) _ _ _ _ _ :: _) _ _); refine kIndexAddrV _ _ _ _ .i64 u vs (k : Int) k x rfl rfl rfl hV rfl Try.underlying34 info_bytesP rfl hxk ?_; intro b hb; go_frame)
          | ((with_reducible change wpList _ _ _ (Oper.mk (some 28) _ _ _ _ _ :: _) _ _); refine kLoadCell _ _ b x _ rfl rfl rfl hb Try.underlying25 rfl ?_; clear hb hV; go_frame)
          | ((with_reducible change wpList _ _ _ (Oper.mk (some 30) _ _ _ _ _ :: _) _ _); refine kLenN _ _ _ x _ q rfl rfl rfl hX (by rw [List.length_map, hqe]) Try.underlying25 ?_; go_frame)
          | ((with_reducible change wpList _ _ _ (Oper.mk (some 31) _ _ _ _ _ :: _) _ _); refine kGtrI _ _ _ _ .i64 (q : Int) 300 true rfl rfl rfl rfl hg ?_; go_frame))
        go_ret
        exact ⟨rfl, hB⟩
      · have hg : decide ((q : Int) > 300) = false := by simp; omega
        go_wp2_with (first
          | ((with_reducible change wpList _ _ _ (Oper.mk (some 26) _ _ _ _ _ :: _) _ _); refine kLssI _ _ _ _ .i64 (k : Int) (N : Int) true rfl rfl rfl rfl hd ?_; go_frame)
          | ((with_reducible change wpList _ _ _ (Oper.mk (some 27) _ _ _ _ _ :: _) _ _); refine kIndexAddrV _ _ _ _ .i64 u vs (k : Int) k x rfl rfl rfl hV rfl Try.underlying34 info_bytesP rfl hxk ?_; intro b hb; go_frame)
          | ((with_reducible change wpList _ _ _ (Oper.mk (some 28) _ _ _ _ _ :: _) _ _); refine kLoadCell _ _ b x _ rfl rfl rfl hb Try.underlying25 rfl ?_; clear hb hV; go_frame)
          | ((with_reducible change wpList _ _ _ (Oper.mk (some 30) _ _ _ _ _ :: _) _ _); refine kLenN _ _ _ x _ q rfl rfl rfl hX (by rw [List.length_map, hqe]) Try.underlying25 ?_; go_frame)
          | ((with_reducible change wpList _ _ _ (Oper.mk (some 31) _ _ _ _ _ :: _) _ _); refine kGtrI _ _ _ _ .i64 (q : Int) 300 false rfl rfl rfl rfl hg ?_; go_frame)
          | ((with_reducible change wpList _ _ _ (Oper.mk (some 34) _ _ _ _ _ :: _) _ _); refine kBuildSlice1 _ _ _ x rfl rfl Try.underlying34 ib _ hib hzb hsb rfl (vals_one hX) ?_; intro w2 hR2 hz2 hB2; clear hz2; have hL2 := areLists_one hR2 (hX.below hB2); have hT2 := hT0.below hB2; have hsz2 := hB2.size; have hB3 := hB.trans (hB2.mono hsz); have hsz3 := hB3.size; clear hR2 hB2 hX hT0 hB; go_frame)
          | (go_at_call 20; refine (pcText_any _ hT2 hL2 (by simp only [List.length_append]; omega) (by simp) (fun L hL => by simp at hL; rw [hL]; omega)).mono ?_; rintro e w4 ⟨v4, rfl, hO4, hB4⟩; have hV4 := hO4.vals; have hB5 := hB3.trans (hB4.mono hsz3); clear hO4 hB4 hB3 hL2 hT2; go_frame)
          | ((with_reducible change wpList _ _ _ (Oper.mk (some 36) _ _ _ _ _ :: _) _ _); refine kAddI _ _ _ _ (k : Int) 1 ((k + 1 : Nat) : Int) (by omega) rfl rfl rfl rfl ?_; go_frame))
        go_roundw
        case rel => exact ⟨k + 1, by omega, rfl, by rw [hTk, ← List.append_assoc]; simpa [textsL] using hV4, hB5, hallS (by omega)⟩
        case measure => simp [intOf]; omega
    · have hd : decide ((k : Int) < (N : Int)) = false := by simp; omega
      have hT : Ls.take k = Ls := List.take_of_length_le (by omega)
      rw [hT, List.append_assoc] at hT0
      rw [hT] at hall
      clear hT
      have hTl : (textsL Ls).length ≤ 10000 := by have := textsL_le Ls 300 hall; omega
      obtain ⟨W, hW⟩ : ∃ W, fixedL n 8 ++ (countL n ++ textsL Ls) = W := ⟨_, rfl⟩
      have hWl : W.length ≤ 100000 := by rw [← hW]; simp only [List.length_append]; omega
      have hfb : fixedS ⟨W, 0⟩ 8 = (n, ⟨countL n ++ textsL Ls, 0⟩) := by
        rw [← hW]
        have := fixed_back n 8 (by decide) (countL n ++ textsL Ls)
        rw [Nat.mod_eq_of_lt (show n < 256 ^ 8 from hn)] at this; exact this
      have hcb := count_back hn (Nat.le_refl n) (textsL Ls)
      have hsh := fun c => all_short hn Ls hall c
      rw [hW] at hT0 hsh
      have hq0 : (!decide ((n : Int) = (n : Int))) = false := by simp
      have hsz := hB.size
      have hun := hu.below hB
      obtain ⟨vs0, hvs0, hU0⟩ := hun.len
      go_wp2_with (first
        | ((with_reducible change wpList _ _ _ (Oper.mk (some 26) _ _ _ _ _ :: _) _ _); refine kLssI _ _ _ _ .i64 (k : Int) (N : Int) false rfl rfl rfl rfl hd ?_; go_frame)
        | (go_at_call 10; refine (pcNew_any _ hT0 (by omega)).mono ?_; rintro e w2 ⟨g, rfl, hg, hR2, hB2⟩; have hge : w.heap.size ≤ g := Nat.le_trans hsz hg; have hT2 := hT0.below hB2; have hB3 := hB.trans (hB2.mono hsz); have hsz3 := hB3.size; clear hT0 hB hB2 hU0 hvs0 hun; go_frame)
        | (go_at_call 12; refine (rdFixed_any (z := 8) _ hR2).mono ?_; rintro e w4 ⟨rfl, hR4, hX4⟩; rw [hfb] at hR4 ⊢; have hT4 := hX4.vals hR2 hT2; have hB5 := hB3.trans (hX4.below hge hsz3); have hsz5 := hB5.size; clear hR2 hT2 hB3 hX4; go_frame)
        | ((with_reducible change wpList _ _ _ (Oper.mk (some 42) _ _ _ _ _ :: _) _ _); refine kNeqI _ _ _ _ .u64 (n : Int) (n : Int) false rfl rfl rfl rfl hq0 ?_; go_frame)
        | (go_at_call 11; refine (rdCount_any (most := n) _ hR4).mono ?_; rintro e w6 ⟨rfl, hR6, hX6⟩; rw [hcb] at hR6 ⊢; have hT6 := hX6.vals hR4 hT4; have hB7 := hB5.trans (hX6.below hge hsz5); clear hR4 hT4 hB5 hX6; have hu7 := hu.below hB7; obtain ⟨vs7, hvs7, hU7⟩ := hu7.len; go_frame)
        | ((with_reducible change wpList _ _ _ (Oper.mk (some 48) _ _ _ _ _ :: _) _ _); refine kNeqI _ _ _ _ .u64 (n : Int) (n : Int) false rfl rfl rfl rfl hq0 ?_; go_frame)
        | ((with_reducible change wpList _ _ _ (Oper.mk (some 51) _ _ _ _ _ :: _) _ _); refine kLenN _ _ _ u _ N rfl rfl rfl hU7 (hvs7.trans hN) Try.underlying34 ?_; clear hU7 hvs7 hu7; go_frame))
      go_loopw [52] (fun i wr => ∃ k : Nat, k ≤ N ∧ i = .int .i64 k ∧ Rd 55 wr g ⟨textsL (Ls.drop k), 0⟩ ∧ IsVals wr u7 (W.map VB) ∧ Below w.heap.size w wr) (fun i _ => N - (intOf i).toNat)
      case atStart => exact ⟨0, by omega, rfl, hR6, hT6, hB7⟩
      case round =>
        obtain ⟨k, hk, rfl, hR, hT, hB⟩ := hrel
        clear hR6 hT6 hB7
        have hsz := hB.size
        by_cases hlt : k < N
        · have hd : decide ((k : Int) < (N : Int)) = true := by simp; omega
          have hkl : k < Ls.length := by omega
          obtain ⟨vs, x, hvs, hV0, hxk, hX0⟩ := hu.at hkl
          have hV := hV0.below hB
          have hX := hX0.below hB
          have hTk := textsL_drop Ls k hkl
          have hm : Ls[k].length ≤ 300 := hall _ (List.getElem_mem hkl)
          obtain ⟨X, hXe⟩ : ∃ X, Ls[k] = X := ⟨_, rfl⟩
          rw [hXe] at hX hTk hm
          rw [hTk] at hR
          have hrl : (textL X ++ textsL (Ls.drop (k + 1))).length ≤ 1000000 := by
            have := textsL_le (Ls.drop (k + 1)) 300 (fun L hL => hall L (List.mem_of_mem_drop hL))
            have h2 := textL_le (x := X) (m := 300) hm
            rw [List.length_append]; rw [List.length_drop] at this; omega
          have htb : textS ⟨textL X ++ textsL (Ls.drop (k + 1)), 0⟩ 300 = (X, ⟨textsL (Ls.drop (k + 1)), 0⟩) := text_back (most := 300) hm (by omega) _
          clear hV0 hX0
          go_wp2_with (first
            | ((with_reducible change wpList _ _ _ (Oper.mk (some 53) _ _ _ _ _ :: _) _ _); refine kLssI _ _ _ _ .i64 (k : Int) (N : Int) true rfl rfl rfl rfl hd ?_; go_frame)
            | ((with_reducible change wpList _ _ _ (Oper.mk (some 54) _ _ _ _ _ :: _) _ _); refine kIndexAddrV _ _ _ _ .i64 u vs (k : Int) k x rfl rfl rfl hV rfl Try.underlying34 info_bytesP rfl hxk ?_; intro b hb; go_frame)
            | ((with_reducible change wpList _ _ _ (Oper.mk (some 55) _ _ _ _ _ :: _) _ _); refine kLoadCell _ _ b x _ rfl rfl rfl hb Try.underlying25 rfl ?_; clear hb hV; go_frame))
          refine region_mixD [(0, true), (3, true), (4, true), (1, false), (2, true), (5, true)] (fun w => IsVals w x (X.map VB)) (by kernel_rfl) (by kernel_rfl) rfl ?_
          intro w2 hBd hsd
          have hX2 := hX.below hBd
          have hR2 := hR.below hBd
          have hT2 := hT.below hBd
          have hB2 := hB.trans (hBd.mono hsz)
          have hsz2 := hB2.size
          clear hBd hsd hX hR hT hB hsz
          simp only [List.map_cons, List.map_nil]
          dsimp only [List.filterMap, List.getElem?_cons_zero, List.getElem?_cons_succ]
          have hS := hX2
          refine dY _ hS (yMove _ (.pointer (some ⟨g, 0, none⟩)) rfl rfl rfl) ?_; go_frame
          refine dY _ hS (yMove _ (x) rfl rfl rfl) ?_; go_frame
          refine dY _ hS (yStr _ _ _ _ x X rfl rfl rfl (fun _ h => h) Try.underlying25 Try.underlying5 Try.underlying9) ?_; go_frame
          refine dLoud ?_
          refine kCall2 25 _ _ _ _ _ rfl rfl (by kernel_rfl) rfl rfl ?_
          refine (rdText_any (z := 300) (by decide) _ hR2 hrl).mono ?_
          rintro e w4 ⟨v4, rfl, hV4, hR4, hX4⟩
          rw [htb] at hV4 hR4
          have hX5 := hX4.vals hR2 hX2
          have hT4 := hX4.vals hR2 hT2
          have hB4 := hB2.trans (hX4.below hge hsz2)
          clear hR2 hT2 hB2 hX4
          refine ⟨_, rfl, mixOn ⟨(fun w => IsVals w x (X.map VB) ∧ IsVals w v4 (X.map VB)), (fun _ h => h.1), (⟨hX5, hV4⟩ : IsVals w4 x (X.map VB) ∧ IsVals w4 v4 (X.map VB)), ?_⟩⟩
          have hS2 := (⟨hX5, hV4⟩ : IsVals w4 x (X.map VB) ∧ IsVals w4 v4 (X.map VB)); clear hS; have hS := hS2; clear hS2
          go_frame
          refine dY _ hS (yStr _ _ _ _ v4 X rfl rfl rfl (fun _ h => h.2) Try.underlying25 Try.underlying5 Try.underlying9) ?_; go_frame
          refine dY _ hS (yNeqStr _ _ _ _ X X false rfl rfl rfl rfl (by simp)) ?_; go_frame
          refine dDone ?_
          go_wp2_with (first
            | ((with_reducible change wpList _ _ _ (Oper.mk (some 62) _ _ _ _ _ :: _) _ _); refine kAddI _ _ _ _ (k : Int) 1 ((k + 1 : Nat) : Int) (by omega) rfl rfl rfl rfl ?_; go_frame))
          go_roundw
          case rel => exact ⟨k + 1, by omega, rfl, hR4, hT4, hB4⟩
          case measure => simp [intOf]; omega
        · have hd : decide ((k : Int) < (N : Int)) = false := by simp; omega
          have hD : textsL (Ls.drop k) = [] := by rw [List.drop_of_length_le (by omega)]; rfl
          rw [hD] at hR
          clear hD
          obtain ⟨m, hm⟩ : ∃ m, W.length = m := ⟨_, rfl⟩
          by_cases hneg : z < 0
          · have hz0 : decide (z < 0) = true := by simp; omega
            go_wp2_with (first
              | ((with_reducible change wpList _ _ _ (Oper.mk (some 53) _ _ _ _ _ :: _) _ _); refine kLssI _ _ _ _ .i64 (k : Int) (N : Int) false rfl rfl rfl rfl hd ?_; go_frame)
              | (go_at_call 14; refine (rdLeft_any (n := 0) _ hR rfl).mono ?_; rintro e w2 ⟨rfl, rfl⟩; go_frame)
              | (go_at_call 13; refine (rdErr_any (n := 0) _ hR rfl).mono ?_; rintro e w3 ⟨rfl, rfl⟩; clear hR; go_frame)
              | ((with_reducible change wpList _ _ _ (Oper.mk (some 72) _ _ _ _ _ :: _) _ _); refine kLssI _ _ _ _ .i64 z 0 true rfl rfl rfl rfl hz0 ?_; go_frame))
            go_ret
            exact ⟨rfl, hB⟩
          have hz0 : decide (z < 0) = false := by simp; omega
          obtain ⟨c, rfl⟩ : ∃ c : Nat, z = (c : Int) := ⟨z.toNat, by omega⟩
          by_cases hge2 : m ≤ c
          · have hz1 : decide ((c : Int) ≥ (m : Int)) = true := by simp; omega
            go_wp2_with (first
              | ((with_reducible change wpList _ _ _ (Oper.mk (some 53) _ _ _ _ _ :: _) _ _); refine kLssI _ _ _ _ .i64 (k : Int) (N : Int) false rfl rfl rfl rfl hd ?_; go_frame)
              | (go_at_call 14; refine (rdLeft_any (n := 0) _ hR rfl).mono ?_; rintro e w2 ⟨rfl, rfl⟩; go_frame)
              | (go_at_call 13; refine (rdErr_any (n := 0) _ hR rfl).mono ?_; rintro e w3 ⟨rfl, rfl⟩; clear hR; go_frame)
              | ((with_reducible change wpList _ _ _ (Oper.mk (some 72) _ _ _ _ _ :: _) _ _); refine kLssI _ _ _ _ .i64 (c : Int) 0 false rfl rfl rfl rfl hz0 ?_; go_frame)
              | ((with_reducible change wpList _ _ _ (Oper.mk (some 76) _ _ _ _ _ :: _) _ _); refine kLenN _ _ _ u7 _ m rfl rfl rfl hT (by rw [List.length_map, hm]) Try.underlying25 ?_; go_frame)
              | ((with_reducible change wpList _ _ _ (Oper.mk (some 77) _ _ _ _ _ :: _) _ _); refine kGeqI _ _ _ _ .i64 (c : Int) (m : Int) true rfl rfl rfl rfl hz1 ?_; go_frame))
            go_ret
            exact ⟨rfl, hB⟩
          have hz1 : decide ((c : Int) ≥ (m : Int)) = false := by simp; omega
          have hcW : c ≤ W.length := by omega
          have hfin := hsh c (by omega)
          rw [hN] at hfin
          clear hsh hneg hge2 hge
          have hl0 : (W.take c).length ≤ 100000 := by rw [List.length_take]; omega
          have hcz : (countS (fixedS ⟨W.take c, 0⟩ 8).2 n).2.rest.length ≤ 100000 := by
            refine Nat.le_trans (count_restLe _ _) ?_
            rw [fixedS_take]
            show (takeS ⟨W.take c, 0⟩ (clampS 8)).2.rest.length ≤ _
            unfold takeS
            split
            · exact hl0
            · split
              · exact hl0
              · show (List.drop _ _).length ≤ _
                rw [List.length_drop]; exact Nat.le_trans (Nat.sub_le _ _) hl0
          obtain ⟨s2, hs2⟩ : ∃ s2, (countS (fixedS ⟨W.take c, 0⟩ 8).2 n).2 = s2 := ⟨_, rfl⟩
          rw [hs2] at hfin hcz
          go_wp2_with (first
            | ((with_reducible change wpList _ _ _ (Oper.mk (some 53) _ _ _ _ _ :: _) _ _); refine kLssI _ _ _ _ .i64 (k : Int) (N : Int) false rfl rfl rfl rfl hd ?_; go_frame)
            | (go_at_call 14; refine (rdLeft_any (n := 0) _ hR rfl).mono ?_; rintro e w2 ⟨rfl, rfl⟩; go_frame)
            | (go_at_call 13; refine (rdErr_any (n := 0) _ hR rfl).mono ?_; rintro e w3 ⟨rfl, rfl⟩; clear hR; go_frame)
            | ((with_reducible change wpList _ _ _ (Oper.mk (some 72) _ _ _ _ _ :: _) _ _); refine kLssI _ _ _ _ .i64 (c : Int) 0 false rfl rfl rfl rfl hz0 ?_; go_frame)
            | ((with_reducible change wpList _ _ _ (Oper.mk (some 76) _ _ _ _ _ :: _) _ _); refine kLenN _ _ _ u7 _ m rfl rfl rfl hT (by rw [List.length_map, hm]) Try.underlying25 ?_; go_frame)
            | ((with_reducible change wpList _ _ _ (Oper.mk (some 77) _ _ _ _ _ :: _) _ _); refine kGeqI _ _ _ _ .i64 (c : Int) (m : Int) false rfl rfl rfl rfl hz1 ?_; go_frame)
            | ((with_reducible change wpList _ _ _ (Oper.mk (some 81) _ _ _ _ _ :: _) _ _); refine kSliceTo _ _ u7 W c hT hcW rfl rfl rfl rfl ?_; intro hTk; go_frame)
            | (go_at_call 10; refine (pcNew_any _ hTk (by omega)).mono ?_; rintro e w4 ⟨r, rfl, hr, hR4, hB4⟩; have hre : w.heap.size ≤ r := Nat.le_trans hsz hr; have hB5 := hB.trans (hB4.mono hsz); have hsz5 := hB5.size; clear hTk hT hB hB4; go_frame)
            | (go_at_call 12; refine (rdFixed_any (z := 8) _ hR4).mono ?_; rintro e w6 ⟨rfl, hR6, hX6⟩; have hB7 := hB5.trans (hX6.below hre hsz5); have hsz7 := hB7.size; clear hR4 hB5 hX6; go_frame)
            | (go_at_call 11; refine (rdCount_any (most := n) _ hR6).mono ?_; rintro e w8 ⟨rfl, hR8, hX8⟩; rw [hs2] at hR8; have hB9 := hB7.trans (hX8.below hre hsz7); clear hR6 hB7 hX8; have hu9 := hu.below hB9; obtain ⟨vs9, hvs9, hU9⟩ := hu9.len; go_frame)
            | ((with_reducible change wpList _ _ _ (Oper.mk (some 89) _ _ _ _ _ :: _) _ _); refine kLenN _ _ _ u _ N rfl rfl rfl hU9 (hvs9.trans hN) Try.underlying34 ?_; clear hU9 hvs9 hu9; go_frame))
          go_loopw [90] (fun i wr => ∃ k : Nat, k ≤ N ∧ i = .int .i64 k ∧ Rd 55 wr r (afterT s2 k) ∧ Below w.heap.size w wr) (fun i _ => N - (intOf i).toNat)
          case atStart => exact ⟨0, by omega, rfl, hR8, hB9⟩
          case round =>
            obtain ⟨k, hk, rfl, hR, hB⟩ := hrel
            clear hR8 hB9
            have hsz := hB.size
            by_cases hlt : k < N
            · have hd3 : decide ((k : Int) < (N : Int)) = true := by simp; omega
              have hal := Nat.le_trans (afterT_le s2 k) hcz
              go_wp2_with (first
                | ((with_reducible change wpList _ _ _ (Oper.mk (some 91) _ _ _ _ _ :: _) _ _); refine kLssI _ _ _ _ .i64 (k : Int) (N : Int) true rfl rfl rfl rfl hd3 ?_; go_frame)
                | (go_at_call 25; refine (rdText_any (z := 300) (by decide) _ hR (by omega)).mono ?_; rintro e w4 ⟨v4, rfl, hV4, hR4, hX4⟩; have hB5 := hB.trans (hX4.below hre hsz); clear hV4 hX4 hR hB; go_frame)
                | ((with_reducible change wpList _ _ _ (Oper.mk (some 94) _ _ _ _ _ :: _) _ _); refine kAddI _ _ _ _ (k : Int) 1 ((k + 1 : Nat) : Int) (by omega) rfl rfl rfl rfl ?_; go_frame))
              go_roundw
              case rel => exact ⟨k + 1, by omega, rfl, hR4, hB5⟩
              case measure => simp [intOf]; omega
            · have hd3 : decide ((k : Int) < (N : Int)) = false := by simp; omega
              have hkN : k = N := by omega
              rw [hkN] at hR
              clear hkN
              go_wp2_with (first
                | ((with_reducible change wpList _ _ _ (Oper.mk (some 91) _ _ _ _ _ :: _) _ _); refine kLssI _ _ _ _ .i64 (k : Int) (N : Int) false rfl rfl rfl rfl hd3 ?_; go_frame)
                | (go_at_call 13; refine (rdErr_any (n := 61) _ hR hfin).mono ?_; rintro e w3 ⟨rfl, rfl⟩; clear hR; go_frame))
              go_ret
              exact ⟨rfl, hB⟩
theorem PieceBack_any {u : Value} {n : Nat} {z : Int} {Ls : List (List UInt8)} (hn : n < 18446744073709551616) (w : World) (hu : AreLists w u Ls) : Calls Try.prog 6 #[.int .u64 (n : Int), u, .int .i64 z] w (SizesPost w) := by
  by_cases h : 9 < Ls.length
  · exact PieceBack_out w hu h
  · exact PieceBack_in hn w hu (by omega)
end Go.Proofs.Ytalcopfhofijlaa
