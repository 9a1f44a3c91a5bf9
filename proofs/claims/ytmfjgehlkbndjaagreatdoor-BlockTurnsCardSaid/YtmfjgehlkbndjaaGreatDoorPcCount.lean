/-
  Layer 6: the walks of the Reader's Count and Text.
-/
import Derived.Test.YtmfjgehlkbndjaaGreatDoorPcAll
namespace Go.Proofs.YtmfjgehlkbndjaaGreatDoor
open Go Go.RowKit
variable {Lm : Nat}

/-- what Count does, as it is written -/
def cnt2 (s : Scn) (most : Nat) (c : UInt8) (n : Nat) (t : Scn) : Nat × Scn :=
  if t.err ≠ 0 then (0, ⟨s.rest, t.err⟩) else if cFirst n ≠ c ∨ most < n then (0, ⟨s.rest, 62⟩) else (n, t)
def cnt1 (s : Scn) (most : Nat) : Nat × Scn :=
  if fSize (UInt8.ofNat (fixedS s 1).1) = 0 then cnt2 s most (UInt8.ofNat (fixedS s 1).1) (fixedS s 1).1 (fixedS s 1).2
  else cnt2 s most (UInt8.ofNat (fixedS s 1).1) (fixedS (fixedS s 1).2 (fSize (UInt8.ofNat (fixedS s 1).1) : Int)).1 (fixedS (fixedS s 1).2 (fSize (UInt8.ofNat (fixedS s 1).1) : Int)).2
theorem cFirst_low (c : UInt8) (h : c.toNat ≤ 252) : cFirst c.toNat = c := by unfold cFirst; rw [if_pos h, UInt8.ofNat_toNat]
theorem cFirst_iff (c : UInt8) (n : Nat) (h : fSize c ≠ 0) : cFirst n = c ↔ cSize n = fSize c := by
  constructor
  · intro e; rw [← e, cFirst_size]
  · intro e
    rcases byte_cases c with hc | rfl | rfl | rfl
    · exact absurd (fSize_low hc) h
    all_goals
      unfold cSize at e
      unfold cFirst
      split at e
      · exact absurd e (by decide)
      · rw [if_neg (by assumption)]
        split at e
        · first | exact absurd e (by decide) | rw [if_pos (by assumption)]
        · rw [if_neg (by assumption)]
          split at e
          · first | exact absurd e (by decide) | rw [if_pos (by assumption)]
          · first | exact absurd e (by decide) | rw [if_neg (by assumption)]
theorem clampS_1 : clampS 1 = 1 := by decide
theorem ofNat_byte (c : UInt8) : UInt8.ofNat c.toNat = c := UInt8.ofNat_toNat
theorem fixed1_cons (c : UInt8) (r : List UInt8) : fixedS ⟨c :: r, 0⟩ 1 = (c.toNat, ⟨r, 0⟩) := by
  rw [fixedS_take, clampS_1, takeS_some rfl (by simp)]; simp [numL]
theorem fSize_0 : fSize (UInt8.ofNat 0) = 0 := by decide
theorem cnt_same (s : Scn) (most : Nat) : cnt1 s most = countS s most := by
  by_cases he : s.err ≠ 0
  · rw [count_bad he]
    unfold cnt1
    rw [fixed_bad he, if_pos fSize_0]
    unfold cnt2; rw [if_pos he]
  · obtain ⟨l, e⟩ := s
    obtain rfl : e = 0 := by simpa using he
    cases l with
    | nil =>
      have h1 : fixedS ⟨[], 0⟩ 1 = (0, ⟨[], 61⟩) := by rw [fixedS_take, clampS_1, takeS_short rfl (by simp)]; rfl
      unfold cnt1
      rw [h1, if_pos fSize_0]
      unfold cnt2 countS; rw [if_pos (by simp), if_neg (by simp)]
    | cons c r =>
      unfold cnt1
      rw [fixed1_cons, ofNat_byte, countS_cons]
      by_cases hf : fSize c = 0
      · have hc : c.toNat ≤ 252 := by rcases byte_cases c with h | rfl | rfl | rfl <;> first | exact h | exact absurd hf (by decide)
        have h3 : cSize c.toNat = 0 := by unfold cSize; rw [if_pos hc]
        rw [if_pos hf, if_neg (by rw [hf]; omega)]
        unfold cnt2
        rw [if_neg (by simp), cFirst_low c hc, if_pos hf, h3]
        by_cases hm : most < c.toNat
        · rw [if_pos (.inr hm), if_pos (.inr hm)]
        · rw [if_neg (by simp; omega), if_neg (by rw [hf]; simp; omega), hf, List.drop_zero]
      · rw [if_neg hf]
        by_cases hs : r.length < fSize c
        · rw [if_pos hs, fixedS_take, clampS_size, takeS_short rfl hs]
          unfold cnt2; rw [if_pos (by simp)]
        · rw [if_neg hs, fixedS_take, clampS_size, takeS_some rfl (by simpa using hs)]
          unfold cnt2
          rw [if_neg (by simp), if_neg hf]
          have hi := cFirst_iff c (numL (r.take (fSize c))) hf
          by_cases hx : cFirst (numL (r.take (fSize c))) ≠ c ∨ most < numL (r.take (fSize c))
          · rw [if_pos hx, if_pos (hx.imp (fun h e => h (hi.2 e)) id)]
          · rw [if_neg hx, if_neg (fun h => hx (h.imp (fun h e => h (hi.1 e)) id))]
theorem B_eqP (c : UInt8) (m : Nat) (hm : m < 256) : decide (B c = ((m : Nat) : Int)) = decide (c = UInt8.ofNat m) := by
  unfold B
  by_cases h : c = UInt8.ofNat m
  · subst h; rw [u8_nat hm]; simp
  · have h2 : ¬ (c.toNat = m) := fun e => h (by rw [← e, UInt8.ofNat_toNat])
    have h3 : ¬ ((c.toNat : Int) = (m : Int)) := by omega
    rw [decide_eq_false h, decide_eq_false h3]
set_option maxRecDepth 100000 in
set_option maxHeartbeats 8000000 in
theorem rdCount_one {s s1 : Scn} {g n1 : Nat} {most : Nat} {c : UInt8} {f : Nat} (w : World) (h : Rd Lm 97 w g s) (hF1 : Calls Tryz.prog 55 #[.pointer (some ⟨g, 0, none⟩), .int .i64 1] w (PNumPost Lm 97 g w (n1, s1))) (hn1 : n1 < 256) (hc : UInt8.ofNat n1 = c) (hsb : ∀ w, Calls Tryz.prog 107 #[.int .u8 (n1 : Int)] w fun e w' => e = .returned (.int .i64 (f : Int)) ∧ w' = w) (hf0 : f = 0) : Calls Tryz.prog 75 #[.pointer (some ⟨g, 0, none⟩), .int .u64 (most : Int)] w (PNumPost Lm 97 g w (cnt2 s most c n1 s1)) := by
  obtain ⟨v0, hR0, hV0, hL0⟩ := id h
  have hone := vals_one hV0
  obtain ⟨E, hE⟩ : ∃ E, s1.err = E := ⟨_, rfl⟩
  have hfo := fun w => pcFirst_any n1 w
  have hm1 : n1 % 256 = n1 := Nat.mod_eq_of_lt hn1
  have hB := B_eqP (cFirst n1) n1 hn1
  rw [hc] at hB
  have hf : decide ((f : Int) > 0) = false := by simp; omega
  by_cases he : E ≠ 0
  · rw [show cnt2 s most c n1 s1 = (0, ⟨s.rest, E⟩) by unfold cnt2; rw [hE, if_pos he]]
    have hq : decide ((E : Int) = 0) = false := by simp; exact he
    have hq2 : (!decide ((E : Int) = 0)) = true := by simp; exact he
    clear hB he hfo hc
    go_enter Tryz.func75, Tryz.ntmps75
    go_wp2_with (first
      | ((with_reducible change wpList _ _ _ (Oper.mk (some 11) _ _ _ _ _ :: _) _ _); refine kR0 _ g rfl rfl rfl ?_; go_frame)
      | ((with_reducible change wpList _ _ _ (Oper.mk (some 12) _ _ _ _ _ :: _) _ _); refine kLoad1 _ _ _ g 0 _ v0 _ rfl rfl rfl hR0 Tryz.underlying38 rfl rfl ?_; go_frame)
      | (go_at_call 55; (with_reducible change Calls _ _ #[_, Value.int .i64 1] _ _); refine (hF1).mono ?_; rintro e w1 ⟨rfl, hR1, hX1⟩; clear hF1; obtain ⟨v2, hRr, hVv, hLv⟩ := id hR1; change Row _ _ _ #[v2, .int .i64 (s1.err : Int)] at hRr; rw [hE] at hRr; go_frame)
      | ((with_reducible change wpList _ _ _ (Oper.mk (some 15) _ _ _ _ _ :: _) _ _); refine kConv8 _ n1 rfl rfl rfl ?_; rw [hm1]; go_frame)
      | ((with_reducible change wpList _ _ _ (Oper.mk (some 17) _ _ _ _ _ :: _) _ _); refine kConvB8 _ n1 hn1 rfl rfl rfl ?_; go_frame)
      | (go_at_call 107; refine (hsb _).mono ?_; rintro e w9 ⟨rfl, rfl⟩; go_frame)
      | ((with_reducible change wpList _ _ _ (Oper.mk (some 21) _ _ _ _ _ :: _) _ _); refine kGtrI _ _ _ _ .i64 (f : Int) 0 false rfl rfl rfl rfl hf ?_; go_frame)
      | ((with_reducible change wpList _ _ _ (Oper.mk (some 27) _ _ _ _ _ :: _) _ _); refine kR1 _ g rfl rfl rfl ?_; go_frame)
      | ((with_reducible change wpList _ _ _ (Oper.mk (some 28) _ _ _ _ _ :: _) _ _); refine kLoad1 _ _ _ g 1 _ (.int .i64 (E : Int)) _ rfl rfl rfl hRr Tryz.underlying35 rfl rfl ?_; go_frame)
      | ((with_reducible change wpList _ _ _ (Oper.mk (some 29) _ _ _ _ _ :: _) _ _); refine kEqlI _ _ _ _ .i64 (E : Int) 0 false rfl rfl rfl rfl hq ?_; go_frame)
      | ((with_reducible change wpList _ _ _ (Oper.mk (some 46) _ _ _ _ _ :: _) _ _); refine kR1 _ g rfl rfl rfl ?_; go_frame)
      | ((with_reducible change wpList _ _ _ (Oper.mk (some 47) _ _ _ _ _ :: _) _ _); refine kLoad1 _ _ _ g 1 _ (.int .i64 (E : Int)) _ rfl rfl rfl hRr Tryz.underlying35 rfl rfl ?_; go_frame)
      | ((with_reducible change wpList _ _ _ (Oper.mk (some 48) _ _ _ _ _ :: _) _ _); refine kNeqI _ _ _ _ .i64 (E : Int) 0 true rfl rfl rfl rfl hq2 ?_; go_frame)
      | ((with_reducible change wpList _ _ _ (Oper.mk (some 52) _ _ _ _ _ :: _) _ _); refine kR0 _ g rfl rfl rfl ?_; go_frame)
      | ((with_reducible change wpList _ _ _ (Oper.mk none (Op.store _ (Operand.tmp 52) _) _ _ _ _ :: _) _ _); refine kStore1 _ _ _ _ g 0 _ v0 rfl rfl rfl rfl hRr info_bytesP (show 0 < 2 by decide) hone ?_; intro w4 hR4 hW4; go_frame))
    go_ret
    have hX := (hX1).trans (exc_wrote hW4)
    exact ⟨rfl, ⟨v0, hR4, hX.vals h hV0, hL0⟩, hX⟩
  have he0 : E = 0 := by omega
  have hq : decide ((E : Int) = 0) = true := by simp; exact he0
  have hq2 : (!decide ((E : Int) = 0)) = false := by simp; exact he0
  by_cases hcf : cFirst n1 ≠ c
  · rw [show cnt2 s most c n1 s1 = (0, ⟨s.rest, 62⟩) by unfold cnt2; rw [hE, if_neg he, if_pos (.inl hcf)]]
    have hne : (!decide (B (cFirst n1) = (n1 : Int))) = true := by rw [hB]; simp; exact hcf
    clear hB he he0 hcf hc
    go_enter Tryz.func75, Tryz.ntmps75
    go_wp2_with (first
      | ((with_reducible change wpList _ _ _ (Oper.mk (some 11) _ _ _ _ _ :: _) _ _); refine kR0 _ g rfl rfl rfl ?_; go_frame)
      | ((with_reducible change wpList _ _ _ (Oper.mk (some 12) _ _ _ _ _ :: _) _ _); refine kLoad1 _ _ _ g 0 _ v0 _ rfl rfl rfl hR0 Tryz.underlying38 rfl rfl ?_; go_frame)
      | (go_at_call 55; (with_reducible change Calls _ _ #[_, Value.int .i64 1] _ _); refine (hF1).mono ?_; rintro e w1 ⟨rfl, hR1, hX1⟩; clear hF1; obtain ⟨v2, hRr, hVv, hLv⟩ := id hR1; change Row _ _ _ #[v2, .int .i64 (s1.err : Int)] at hRr; rw [hE] at hRr; go_frame)
      | ((with_reducible change wpList _ _ _ (Oper.mk (some 15) _ _ _ _ _ :: _) _ _); refine kConv8 _ n1 rfl rfl rfl ?_; rw [hm1]; go_frame)
      | ((with_reducible change wpList _ _ _ (Oper.mk (some 17) _ _ _ _ _ :: _) _ _); refine kConvB8 _ n1 hn1 rfl rfl rfl ?_; go_frame)
      | (go_at_call 107; refine (hsb _).mono ?_; rintro e w9 ⟨rfl, rfl⟩; go_frame)
      | ((with_reducible change wpList _ _ _ (Oper.mk (some 21) _ _ _ _ _ :: _) _ _); refine kGtrI _ _ _ _ .i64 (f : Int) 0 false rfl rfl rfl rfl hf ?_; go_frame)
      | ((with_reducible change wpList _ _ _ (Oper.mk (some 27) _ _ _ _ _ :: _) _ _); refine kR1 _ g rfl rfl rfl ?_; go_frame)
      | ((with_reducible change wpList _ _ _ (Oper.mk (some 28) _ _ _ _ _ :: _) _ _); refine kLoad1 _ _ _ g 1 _ (.int .i64 (E : Int)) _ rfl rfl rfl hRr Tryz.underlying35 rfl rfl ?_; go_frame)
      | ((with_reducible change wpList _ _ _ (Oper.mk (some 29) _ _ _ _ _ :: _) _ _); refine kEqlI _ _ _ _ .i64 (E : Int) 0 true rfl rfl rfl rfl hq ?_; go_frame)
      | (go_at_call 106; refine (hfo _).mono ?_; rintro e w8 ⟨rfl, rfl⟩; go_frame)
      | ((with_reducible change wpList _ _ _ (Oper.mk (some 34) _ _ _ _ _ :: _) _ _); refine kNeqI _ _ _ _ .u8 (B (cFirst n1)) (n1 : Int) true rfl rfl rfl rfl hne ?_; go_frame)
      | ((with_reducible change wpList _ _ _ (Oper.mk (some 43) _ _ _ _ _ :: _) _ _); refine kR1 _ g rfl rfl rfl ?_; go_frame)
      | ((with_reducible change wpList _ _ _ (Oper.mk none (Op.store _ (Operand.tmp 43) _) _ _ _ _ :: _) _ _); refine kStore1 _ _ _ _ g 1 _ (.int .i64 62) rfl rfl rfl rfl hRr info_errno (show 1 < 2 by decide) rfl ?_; intro w3 hR3 hW3; have hX3 := exc_wrote hW3; go_frame)
      | ((with_reducible change wpList _ _ _ (Oper.mk (some 46) _ _ _ _ _ :: _) _ _); refine kR1 _ g rfl rfl rfl ?_; go_frame)
      | ((with_reducible change wpList _ _ _ (Oper.mk (some 47) _ _ _ _ _ :: _) _ _); refine kLoad1 _ _ _ g 1 _ (.int .i64 62) _ rfl rfl rfl hR3 Tryz.underlying35 rfl rfl ?_; go_frame)
      | ((with_reducible change wpList _ _ _ (Oper.mk (some 48) _ _ _ _ _ :: _) _ _); refine kNeqI _ _ _ _ .i64 62 0 true rfl rfl rfl rfl (by decide) ?_; go_frame)
      | ((with_reducible change wpList _ _ _ (Oper.mk (some 52) _ _ _ _ _ :: _) _ _); refine kR0 _ g rfl rfl rfl ?_; go_frame)
      | ((with_reducible change wpList _ _ _ (Oper.mk none (Op.store _ (Operand.tmp 52) _) _ _ _ _ :: _) _ _); refine kStore1 _ _ _ _ g 0 _ v0 rfl rfl rfl rfl hR3 info_bytesP (show 0 < 2 by decide) hone ?_; intro w4 hR4 hW4; go_frame))
    go_ret
    have hX := ((hX1).trans hX3).trans (exc_wrote hW4)
    exact ⟨rfl, ⟨v0, hR4, hX.vals h hV0, hL0⟩, hX⟩
  have hne : (!decide (B (cFirst n1) = (n1 : Int))) = false := by rw [hB]; simp; simpa using hcf
  by_cases hm : most < n1
  · rw [show cnt2 s most c n1 s1 = (0, ⟨s.rest, 62⟩) by unfold cnt2; rw [hE, if_neg he, if_pos (.inr hm)]]
    have hgt : decide ((n1 : Int) > (most : Int)) = true := by simp; omega
    clear hB he he0 hcf hm hc
    go_enter Tryz.func75, Tryz.ntmps75
    go_wp2_with (first
      | ((with_reducible change wpList _ _ _ (Oper.mk (some 11) _ _ _ _ _ :: _) _ _); refine kR0 _ g rfl rfl rfl ?_; go_frame)
      | ((with_reducible change wpList _ _ _ (Oper.mk (some 12) _ _ _ _ _ :: _) _ _); refine kLoad1 _ _ _ g 0 _ v0 _ rfl rfl rfl hR0 Tryz.underlying38 rfl rfl ?_; go_frame)
      | (go_at_call 55; (with_reducible change Calls _ _ #[_, Value.int .i64 1] _ _); refine (hF1).mono ?_; rintro e w1 ⟨rfl, hR1, hX1⟩; clear hF1; obtain ⟨v2, hRr, hVv, hLv⟩ := id hR1; change Row _ _ _ #[v2, .int .i64 (s1.err : Int)] at hRr; rw [hE] at hRr; go_frame)
      | ((with_reducible change wpList _ _ _ (Oper.mk (some 15) _ _ _ _ _ :: _) _ _); refine kConv8 _ n1 rfl rfl rfl ?_; rw [hm1]; go_frame)
      | ((with_reducible change wpList _ _ _ (Oper.mk (some 17) _ _ _ _ _ :: _) _ _); refine kConvB8 _ n1 hn1 rfl rfl rfl ?_; go_frame)
      | (go_at_call 107; refine (hsb _).mono ?_; rintro e w9 ⟨rfl, rfl⟩; go_frame)
      | ((with_reducible change wpList _ _ _ (Oper.mk (some 21) _ _ _ _ _ :: _) _ _); refine kGtrI _ _ _ _ .i64 (f : Int) 0 false rfl rfl rfl rfl hf ?_; go_frame)
      | ((with_reducible change wpList _ _ _ (Oper.mk (some 27) _ _ _ _ _ :: _) _ _); refine kR1 _ g rfl rfl rfl ?_; go_frame)
      | ((with_reducible change wpList _ _ _ (Oper.mk (some 28) _ _ _ _ _ :: _) _ _); refine kLoad1 _ _ _ g 1 _ (.int .i64 (E : Int)) _ rfl rfl rfl hRr Tryz.underlying35 rfl rfl ?_; go_frame)
      | ((with_reducible change wpList _ _ _ (Oper.mk (some 29) _ _ _ _ _ :: _) _ _); refine kEqlI _ _ _ _ .i64 (E : Int) 0 true rfl rfl rfl rfl hq ?_; go_frame)
      | (go_at_call 106; refine (hfo _).mono ?_; rintro e w8 ⟨rfl, rfl⟩; go_frame)
      | ((with_reducible change wpList _ _ _ (Oper.mk (some 34) _ _ _ _ _ :: _) _ _); refine kNeqI _ _ _ _ .u8 (B (cFirst n1)) (n1 : Int) false rfl rfl rfl rfl hne ?_; go_frame)
      | ((with_reducible change wpList _ _ _ (Oper.mk (some 38) _ _ _ _ _ :: _) _ _); refine kGtrI _ _ _ _ .u64 (n1 : Int) (most : Int) true rfl rfl rfl rfl hgt ?_; go_frame)
      | ((with_reducible change wpList _ _ _ (Oper.mk (some 43) _ _ _ _ _ :: _) _ _); refine kR1 _ g rfl rfl rfl ?_; go_frame)
      | ((with_reducible change wpList _ _ _ (Oper.mk none (Op.store _ (Operand.tmp 43) _) _ _ _ _ :: _) _ _); refine kStore1 _ _ _ _ g 1 _ (.int .i64 62) rfl rfl rfl rfl hRr info_errno (show 1 < 2 by decide) rfl ?_; intro w3 hR3 hW3; have hX3 := exc_wrote hW3; go_frame)
      | ((with_reducible change wpList _ _ _ (Oper.mk (some 46) _ _ _ _ _ :: _) _ _); refine kR1 _ g rfl rfl rfl ?_; go_frame)
      | ((with_reducible change wpList _ _ _ (Oper.mk (some 47) _ _ _ _ _ :: _) _ _); refine kLoad1 _ _ _ g 1 _ (.int .i64 62) _ rfl rfl rfl hR3 Tryz.underlying35 rfl rfl ?_; go_frame)
      | ((with_reducible change wpList _ _ _ (Oper.mk (some 48) _ _ _ _ _ :: _) _ _); refine kNeqI _ _ _ _ .i64 62 0 true rfl rfl rfl rfl (by decide) ?_; go_frame)
      | ((with_reducible change wpList _ _ _ (Oper.mk (some 52) _ _ _ _ _ :: _) _ _); refine kR0 _ g rfl rfl rfl ?_; go_frame)
      | ((with_reducible change wpList _ _ _ (Oper.mk none (Op.store _ (Operand.tmp 52) _) _ _ _ _ :: _) _ _); refine kStore1 _ _ _ _ g 0 _ v0 rfl rfl rfl rfl hR3 info_bytesP (show 0 < 2 by decide) hone ?_; intro w4 hR4 hW4; go_frame))
    go_ret
    have hX := ((hX1).trans hX3).trans (exc_wrote hW4)
    exact ⟨rfl, ⟨v0, hR4, hX.vals h hV0, hL0⟩, hX⟩
  · rw [show cnt2 s most c n1 s1 = (n1, s1) by unfold cnt2; rw [hE, if_neg he, if_neg (by simp only [not_or]; exact ⟨hcf, hm⟩)]]
    have hgt : decide ((n1 : Int) > (most : Int)) = false := by simp; omega
    clear hB he he0 hcf hm hc
    go_enter Tryz.func75, Tryz.ntmps75
    go_wp2_with (first
      | ((with_reducible change wpList _ _ _ (Oper.mk (some 11) _ _ _ _ _ :: _) _ _); refine kR0 _ g rfl rfl rfl ?_; go_frame)
      | ((with_reducible change wpList _ _ _ (Oper.mk (some 12) _ _ _ _ _ :: _) _ _); refine kLoad1 _ _ _ g 0 _ v0 _ rfl rfl rfl hR0 Tryz.underlying38 rfl rfl ?_; go_frame)
      | (go_at_call 55; (with_reducible change Calls _ _ #[_, Value.int .i64 1] _ _); refine (hF1).mono ?_; rintro e w1 ⟨rfl, hR1, hX1⟩; clear hF1; obtain ⟨v2, hRr, hVv, hLv⟩ := id hR1; change Row _ _ _ #[v2, .int .i64 (s1.err : Int)] at hRr; rw [hE] at hRr; go_frame)
      | ((with_reducible change wpList _ _ _ (Oper.mk (some 15) _ _ _ _ _ :: _) _ _); refine kConv8 _ n1 rfl rfl rfl ?_; rw [hm1]; go_frame)
      | ((with_reducible change wpList _ _ _ (Oper.mk (some 17) _ _ _ _ _ :: _) _ _); refine kConvB8 _ n1 hn1 rfl rfl rfl ?_; go_frame)
      | (go_at_call 107; refine (hsb _).mono ?_; rintro e w9 ⟨rfl, rfl⟩; go_frame)
      | ((with_reducible change wpList _ _ _ (Oper.mk (some 21) _ _ _ _ _ :: _) _ _); refine kGtrI _ _ _ _ .i64 (f : Int) 0 false rfl rfl rfl rfl hf ?_; go_frame)
      | ((with_reducible change wpList _ _ _ (Oper.mk (some 27) _ _ _ _ _ :: _) _ _); refine kR1 _ g rfl rfl rfl ?_; go_frame)
      | ((with_reducible change wpList _ _ _ (Oper.mk (some 28) _ _ _ _ _ :: _) _ _); refine kLoad1 _ _ _ g 1 _ (.int .i64 (E : Int)) _ rfl rfl rfl hRr Tryz.underlying35 rfl rfl ?_; go_frame)
      | ((with_reducible change wpList _ _ _ (Oper.mk (some 29) _ _ _ _ _ :: _) _ _); refine kEqlI _ _ _ _ .i64 (E : Int) 0 true rfl rfl rfl rfl hq ?_; go_frame)
      | (go_at_call 106; refine (hfo _).mono ?_; rintro e w8 ⟨rfl, rfl⟩; go_frame)
      | ((with_reducible change wpList _ _ _ (Oper.mk (some 34) _ _ _ _ _ :: _) _ _); refine kNeqI _ _ _ _ .u8 (B (cFirst n1)) (n1 : Int) false rfl rfl rfl rfl hne ?_; go_frame)
      | ((with_reducible change wpList _ _ _ (Oper.mk (some 38) _ _ _ _ _ :: _) _ _); refine kGtrI _ _ _ _ .u64 (n1 : Int) (most : Int) false rfl rfl rfl rfl hgt ?_; go_frame)
      | ((with_reducible change wpList _ _ _ (Oper.mk (some 46) _ _ _ _ _ :: _) _ _); refine kR1 _ g rfl rfl rfl ?_; go_frame)
      | ((with_reducible change wpList _ _ _ (Oper.mk (some 47) _ _ _ _ _ :: _) _ _); refine kLoad1 _ _ _ g 1 _ (.int .i64 (E : Int)) _ rfl rfl rfl hRr Tryz.underlying35 rfl rfl ?_; go_frame)
      | ((with_reducible change wpList _ _ _ (Oper.mk (some 48) _ _ _ _ _ :: _) _ _); refine kNeqI _ _ _ _ .i64 (E : Int) 0 false rfl rfl rfl rfl hq2 ?_; go_frame))
    go_ret
    exact ⟨rfl, hR1, hX1⟩
set_option maxRecDepth 100000 in
set_option maxHeartbeats 8000000 in
theorem rdCount_two {s s1 : Scn} {g n1 : Nat} {most : Nat} {c : UInt8} {f : Nat} (w : World) (h : Rd Lm 97 w g s) (hF1 : Calls Tryz.prog 55 #[.pointer (some ⟨g, 0, none⟩), .int .i64 1] w (PNumPost Lm 97 g w (n1, s1))) (hn1 : n1 < 256) (hc : UInt8.ofNat n1 = c) (hsb : ∀ w, Calls Tryz.prog 107 #[.int .u8 (n1 : Int)] w fun e w' => e = .returned (.int .i64 (f : Int)) ∧ w' = w) (hf0 : 0 < f) {n2 : Nat} {s2 : Scn} (hF2 : ∀ w1, Rd Lm 97 w1 g s1 → Calls Tryz.prog 55 #[.pointer (some ⟨g, 0, none⟩), .int .i64 (f : Int)] w1 (PNumPost Lm 97 g w1 (n2, s2))) : Calls Tryz.prog 75 #[.pointer (some ⟨g, 0, none⟩), .int .u64 (most : Int)] w (PNumPost Lm 97 g w (cnt2 s most c n2 s2)) := by
  obtain ⟨v0, hR0, hV0, hL0⟩ := id h
  have hone := vals_one hV0
  obtain ⟨E, hE⟩ : ∃ E, s2.err = E := ⟨_, rfl⟩
  have hfo := fun w => pcFirst_any n2 w
  have hm1 : n1 % 256 = n1 := Nat.mod_eq_of_lt hn1
  have hB := B_eqP (cFirst n2) n1 hn1
  rw [hc] at hB
  have hf : decide ((f : Int) > 0) = true := by simp; omega
  by_cases he : E ≠ 0
  · rw [show cnt2 s most c n2 s2 = (0, ⟨s.rest, E⟩) by unfold cnt2; rw [hE, if_pos he]]
    have hq : decide ((E : Int) = 0) = false := by simp; exact he
    have hq2 : (!decide ((E : Int) = 0)) = true := by simp; exact he
    clear hB he hfo hc
    go_enter Tryz.func75, Tryz.ntmps75
    go_wp2_with (first
      | ((with_reducible change wpList _ _ _ (Oper.mk (some 11) _ _ _ _ _ :: _) _ _); refine kR0 _ g rfl rfl rfl ?_; go_frame)
      | ((with_reducible change wpList _ _ _ (Oper.mk (some 12) _ _ _ _ _ :: _) _ _); refine kLoad1 _ _ _ g 0 _ v0 _ rfl rfl rfl hR0 Tryz.underlying38 rfl rfl ?_; go_frame)
      | (go_at_call 55; (with_reducible change Calls _ _ #[_, Value.int .i64 1] _ _); refine (hF1).mono ?_; rintro e w1 ⟨rfl, hR1, hX1⟩; clear hF1; go_frame)
      | ((with_reducible change wpList _ _ _ (Oper.mk (some 15) _ _ _ _ _ :: _) _ _); refine kConv8 _ n1 rfl rfl rfl ?_; rw [hm1]; go_frame)
      | ((with_reducible change wpList _ _ _ (Oper.mk (some 17) _ _ _ _ _ :: _) _ _); refine kConvB8 _ n1 hn1 rfl rfl rfl ?_; go_frame)
      | (go_at_call 107; refine (hsb _).mono ?_; rintro e w9 ⟨rfl, rfl⟩; go_frame)
      | ((with_reducible change wpList _ _ _ (Oper.mk (some 21) _ _ _ _ _ :: _) _ _); refine kGtrI _ _ _ _ .i64 (f : Int) 0 true rfl rfl rfl rfl hf ?_; go_frame)
      | (go_at_call 55; (with_reducible change Calls _ _ #[_, Value.int .i64 (f : Int)] _ _); refine (hF2 _ hR1).mono ?_; rintro e w2 ⟨rfl, hR2, hX2⟩; clear hF2; obtain ⟨v2, hRr, hVv, hLv⟩ := id hR2; change Row _ _ _ #[v2, .int .i64 (s2.err : Int)] at hRr; rw [hE] at hRr; go_frame)
      | ((with_reducible change wpList _ _ _ (Oper.mk (some 27) _ _ _ _ _ :: _) _ _); refine kR1 _ g rfl rfl rfl ?_; go_frame)
      | ((with_reducible change wpList _ _ _ (Oper.mk (some 28) _ _ _ _ _ :: _) _ _); refine kLoad1 _ _ _ g 1 _ (.int .i64 (E : Int)) _ rfl rfl rfl hRr Tryz.underlying35 rfl rfl ?_; go_frame)
      | ((with_reducible change wpList _ _ _ (Oper.mk (some 29) _ _ _ _ _ :: _) _ _); refine kEqlI _ _ _ _ .i64 (E : Int) 0 false rfl rfl rfl rfl hq ?_; go_frame)
      | ((with_reducible change wpList _ _ _ (Oper.mk (some 46) _ _ _ _ _ :: _) _ _); refine kR1 _ g rfl rfl rfl ?_; go_frame)
      | ((with_reducible change wpList _ _ _ (Oper.mk (some 47) _ _ _ _ _ :: _) _ _); refine kLoad1 _ _ _ g 1 _ (.int .i64 (E : Int)) _ rfl rfl rfl hRr Tryz.underlying35 rfl rfl ?_; go_frame)
      | ((with_reducible change wpList _ _ _ (Oper.mk (some 48) _ _ _ _ _ :: _) _ _); refine kNeqI _ _ _ _ .i64 (E : Int) 0 true rfl rfl rfl rfl hq2 ?_; go_frame)
      | ((with_reducible change wpList _ _ _ (Oper.mk (some 52) _ _ _ _ _ :: _) _ _); refine kR0 _ g rfl rfl rfl ?_; go_frame)
      | ((with_reducible change wpList _ _ _ (Oper.mk none (Op.store _ (Operand.tmp 52) _) _ _ _ _ :: _) _ _); refine kStore1 _ _ _ _ g 0 _ v0 rfl rfl rfl rfl hRr info_bytesP (show 0 < 2 by decide) hone ?_; intro w4 hR4 hW4; go_frame))
    go_ret
    have hX := (hX1.trans hX2).trans (exc_wrote hW4)
    exact ⟨rfl, ⟨v0, hR4, hX.vals h hV0, hL0⟩, hX⟩
  have he0 : E = 0 := by omega
  have hq : decide ((E : Int) = 0) = true := by simp; exact he0
  have hq2 : (!decide ((E : Int) = 0)) = false := by simp; exact he0
  by_cases hcf : cFirst n2 ≠ c
  · rw [show cnt2 s most c n2 s2 = (0, ⟨s.rest, 62⟩) by unfold cnt2; rw [hE, if_neg he, if_pos (.inl hcf)]]
    have hne : (!decide (B (cFirst n2) = (n1 : Int))) = true := by rw [hB]; simp; exact hcf
    clear hB he he0 hcf hc
    go_enter Tryz.func75, Tryz.ntmps75
    go_wp2_with (first
      | ((with_reducible change wpList _ _ _ (Oper.mk (some 11) _ _ _ _ _ :: _) _ _); refine kR0 _ g rfl rfl rfl ?_; go_frame)
      | ((with_reducible change wpList _ _ _ (Oper.mk (some 12) _ _ _ _ _ :: _) _ _); refine kLoad1 _ _ _ g 0 _ v0 _ rfl rfl rfl hR0 Tryz.underlying38 rfl rfl ?_; go_frame)
      | (go_at_call 55; (with_reducible change Calls _ _ #[_, Value.int .i64 1] _ _); refine (hF1).mono ?_; rintro e w1 ⟨rfl, hR1, hX1⟩; clear hF1; go_frame)
      | ((with_reducible change wpList _ _ _ (Oper.mk (some 15) _ _ _ _ _ :: _) _ _); refine kConv8 _ n1 rfl rfl rfl ?_; rw [hm1]; go_frame)
      | ((with_reducible change wpList _ _ _ (Oper.mk (some 17) _ _ _ _ _ :: _) _ _); refine kConvB8 _ n1 hn1 rfl rfl rfl ?_; go_frame)
      | (go_at_call 107; refine (hsb _).mono ?_; rintro e w9 ⟨rfl, rfl⟩; go_frame)
      | ((with_reducible change wpList _ _ _ (Oper.mk (some 21) _ _ _ _ _ :: _) _ _); refine kGtrI _ _ _ _ .i64 (f : Int) 0 true rfl rfl rfl rfl hf ?_; go_frame)
      | (go_at_call 55; (with_reducible change Calls _ _ #[_, Value.int .i64 (f : Int)] _ _); refine (hF2 _ hR1).mono ?_; rintro e w2 ⟨rfl, hR2, hX2⟩; clear hF2; obtain ⟨v2, hRr, hVv, hLv⟩ := id hR2; change Row _ _ _ #[v2, .int .i64 (s2.err : Int)] at hRr; rw [hE] at hRr; go_frame)
      | ((with_reducible change wpList _ _ _ (Oper.mk (some 27) _ _ _ _ _ :: _) _ _); refine kR1 _ g rfl rfl rfl ?_; go_frame)
      | ((with_reducible change wpList _ _ _ (Oper.mk (some 28) _ _ _ _ _ :: _) _ _); refine kLoad1 _ _ _ g 1 _ (.int .i64 (E : Int)) _ rfl rfl rfl hRr Tryz.underlying35 rfl rfl ?_; go_frame)
      | ((with_reducible change wpList _ _ _ (Oper.mk (some 29) _ _ _ _ _ :: _) _ _); refine kEqlI _ _ _ _ .i64 (E : Int) 0 true rfl rfl rfl rfl hq ?_; go_frame)
      | (go_at_call 106; refine (hfo _).mono ?_; rintro e w8 ⟨rfl, rfl⟩; go_frame)
      | ((with_reducible change wpList _ _ _ (Oper.mk (some 34) _ _ _ _ _ :: _) _ _); refine kNeqI _ _ _ _ .u8 (B (cFirst n2)) (n1 : Int) true rfl rfl rfl rfl hne ?_; go_frame)
      | ((with_reducible change wpList _ _ _ (Oper.mk (some 43) _ _ _ _ _ :: _) _ _); refine kR1 _ g rfl rfl rfl ?_; go_frame)
      | ((with_reducible change wpList _ _ _ (Oper.mk none (Op.store _ (Operand.tmp 43) _) _ _ _ _ :: _) _ _); refine kStore1 _ _ _ _ g 1 _ (.int .i64 62) rfl rfl rfl rfl hRr info_errno (show 1 < 2 by decide) rfl ?_; intro w3 hR3 hW3; have hX3 := exc_wrote hW3; go_frame)
      | ((with_reducible change wpList _ _ _ (Oper.mk (some 46) _ _ _ _ _ :: _) _ _); refine kR1 _ g rfl rfl rfl ?_; go_frame)
      | ((with_reducible change wpList _ _ _ (Oper.mk (some 47) _ _ _ _ _ :: _) _ _); refine kLoad1 _ _ _ g 1 _ (.int .i64 62) _ rfl rfl rfl hR3 Tryz.underlying35 rfl rfl ?_; go_frame)
      | ((with_reducible change wpList _ _ _ (Oper.mk (some 48) _ _ _ _ _ :: _) _ _); refine kNeqI _ _ _ _ .i64 62 0 true rfl rfl rfl rfl (by decide) ?_; go_frame)
      | ((with_reducible change wpList _ _ _ (Oper.mk (some 52) _ _ _ _ _ :: _) _ _); refine kR0 _ g rfl rfl rfl ?_; go_frame)
      | ((with_reducible change wpList _ _ _ (Oper.mk none (Op.store _ (Operand.tmp 52) _) _ _ _ _ :: _) _ _); refine kStore1 _ _ _ _ g 0 _ v0 rfl rfl rfl rfl hR3 info_bytesP (show 0 < 2 by decide) hone ?_; intro w4 hR4 hW4; go_frame))
    go_ret
    have hX := ((hX1.trans hX2).trans hX3).trans (exc_wrote hW4)
    exact ⟨rfl, ⟨v0, hR4, hX.vals h hV0, hL0⟩, hX⟩
  have hne : (!decide (B (cFirst n2) = (n1 : Int))) = false := by rw [hB]; simp; simpa using hcf
  by_cases hm : most < n2
  · rw [show cnt2 s most c n2 s2 = (0, ⟨s.rest, 62⟩) by unfold cnt2; rw [hE, if_neg he, if_pos (.inr hm)]]
    have hgt : decide ((n2 : Int) > (most : Int)) = true := by simp; omega
    clear hB he he0 hcf hm hc
    go_enter Tryz.func75, Tryz.ntmps75
    go_wp2_with (first
      | ((with_reducible change wpList _ _ _ (Oper.mk (some 11) _ _ _ _ _ :: _) _ _); refine kR0 _ g rfl rfl rfl ?_; go_frame)
      | ((with_reducible change wpList _ _ _ (Oper.mk (some 12) _ _ _ _ _ :: _) _ _); refine kLoad1 _ _ _ g 0 _ v0 _ rfl rfl rfl hR0 Tryz.underlying38 rfl rfl ?_; go_frame)
      | (go_at_call 55; (with_reducible change Calls _ _ #[_, Value.int .i64 1] _ _); refine (hF1).mono ?_; rintro e w1 ⟨rfl, hR1, hX1⟩; clear hF1; go_frame)
      | ((with_reducible change wpList _ _ _ (Oper.mk (some 15) _ _ _ _ _ :: _) _ _); refine kConv8 _ n1 rfl rfl rfl ?_; rw [hm1]; go_frame)
      | ((with_reducible change wpList _ _ _ (Oper.mk (some 17) _ _ _ _ _ :: _) _ _); refine kConvB8 _ n1 hn1 rfl rfl rfl ?_; go_frame)
      | (go_at_call 107; refine (hsb _).mono ?_; rintro e w9 ⟨rfl, rfl⟩; go_frame)
      | ((with_reducible change wpList _ _ _ (Oper.mk (some 21) _ _ _ _ _ :: _) _ _); refine kGtrI _ _ _ _ .i64 (f : Int) 0 true rfl rfl rfl rfl hf ?_; go_frame)
      | (go_at_call 55; (with_reducible change Calls _ _ #[_, Value.int .i64 (f : Int)] _ _); refine (hF2 _ hR1).mono ?_; rintro e w2 ⟨rfl, hR2, hX2⟩; clear hF2; obtain ⟨v2, hRr, hVv, hLv⟩ := id hR2; change Row _ _ _ #[v2, .int .i64 (s2.err : Int)] at hRr; rw [hE] at hRr; go_frame)
      | ((with_reducible change wpList _ _ _ (Oper.mk (some 27) _ _ _ _ _ :: _) _ _); refine kR1 _ g rfl rfl rfl ?_; go_frame)
      | ((with_reducible change wpList _ _ _ (Oper.mk (some 28) _ _ _ _ _ :: _) _ _); refine kLoad1 _ _ _ g 1 _ (.int .i64 (E : Int)) _ rfl rfl rfl hRr Tryz.underlying35 rfl rfl ?_; go_frame)
      | ((with_reducible change wpList _ _ _ (Oper.mk (some 29) _ _ _ _ _ :: _) _ _); refine kEqlI _ _ _ _ .i64 (E : Int) 0 true rfl rfl rfl rfl hq ?_; go_frame)
      | (go_at_call 106; refine (hfo _).mono ?_; rintro e w8 ⟨rfl, rfl⟩; go_frame)
      | ((with_reducible change wpList _ _ _ (Oper.mk (some 34) _ _ _ _ _ :: _) _ _); refine kNeqI _ _ _ _ .u8 (B (cFirst n2)) (n1 : Int) false rfl rfl rfl rfl hne ?_; go_frame)
      | ((with_reducible change wpList _ _ _ (Oper.mk (some 38) _ _ _ _ _ :: _) _ _); refine kGtrI _ _ _ _ .u64 (n2 : Int) (most : Int) true rfl rfl rfl rfl hgt ?_; go_frame)
      | ((with_reducible change wpList _ _ _ (Oper.mk (some 43) _ _ _ _ _ :: _) _ _); refine kR1 _ g rfl rfl rfl ?_; go_frame)
      | ((with_reducible change wpList _ _ _ (Oper.mk none (Op.store _ (Operand.tmp 43) _) _ _ _ _ :: _) _ _); refine kStore1 _ _ _ _ g 1 _ (.int .i64 62) rfl rfl rfl rfl hRr info_errno (show 1 < 2 by decide) rfl ?_; intro w3 hR3 hW3; have hX3 := exc_wrote hW3; go_frame)
      | ((with_reducible change wpList _ _ _ (Oper.mk (some 46) _ _ _ _ _ :: _) _ _); refine kR1 _ g rfl rfl rfl ?_; go_frame)
      | ((with_reducible change wpList _ _ _ (Oper.mk (some 47) _ _ _ _ _ :: _) _ _); refine kLoad1 _ _ _ g 1 _ (.int .i64 62) _ rfl rfl rfl hR3 Tryz.underlying35 rfl rfl ?_; go_frame)
      | ((with_reducible change wpList _ _ _ (Oper.mk (some 48) _ _ _ _ _ :: _) _ _); refine kNeqI _ _ _ _ .i64 62 0 true rfl rfl rfl rfl (by decide) ?_; go_frame)
      | ((with_reducible change wpList _ _ _ (Oper.mk (some 52) _ _ _ _ _ :: _) _ _); refine kR0 _ g rfl rfl rfl ?_; go_frame)
      | ((with_reducible change wpList _ _ _ (Oper.mk none (Op.store _ (Operand.tmp 52) _) _ _ _ _ :: _) _ _); refine kStore1 _ _ _ _ g 0 _ v0 rfl rfl rfl rfl hR3 info_bytesP (show 0 < 2 by decide) hone ?_; intro w4 hR4 hW4; go_frame))
    go_ret
    have hX := ((hX1.trans hX2).trans hX3).trans (exc_wrote hW4)
    exact ⟨rfl, ⟨v0, hR4, hX.vals h hV0, hL0⟩, hX⟩
  · rw [show cnt2 s most c n2 s2 = (n2, s2) by unfold cnt2; rw [hE, if_neg he, if_neg (by simp only [not_or]; exact ⟨hcf, hm⟩)]]
    have hgt : decide ((n2 : Int) > (most : Int)) = false := by simp; omega
    clear hB he he0 hcf hm hc
    go_enter Tryz.func75, Tryz.ntmps75
    go_wp2_with (first
      | ((with_reducible change wpList _ _ _ (Oper.mk (some 11) _ _ _ _ _ :: _) _ _); refine kR0 _ g rfl rfl rfl ?_; go_frame)
      | ((with_reducible change wpList _ _ _ (Oper.mk (some 12) _ _ _ _ _ :: _) _ _); refine kLoad1 _ _ _ g 0 _ v0 _ rfl rfl rfl hR0 Tryz.underlying38 rfl rfl ?_; go_frame)
      | (go_at_call 55; (with_reducible change Calls _ _ #[_, Value.int .i64 1] _ _); refine (hF1).mono ?_; rintro e w1 ⟨rfl, hR1, hX1⟩; clear hF1; go_frame)
      | ((with_reducible change wpList _ _ _ (Oper.mk (some 15) _ _ _ _ _ :: _) _ _); refine kConv8 _ n1 rfl rfl rfl ?_; rw [hm1]; go_frame)
      | ((with_reducible change wpList _ _ _ (Oper.mk (some 17) _ _ _ _ _ :: _) _ _); refine kConvB8 _ n1 hn1 rfl rfl rfl ?_; go_frame)
      | (go_at_call 107; refine (hsb _).mono ?_; rintro e w9 ⟨rfl, rfl⟩; go_frame)
      | ((with_reducible change wpList _ _ _ (Oper.mk (some 21) _ _ _ _ _ :: _) _ _); refine kGtrI _ _ _ _ .i64 (f : Int) 0 true rfl rfl rfl rfl hf ?_; go_frame)
      | (go_at_call 55; (with_reducible change Calls _ _ #[_, Value.int .i64 (f : Int)] _ _); refine (hF2 _ hR1).mono ?_; rintro e w2 ⟨rfl, hR2, hX2⟩; clear hF2; obtain ⟨v2, hRr, hVv, hLv⟩ := id hR2; change Row _ _ _ #[v2, .int .i64 (s2.err : Int)] at hRr; rw [hE] at hRr; go_frame)
      | ((with_reducible change wpList _ _ _ (Oper.mk (some 27) _ _ _ _ _ :: _) _ _); refine kR1 _ g rfl rfl rfl ?_; go_frame)
      | ((with_reducible change wpList _ _ _ (Oper.mk (some 28) _ _ _ _ _ :: _) _ _); refine kLoad1 _ _ _ g 1 _ (.int .i64 (E : Int)) _ rfl rfl rfl hRr Tryz.underlying35 rfl rfl ?_; go_frame)
      | ((with_reducible change wpList _ _ _ (Oper.mk (some 29) _ _ _ _ _ :: _) _ _); refine kEqlI _ _ _ _ .i64 (E : Int) 0 true rfl rfl rfl rfl hq ?_; go_frame)
      | (go_at_call 106; refine (hfo _).mono ?_; rintro e w8 ⟨rfl, rfl⟩; go_frame)
      | ((with_reducible change wpList _ _ _ (Oper.mk (some 34) _ _ _ _ _ :: _) _ _); refine kNeqI _ _ _ _ .u8 (B (cFirst n2)) (n1 : Int) false rfl rfl rfl rfl hne ?_; go_frame)
      | ((with_reducible change wpList _ _ _ (Oper.mk (some 38) _ _ _ _ _ :: _) _ _); refine kGtrI _ _ _ _ .u64 (n2 : Int) (most : Int) false rfl rfl rfl rfl hgt ?_; go_frame)
      | ((with_reducible change wpList _ _ _ (Oper.mk (some 46) _ _ _ _ _ :: _) _ _); refine kR1 _ g rfl rfl rfl ?_; go_frame)
      | ((with_reducible change wpList _ _ _ (Oper.mk (some 47) _ _ _ _ _ :: _) _ _); refine kLoad1 _ _ _ g 1 _ (.int .i64 (E : Int)) _ rfl rfl rfl hRr Tryz.underlying35 rfl rfl ?_; go_frame)
      | ((with_reducible change wpList _ _ _ (Oper.mk (some 48) _ _ _ _ _ :: _) _ _); refine kNeqI _ _ _ _ .i64 (E : Int) 0 false rfl rfl rfl rfl hq2 ?_; go_frame))
    go_ret
    exact ⟨rfl, hR2, hX1.trans hX2⟩
theorem rdCount_any {s : Scn} {g most : Nat} (w : World) (h : Rd Lm 97 w g s) : Calls Tryz.prog 75 #[.pointer (some ⟨g, 0, none⟩), .int .u64 (most : Int)] w (PNumPost Lm 97 g w (countS s most)) := by
  rw [← cnt_same]
  have hlt : (fixedS s 1).1 < 256 := by
    rw [fixedS_take, clampS_1]
    have h1 := numL_lt (takeS s 1).1
    have h2 : 256 ^ (takeS s 1).1.length ≤ 256 ^ 1 := Nat.pow_le_pow_right (by decide) (takeS_len s 1)
    have e : (256 : Nat) ^ 1 = 256 := by decide
    omega
  have hF := rdFixed_any (z := 1) w h
  unfold cnt1
  generalize fixedS s 1 = p at *
  obtain ⟨n1, s1⟩ := p
  dsimp only at hlt ⊢
  have hsb := pcSizeBehind_any (UInt8.ofNat n1)
  rw [VB_of hlt] at hsb
  by_cases hf : fSize (UInt8.ofNat n1) = 0
  · rw [if_pos hf]
    exact rdCount_one (f := fSize (UInt8.ofNat n1)) w h hF hlt rfl hsb hf
  · rw [if_neg hf]
    exact rdCount_two (f := fSize (UInt8.ofNat n1)) w h hF hlt rfl hsb (by omega) (fun w1 h1 => rdFixed_any w1 h1)
end Go.Proofs.YtmfjgehlkbndjaaGreatDoor
