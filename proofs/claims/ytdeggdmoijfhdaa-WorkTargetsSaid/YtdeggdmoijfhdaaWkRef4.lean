/-
  Layer 12: the reference: Work and Next.
-/
import Derived.Test.YtdeggdmoijfhdaaWkRef3
namespace Go.Proofs.Ytdeggdmoijfhdaa
open Go Go.RowKit

theorem qExpand_bad {b : Nat} (hb : b < 4294967296) (h : badN b) (w : World) : Calls Try.prog 15 #[.int .u32 (b : Int)] w (fun e w' => ∃ v, e = .returned (.tuple #[v, .int .i64 121]) ∧ Num w' v 0 0 ∧ Below w.heap.size w w') :=
  (qExpand_any hb w).mono fun _ _ ⟨v, hB, hc⟩ => by
    rcases hc with ⟨-, e, hN⟩ | ⟨hn, -, -⟩
    · exact ⟨v, e, hN, hB⟩
    · exact absurd h hn
theorem qExpand_ok {b t : Nat} (hb : b < 4294967296) (h : ¬ badN b) (ht : rawN b = t) (w : World) : Calls Try.prog 15 #[.int .u32 (b : Int)] w (fun e w' => ∃ v, e = .returned (.tuple #[v, .int .i64 0]) ∧ Num w' v t 34 ∧ Below w.heap.size w w') :=
  (qExpand_any hb w).mono fun _ _ ⟨v, hB, hc⟩ => by
    subst ht
    rcases hc with ⟨hn, -, -⟩ | ⟨-, e, hN⟩
    · exact absurd hn h
    · exact ⟨v, e, hN, hB⟩
/-- 2 to the power of 256, in digits -/
theorem pow_256 {w : World} {v : Value} {m : Nat} (h : Num w v (2 ^ m) (m / 16 + 1)) (hm : m = 256) : Num w v M256 17 := by subst hm; exact h
set_option maxRecDepth 100000 in
set_option maxHeartbeats 16000000 in
theorem qWork_num {b r : Nat} (hb : b < 4294967296) (hr : workN b = r) (w : World) : Calls Try.prog 18 #[.int .u32 (b : Int)] w (NumPost w r 17) := by
  by_cases h : badN b
  · have hr : r = 0 := by rw [← hr]; exact work_bad h
    subst hr
    go_enter Try.func18, Try.ntmps18
    go_wp2_with (first
      | (go_at_call 15; refine (qExpand_bad hb h _).mono ?_; rintro e w1 ⟨v1, rfl, N1, hB1⟩; go_frame)
      | ((with_reducible change wpList _ _ _ (Oper.mk (some 13) _ _ _ _ _ :: _) _ _); refine kYw (yNeqK _ _ _ _ .i64 121 0 true rfl rfl rfl rfl rfl) ?_; go_frame)
      | ((with_reducible change wpList _ _ _ (Oper.mk (some 14) _ _ _ _ _ :: _) _ _); refine kDigN0 rfl rfl ?_; intro w2 v2 N2 hB2; have hB3 := hB1.trans (hB2.mono hB1.size); go_frame))
    go_ret
    exact ⟨_, rfl, N2.more (by decide), hB3⟩
  · obtain ⟨t, Ht⟩ : ∃ v_ : Nat, Hid (rawN b = v_) := ⟨_, Lib.hid rfl⟩
    have hm : ∃ m : Nat, Hid (m = 256) := ⟨_, Lib.hid rfl⟩
    obtain ⟨m, Hm⟩ := hm
    obtain ⟨P, HP⟩ : ∃ P, Hid (M256 = P) := ⟨_, Lib.hid rfl⟩
    have hq : P / (t + 1) = r := by rw [← HP.out, ← Ht.out, ← hr, work_ok h]; rfl
    have f16 : Hid (m ≤ 1000 ∧ (256 : Int) = (m : Int)) := Lib.hid ⟨by rw [Hm.out]; decide, by rw [Hm.out]; rfl⟩
    have hP : ∀ w, Calls Try.prog 42 #[.int .i64 256] w (NumPost w P 17) := fun w => by
      have := dPower_num m f16.out.1 w
      rw [← f16.out.2] at this
      refine this.mono fun _ _ ⟨v, e, hN, hB⟩ => ⟨v, e, by rw [← HP.out]; exact pow_256 hN Hm.out, hB⟩
    clear f16 HP hr
    go_enter Try.func18, Try.ntmps18
    go_wp2_with (first
      | (go_at_call 15; refine (qExpand_ok hb h Ht.out _).mono ?_; rintro e w1 ⟨v1, rfl, N1, hB1⟩; go_frame)
      | ((with_reducible change wpList _ _ _ (Oper.mk (some 13) _ _ _ _ _ :: _) _ _); refine kYw (yNeqK _ _ _ _ .i64 0 0 false rfl rfl rfl rfl rfl) ?_; go_frame)
      | (go_at_call 42; refine (hP _).mono ?_; rintro e w2 ⟨v2, rfl, N2, hB2⟩; have N3 := N1.below hB2; have hB3 := hB1.trans (hB2.mono hB1.size); clear N1 hB1 hB2; go_frame)
      | ((with_reducible change wpList _ _ _ (Oper.mk (some 18) _ _ _ _ _ :: _) _ _); refine kDigN1 _ 1 (by decide) rfl rfl rfl ?_; intro w4 v4 N4 hB4; have N5 := N3.below hB4; have N6 := N2.below hB4; have hB5 := hB3.trans (hB4.mono hB3.size); clear N3 N2 hB3 hB4; go_frame)
      | (go_at_call 43; refine (dAdd_num N5 N4 (by decide) (by decide)).mono ?_; rintro e w7 ⟨v7, rfl, N7, hB7⟩; have N8 := N6.below hB7; have hB8 := hB5.trans (hB7.mono hB5.size); clear N5 N4 N6 hB5 hB7; go_frame)
      | (go_at_call 41; refine (dDiv_num N8 N7 (by decide) (by decide) (Nat.succ_pos _) hq).mono ?_; rintro e w9 ⟨v9, v10, rfl, N9, hB9⟩; have hB10 := hB8.trans (hB9.mono hB8.size); clear N8 N7 hB8 hB9; go_frame))
    go_ret
    exact ⟨_, rfl, N9, hB10⟩
set_option maxRecDepth 100000 in
set_option maxHeartbeats 16000000 in
theorem qNext_num {b f l r : Nat} (hb : b < 4294967296) (hf : f < 4294967296) (hl : l < 4294967296) (hr : nextN b f l = r) (w : World) : Calls Try.prog 21 #[.int .u32 (b : Int), .int .u32 (f : Int), .int .u32 (l : Int)] w (fun e w' => e = .returned (.int .u32 (r : Int)) ∧ Below w.heap.size w w') := by
  by_cases h : badN b
  · have hr : r = 545259519 := by rw [← hr]; exact next_bad f l h
    subst hr
    go_enter Try.func21, Try.ntmps21
    go_wp2_with (first
      | (go_at_call 15; refine (qExpand_bad hb h _).mono ?_; rintro e w1 ⟨v1, rfl, N1, hB1⟩; go_frame)
      | ((with_reducible change wpList _ _ _ (Oper.mk (some 18) _ _ _ _ _ :: _) _ _); refine kYw (yNeqK _ _ _ _ .i64 121 0 true rfl rfl rfl rfl rfl) ?_; go_frame))
    go_ret
    exact ⟨rfl, hB1⟩
  · obtain ⟨t, Ht⟩ : ∃ v_ : Nat, Hid (rawN b = v_) := ⟨_, Lib.hid rfl⟩
    obtain ⟨s, Hs⟩ : ∃ v_ : Nat, Hid (spanN f l = v_) := ⟨_, Lib.hid rfl⟩
    obtain ⟨d, Hd⟩ : ∃ v_ : Int, Hid ((l : Int) - (f : Int) = v_) := ⟨_, Lib.hid rfl⟩
    obtain ⟨Y, HY⟩ : ∃ v_ : Nat, Hid (easyN = v_) := ⟨_, Lib.hid rfl⟩
    obtain ⟨p, Hp⟩ : ∃ v_ : Nat, Hid (t * s / 4200 = v_) := ⟨_, Lib.hid rfl⟩
    have hs : 1050 ≤ s ∧ s ≤ 16800 := by rw [← Hs.out]; exact span_le f l
    have hd := Hd.out
    have htl := (not_bad h).2.2
    have f20 : Hid (IntKind.i64.wrap (l : Int) = (l : Int)) := Lib.hid (wrap_i64N (by omega))
    have f22 : Hid (IntKind.i64.wrap (f : Int) = (f : Int)) := Lib.hid (wrap_i64N (by omega))
    have f23 : Hid ((l : Int) - (f : Int) = d ∧ -9223372036854775808 ≤ d ∧ d < 9223372036854775808) := Lib.hid (by omega)
    have f31 : Hid (IntKind.u64.wrap (s : Int) = (s : Int)) := Lib.hid (wrap_u64N (by omega))
    have hcase : (d < 1050 ∧ s = 1050) ∨ (¬ d < 1050 ∧ d > 16800 ∧ s = 16800) ∨ (¬ d < 1050 ∧ ¬ d > 16800 ∧ d = (s : Int)) := by
      have := Hs.out; unfold spanN at this
      split at this
      · left; omega
      · split at this <;> omega
    obtain ⟨x, Hx⟩ : ∃ x, Hid (x = min p Y) := ⟨_, Lib.hid rfl⟩
    have hxr : compactN x = r := by rw [← hr, Hx.out, ← Hp.out, ← HY.out, ← Hs.out, ← Ht.out]; unfold nextN nextT; rw [if_neg h]
    have hxM : x < M256 := by rw [Hx.out, ← HY.out]; exact Nat.lt_of_le_of_lt (Nat.min_le_right _ _) easy_lt
    have hsl : s < 65536 := by omega
    have HC : ∃ C : Int, Hid (cmpI p Y = C) := ⟨_, Lib.hid rfl⟩
    obtain ⟨C, HC⟩ := HC
    clear hd Hd Hs htl hr hs
    by_cases ho : Y < p
    · have d41 : decide (C > 0) = true := by rw [← HC.out, cmp_pos]; exact decide_eq_true ho
      have hxe : Y = x := by rw [Hx.out, Nat.min_eq_right (Nat.le_of_lt ho)]
      rcases hcase with ⟨h1, h2⟩ | ⟨h1, h2, h3⟩ | ⟨h1, h2, h3⟩
      · have d25 : decide (d < 1050) = true := decide_eq_true h1
        have d27 : decide ((1050 : Int) > 16800) = false := rfl
        have c31 : IntKind.u64.wrap 1050 = (s : Int) := by rw [← f31.out, h2]; rfl
        go_enter Try.func21, Try.ntmps21
        go_wp2_with (first
          | (go_at_call 15; refine (qExpand_ok hb h Ht.out _).mono ?_; rintro e w1 ⟨v1, rfl, N1, hB1⟩; go_frame)
          | ((with_reducible change wpList _ _ _ (Oper.mk (some 18) _ _ _ _ _ :: _) _ _); refine kYw (yNeqK _ _ _ _ .i64 0 0 false rfl rfl rfl rfl rfl) ?_; go_frame)
          | ((with_reducible change wpList _ _ _ (Oper.mk (some 20) _ _ _ _ _ :: _) _ _); refine kYw (yConvK Try.underlying28 Try.underlying2 _ (l : Int) (l : Int) f20.out rfl rfl rfl) ?_; go_frame)
          | ((with_reducible change wpList _ _ _ (Oper.mk (some 22) _ _ _ _ _ :: _) _ _); refine kYw (yConvK Try.underlying28 Try.underlying2 _ (f : Int) (f : Int) f22.out rfl rfl rfl) ?_; go_frame)
          | ((with_reducible change wpList _ _ _ (Oper.mk (some 23) _ _ _ _ _ :: _) _ _); refine kYw (ySubZ _ _ _ _ (l : Int) (f : Int) d f23.out rfl rfl rfl rfl) ?_; go_frame)
          | ((with_reducible change wpList _ _ _ (Oper.mk (some 25) _ _ _ _ _ :: _) _ _); refine kYw (yLssK _ _ _ _ .i64 d 1050 true d25 rfl rfl rfl rfl) ?_; go_frame)
          | ((with_reducible change wpList _ _ _ (Oper.mk (some 27) _ _ _ _ _ :: _) _ _); refine kYw (yGtrK _ _ _ _ .i64 1050 16800 false d27 rfl rfl rfl rfl) ?_; go_frame)
          | ((with_reducible change wpList _ _ _ (Oper.mk (some 31) _ _ _ _ _ :: _) _ _); refine kYw (yConvK Try.underlying2 Try.underlying22 _ 1050 (s : Int) c31 rfl rfl rfl) ?_; go_frame)
          | ((with_reducible change wpList _ _ _ (Oper.mk (some 32) _ _ _ _ _ :: _) _ _); refine kDigN1 _ s hsl rfl rfl rfl ?_; intro w2 v2 N2 hB2; have N3 := N1.below hB2; have hB3 := hB1.trans (hB2.mono hB1.size); clear N1 hB1 hB2; go_frame)
          | (go_at_call 45; refine (dMul_num N3 N2 (by decide) (by decide)).mono ?_; rintro e w4 ⟨v4, rfl, N4, hB4⟩; have hB5 := hB3.trans (hB4.mono hB3.size); clear N3 N2 hB3 hB4; go_frame)
          | ((with_reducible change wpList _ _ _ (Oper.mk (some 34) _ _ _ _ _ :: _) _ _); refine kDigN1 _ 4200 (by decide) rfl rfl rfl ?_; intro w6 v6 N6 hB6; have N7 := N4.below hB6; have hB7 := hB5.trans (hB6.mono hB5.size); clear N4 hB5 hB6; go_frame)
          | (go_at_call 41; refine (dDiv_num N7 N6 (by decide) (by decide) (by decide) Hp.out).mono ?_; rintro e w8 ⟨v8, v9, rfl, N8, hB8⟩; have hB9 := hB7.trans (hB8.mono hB7.size); clear N7 N6 hB7 hB8; go_frame)
          | (go_at_call 38; refine (qEasiest_num HY.out _).mono ?_; rintro e w10 ⟨v10, rfl, N10, hB10⟩; have N11 := N8.below hB10; have hB11 := hB9.trans (hB10.mono hB9.size); clear N8 hB9 hB10; go_frame)
          | (go_at_call 37; refine (dCompare_r N11 N10 (by decide) (by decide) HC.out).mono ?_; rintro e w12 ⟨rfl, rfl⟩; go_frame)
          | ((with_reducible change wpList _ _ _ (Oper.mk (some 41) _ _ _ _ _ :: _) _ _); refine kYw (yGtrK _ _ _ _ .i64 C 0 true d41 rfl rfl rfl rfl) ?_; go_frame)
          | (go_at_call 38; refine (qEasiest_num HY.out _).mono ?_; rintro e w13 ⟨v13, rfl, N13, hB13⟩; have hB14 := hB11.trans (hB13.mono hB11.size); have N14 : Num _ _ x 31 := hxe ▸ N13; clear N11 hB11 hB13 N13; go_frame)
          | (go_at_call 19; refine (qCompact_num _ (N14) (by decide) hxM hxr).mono ?_; rintro e w15 ⟨rfl, hB15⟩; have hB16 := hB14.trans (hB15.mono hB14.size); go_frame))
        go_ret
        exact ⟨rfl, hB16⟩
      · have d25 : decide (d < 1050) = false := decide_eq_false h1
        have d27 : decide (d > 16800) = true := decide_eq_true h2
        have c31 : IntKind.u64.wrap 16800 = (s : Int) := by rw [← f31.out, h3]; rfl
        go_enter Try.func21, Try.ntmps21
        go_wp2_with (first
          | (go_at_call 15; refine (qExpand_ok hb h Ht.out _).mono ?_; rintro e w1 ⟨v1, rfl, N1, hB1⟩; go_frame)
          | ((with_reducible change wpList _ _ _ (Oper.mk (some 18) _ _ _ _ _ :: _) _ _); refine kYw (yNeqK _ _ _ _ .i64 0 0 false rfl rfl rfl rfl rfl) ?_; go_frame)
          | ((with_reducible change wpList _ _ _ (Oper.mk (some 20) _ _ _ _ _ :: _) _ _); refine kYw (yConvK Try.underlying28 Try.underlying2 _ (l : Int) (l : Int) f20.out rfl rfl rfl) ?_; go_frame)
          | ((with_reducible change wpList _ _ _ (Oper.mk (some 22) _ _ _ _ _ :: _) _ _); refine kYw (yConvK Try.underlying28 Try.underlying2 _ (f : Int) (f : Int) f22.out rfl rfl rfl) ?_; go_frame)
          | ((with_reducible change wpList _ _ _ (Oper.mk (some 23) _ _ _ _ _ :: _) _ _); refine kYw (ySubZ _ _ _ _ (l : Int) (f : Int) d f23.out rfl rfl rfl rfl) ?_; go_frame)
          | ((with_reducible change wpList _ _ _ (Oper.mk (some 25) _ _ _ _ _ :: _) _ _); refine kYw (yLssK _ _ _ _ .i64 d 1050 false d25 rfl rfl rfl rfl) ?_; go_frame)
          | ((with_reducible change wpList _ _ _ (Oper.mk (some 27) _ _ _ _ _ :: _) _ _); refine kYw (yGtrK _ _ _ _ .i64 d 16800 true d27 rfl rfl rfl rfl) ?_; go_frame)
          | ((with_reducible change wpList _ _ _ (Oper.mk (some 31) _ _ _ _ _ :: _) _ _); refine kYw (yConvK Try.underlying2 Try.underlying22 _ 16800 (s : Int) c31 rfl rfl rfl) ?_; go_frame)
          | ((with_reducible change wpList _ _ _ (Oper.mk (some 32) _ _ _ _ _ :: _) _ _); refine kDigN1 _ s hsl rfl rfl rfl ?_; intro w2 v2 N2 hB2; have N3 := N1.below hB2; have hB3 := hB1.trans (hB2.mono hB1.size); clear N1 hB1 hB2; go_frame)
          | (go_at_call 45; refine (dMul_num N3 N2 (by decide) (by decide)).mono ?_; rintro e w4 ⟨v4, rfl, N4, hB4⟩; have hB5 := hB3.trans (hB4.mono hB3.size); clear N3 N2 hB3 hB4; go_frame)
          | ((with_reducible change wpList _ _ _ (Oper.mk (some 34) _ _ _ _ _ :: _) _ _); refine kDigN1 _ 4200 (by decide) rfl rfl rfl ?_; intro w6 v6 N6 hB6; have N7 := N4.below hB6; have hB7 := hB5.trans (hB6.mono hB5.size); clear N4 hB5 hB6; go_frame)
          | (go_at_call 41; refine (dDiv_num N7 N6 (by decide) (by decide) (by decide) Hp.out).mono ?_; rintro e w8 ⟨v8, v9, rfl, N8, hB8⟩; have hB9 := hB7.trans (hB8.mono hB7.size); clear N7 N6 hB7 hB8; go_frame)
          | (go_at_call 38; refine (qEasiest_num HY.out _).mono ?_; rintro e w10 ⟨v10, rfl, N10, hB10⟩; have N11 := N8.below hB10; have hB11 := hB9.trans (hB10.mono hB9.size); clear N8 hB9 hB10; go_frame)
          | (go_at_call 37; refine (dCompare_r N11 N10 (by decide) (by decide) HC.out).mono ?_; rintro e w12 ⟨rfl, rfl⟩; go_frame)
          | ((with_reducible change wpList _ _ _ (Oper.mk (some 41) _ _ _ _ _ :: _) _ _); refine kYw (yGtrK _ _ _ _ .i64 C 0 true d41 rfl rfl rfl rfl) ?_; go_frame)
          | (go_at_call 38; refine (qEasiest_num HY.out _).mono ?_; rintro e w13 ⟨v13, rfl, N13, hB13⟩; have hB14 := hB11.trans (hB13.mono hB11.size); have N14 : Num _ _ x 31 := hxe ▸ N13; clear N11 hB11 hB13 N13; go_frame)
          | (go_at_call 19; refine (qCompact_num _ (N14) (by decide) hxM hxr).mono ?_; rintro e w15 ⟨rfl, hB15⟩; have hB16 := hB14.trans (hB15.mono hB14.size); go_frame))
        go_ret
        exact ⟨rfl, hB16⟩
      · have d25 : decide (d < 1050) = false := decide_eq_false h1
        have d27 : decide (d > 16800) = false := decide_eq_false h2
        have c31 : IntKind.u64.wrap d = (s : Int) := by rw [h3]; exact f31.out
        go_enter Try.func21, Try.ntmps21
        go_wp2_with (first
          | (go_at_call 15; refine (qExpand_ok hb h Ht.out _).mono ?_; rintro e w1 ⟨v1, rfl, N1, hB1⟩; go_frame)
          | ((with_reducible change wpList _ _ _ (Oper.mk (some 18) _ _ _ _ _ :: _) _ _); refine kYw (yNeqK _ _ _ _ .i64 0 0 false rfl rfl rfl rfl rfl) ?_; go_frame)
          | ((with_reducible change wpList _ _ _ (Oper.mk (some 20) _ _ _ _ _ :: _) _ _); refine kYw (yConvK Try.underlying28 Try.underlying2 _ (l : Int) (l : Int) f20.out rfl rfl rfl) ?_; go_frame)
          | ((with_reducible change wpList _ _ _ (Oper.mk (some 22) _ _ _ _ _ :: _) _ _); refine kYw (yConvK Try.underlying28 Try.underlying2 _ (f : Int) (f : Int) f22.out rfl rfl rfl) ?_; go_frame)
          | ((with_reducible change wpList _ _ _ (Oper.mk (some 23) _ _ _ _ _ :: _) _ _); refine kYw (ySubZ _ _ _ _ (l : Int) (f : Int) d f23.out rfl rfl rfl rfl) ?_; go_frame)
          | ((with_reducible change wpList _ _ _ (Oper.mk (some 25) _ _ _ _ _ :: _) _ _); refine kYw (yLssK _ _ _ _ .i64 d 1050 false d25 rfl rfl rfl rfl) ?_; go_frame)
          | ((with_reducible change wpList _ _ _ (Oper.mk (some 27) _ _ _ _ _ :: _) _ _); refine kYw (yGtrK _ _ _ _ .i64 d 16800 false d27 rfl rfl rfl rfl) ?_; go_frame)
          | ((with_reducible change wpList _ _ _ (Oper.mk (some 31) _ _ _ _ _ :: _) _ _); refine kYw (yConvK Try.underlying2 Try.underlying22 _ d (s : Int) c31 rfl rfl rfl) ?_; go_frame)
          | ((with_reducible change wpList _ _ _ (Oper.mk (some 32) _ _ _ _ _ :: _) _ _); refine kDigN1 _ s hsl rfl rfl rfl ?_; intro w2 v2 N2 hB2; have N3 := N1.below hB2; have hB3 := hB1.trans (hB2.mono hB1.size); clear N1 hB1 hB2; go_frame)
          | (go_at_call 45; refine (dMul_num N3 N2 (by decide) (by decide)).mono ?_; rintro e w4 ⟨v4, rfl, N4, hB4⟩; have hB5 := hB3.trans (hB4.mono hB3.size); clear N3 N2 hB3 hB4; go_frame)
          | ((with_reducible change wpList _ _ _ (Oper.mk (some 34) _ _ _ _ _ :: _) _ _); refine kDigN1 _ 4200 (by decide) rfl rfl rfl ?_; intro w6 v6 N6 hB6; have N7 := N4.below hB6; have hB7 := hB5.trans (hB6.mono hB5.size); clear N4 hB5 hB6; go_frame)
          | (go_at_call 41; refine (dDiv_num N7 N6 (by decide) (by decide) (by decide) Hp.out).mono ?_; rintro e w8 ⟨v8, v9, rfl, N8, hB8⟩; have hB9 := hB7.trans (hB8.mono hB7.size); clear N7 N6 hB7 hB8; go_frame)
          | (go_at_call 38; refine (qEasiest_num HY.out _).mono ?_; rintro e w10 ⟨v10, rfl, N10, hB10⟩; have N11 := N8.below hB10; have hB11 := hB9.trans (hB10.mono hB9.size); clear N8 hB9 hB10; go_frame)
          | (go_at_call 37; refine (dCompare_r N11 N10 (by decide) (by decide) HC.out).mono ?_; rintro e w12 ⟨rfl, rfl⟩; go_frame)
          | ((with_reducible change wpList _ _ _ (Oper.mk (some 41) _ _ _ _ _ :: _) _ _); refine kYw (yGtrK _ _ _ _ .i64 C 0 true d41 rfl rfl rfl rfl) ?_; go_frame)
          | (go_at_call 38; refine (qEasiest_num HY.out _).mono ?_; rintro e w13 ⟨v13, rfl, N13, hB13⟩; have hB14 := hB11.trans (hB13.mono hB11.size); have N14 : Num _ _ x 31 := hxe ▸ N13; clear N11 hB11 hB13 N13; go_frame)
          | (go_at_call 19; refine (qCompact_num _ (N14) (by decide) hxM hxr).mono ?_; rintro e w15 ⟨rfl, hB15⟩; have hB16 := hB14.trans (hB15.mono hB14.size); go_frame))
        go_ret
        exact ⟨rfl, hB16⟩
    · have d41 : decide (C > 0) = false := by rw [← HC.out, cmp_pos]; exact decide_eq_false ho
      have hxe : p = x := by rw [Hx.out, Nat.min_eq_left (Nat.le_of_not_lt ho)]
      rcases hcase with ⟨h1, h2⟩ | ⟨h1, h2, h3⟩ | ⟨h1, h2, h3⟩
      · have d25 : decide (d < 1050) = true := decide_eq_true h1
        have d27 : decide ((1050 : Int) > 16800) = false := rfl
        have c31 : IntKind.u64.wrap 1050 = (s : Int) := by rw [← f31.out, h2]; rfl
        go_enter Try.func21, Try.ntmps21
        go_wp2_with (first
          | (go_at_call 15; refine (qExpand_ok hb h Ht.out _).mono ?_; rintro e w1 ⟨v1, rfl, N1, hB1⟩; go_frame)
          | ((with_reducible change wpList _ _ _ (Oper.mk (some 18) _ _ _ _ _ :: _) _ _); refine kYw (yNeqK _ _ _ _ .i64 0 0 false rfl rfl rfl rfl rfl) ?_; go_frame)
          | ((with_reducible change wpList _ _ _ (Oper.mk (some 20) _ _ _ _ _ :: _) _ _); refine kYw (yConvK Try.underlying28 Try.underlying2 _ (l : Int) (l : Int) f20.out rfl rfl rfl) ?_; go_frame)
          | ((with_reducible change wpList _ _ _ (Oper.mk (some 22) _ _ _ _ _ :: _) _ _); refine kYw (yConvK Try.underlying28 Try.underlying2 _ (f : Int) (f : Int) f22.out rfl rfl rfl) ?_; go_frame)
          | ((with_reducible change wpList _ _ _ (Oper.mk (some 23) _ _ _ _ _ :: _) _ _); refine kYw (ySubZ _ _ _ _ (l : Int) (f : Int) d f23.out rfl rfl rfl rfl) ?_; go_frame)
          | ((with_reducible change wpList _ _ _ (Oper.mk (some 25) _ _ _ _ _ :: _) _ _); refine kYw (yLssK _ _ _ _ .i64 d 1050 true d25 rfl rfl rfl rfl) ?_; go_frame)
          | ((with_reducible change wpList _ _ _ (Oper.mk (some 27) _ _ _ _ _ :: _) _ _); refine kYw (yGtrK _ _ _ _ .i64 1050 16800 false d27 rfl rfl rfl rfl) ?_; go_frame)
          | ((with_reducible change wpList _ _ _ (Oper.mk (some 31) _ _ _ _ _ :: _) _ _); refine kYw (yConvK Try.underlying2 Try.underlying22 _ 1050 (s : Int) c31 rfl rfl rfl) ?_; go_frame)
          | ((with_reducible change wpList _ _ _ (Oper.mk (some 32) _ _ _ _ _ :: _) _ _); refine kDigN1 _ s hsl rfl rfl rfl ?_; intro w2 v2 N2 hB2; have N3 := N1.below hB2; have hB3 := hB1.trans (hB2.mono hB1.size); clear N1 hB1 hB2; go_frame)
          | (go_at_call 45; refine (dMul_num N3 N2 (by decide) (by decide)).mono ?_; rintro e w4 ⟨v4, rfl, N4, hB4⟩; have hB5 := hB3.trans (hB4.mono hB3.size); clear N3 N2 hB3 hB4; go_frame)
          | ((with_reducible change wpList _ _ _ (Oper.mk (some 34) _ _ _ _ _ :: _) _ _); refine kDigN1 _ 4200 (by decide) rfl rfl rfl ?_; intro w6 v6 N6 hB6; have N7 := N4.below hB6; have hB7 := hB5.trans (hB6.mono hB5.size); clear N4 hB5 hB6; go_frame)
          | (go_at_call 41; refine (dDiv_num N7 N6 (by decide) (by decide) (by decide) Hp.out).mono ?_; rintro e w8 ⟨v8, v9, rfl, N8, hB8⟩; have hB9 := hB7.trans (hB8.mono hB7.size); clear N7 N6 hB7 hB8; go_frame)
          | (go_at_call 38; refine (qEasiest_num HY.out _).mono ?_; rintro e w10 ⟨v10, rfl, N10, hB10⟩; have N11 := N8.below hB10; have hB11 := hB9.trans (hB10.mono hB9.size); clear N8 hB9 hB10; go_frame)
          | (go_at_call 37; refine (dCompare_r N11 N10 (by decide) (by decide) HC.out).mono ?_; rintro e w12 ⟨rfl, rfl⟩; go_frame)
          | ((with_reducible change wpList _ _ _ (Oper.mk (some 41) _ _ _ _ _ :: _) _ _); refine kYw (yGtrK _ _ _ _ .i64 C 0 false d41 rfl rfl rfl rfl) ?_; go_frame)
          | (go_at_call 19; refine (qCompact_num _ ((hxe ▸ N11 : Num _ _ x _)) (by decide) hxM hxr).mono ?_; rintro e w15 ⟨rfl, hB15⟩; have hB16 := hB11.trans (hB15.mono hB11.size); go_frame))
        go_ret
        exact ⟨rfl, hB16⟩
      · have d25 : decide (d < 1050) = false := decide_eq_false h1
        have d27 : decide (d > 16800) = true := decide_eq_true h2
        have c31 : IntKind.u64.wrap 16800 = (s : Int) := by rw [← f31.out, h3]; rfl
        go_enter Try.func21, Try.ntmps21
        go_wp2_with (first
          | (go_at_call 15; refine (qExpand_ok hb h Ht.out _).mono ?_; rintro e w1 ⟨v1, rfl, N1, hB1⟩; go_frame)
          | ((with_reducible change wpList _ _ _ (Oper.mk (some 18) _ _ _ _ _ :: _) _ _); refine kYw (yNeqK _ _ _ _ .i64 0 0 false rfl rfl rfl rfl rfl) ?_; go_frame)
          | ((with_reducible change wpList _ _ _ (Oper.mk (some 20) _ _ _ _ _ :: _) _ _); refine kYw (yConvK Try.underlying28 Try.underlying2 _ (l : Int) (l : Int) f20.out rfl rfl rfl) ?_; go_frame)
          | ((with_reducible change wpList _ _ _ (Oper.mk (some 22) _ _ _ _ _ :: _) _ _); refine kYw (yConvK Try.underlying28 Try.underlying2 _ (f : Int) (f : Int) f22.out rfl rfl rfl) ?_; go_frame)
          | ((with_reducible change wpList _ _ _ (Oper.mk (some 23) _ _ _ _ _ :: _) _ _); refine kYw (ySubZ _ _ _ _ (l : Int) (f : Int) d f23.out rfl rfl rfl rfl) ?_; go_frame)
          | ((with_reducible change wpList _ _ _ (Oper.mk (some 25) _ _ _ _ _ :: _) _ _); refine kYw (yLssK _ _ _ _ .i64 d 1050 false d25 rfl rfl rfl rfl) ?_; go_frame)
          | ((with_reducible change wpList _ _ _ (Oper.mk (some 27) _ _ _ _ _ :: _) _ _); refine kYw (yGtrK _ _ _ _ .i64 d 16800 true d27 rfl rfl rfl rfl) ?_; go_frame)
          | ((with_reducible change wpList _ _ _ (Oper.mk (some 31) _ _ _ _ _ :: _) _ _); refine kYw (yConvK Try.underlying2 Try.underlying22 _ 16800 (s : Int) c31 rfl rfl rfl) ?_; go_frame)
          | ((with_reducible change wpList _ _ _ (Oper.mk (some 32) _ _ _ _ _ :: _) _ _); refine kDigN1 _ s hsl rfl rfl rfl ?_; intro w2 v2 N2 hB2; have N3 := N1.below hB2; have hB3 := hB1.trans (hB2.mono hB1.size); clear N1 hB1 hB2; go_frame)
          | (go_at_call 45; refine (dMul_num N3 N2 (by decide) (by decide)).mono ?_; rintro e w4 ⟨v4, rfl, N4, hB4⟩; have hB5 := hB3.trans (hB4.mono hB3.size); clear N3 N2 hB3 hB4; go_frame)
          | ((with_reducible change wpList _ _ _ (Oper.mk (some 34) _ _ _ _ _ :: _) _ _); refine kDigN1 _ 4200 (by decide) rfl rfl rfl ?_; intro w6 v6 N6 hB6; have N7 := N4.below hB6; have hB7 := hB5.trans (hB6.mono hB5.size); clear N4 hB5 hB6; go_frame)
          | (go_at_call 41; refine (dDiv_num N7 N6 (by decide) (by decide) (by decide) Hp.out).mono ?_; rintro e w8 ⟨v8, v9, rfl, N8, hB8⟩; have hB9 := hB7.trans (hB8.mono hB7.size); clear N7 N6 hB7 hB8; go_frame)
          | (go_at_call 38; refine (qEasiest_num HY.out _).mono ?_; rintro e w10 ⟨v10, rfl, N10, hB10⟩; have N11 := N8.below hB10; have hB11 := hB9.trans (hB10.mono hB9.size); clear N8 hB9 hB10; go_frame)
          | (go_at_call 37; refine (dCompare_r N11 N10 (by decide) (by decide) HC.out).mono ?_; rintro e w12 ⟨rfl, rfl⟩; go_frame)
          | ((with_reducible change wpList _ _ _ (Oper.mk (some 41) _ _ _ _ _ :: _) _ _); refine kYw (yGtrK _ _ _ _ .i64 C 0 false d41 rfl rfl rfl rfl) ?_; go_frame)
          | (go_at_call 19; refine (qCompact_num _ ((hxe ▸ N11 : Num _ _ x _)) (by decide) hxM hxr).mono ?_; rintro e w15 ⟨rfl, hB15⟩; have hB16 := hB11.trans (hB15.mono hB11.size); go_frame))
        go_ret
        exact ⟨rfl, hB16⟩
      · have d25 : decide (d < 1050) = false := decide_eq_false h1
        have d27 : decide (d > 16800) = false := decide_eq_false h2
        have c31 : IntKind.u64.wrap d = (s : Int) := by rw [h3]; exact f31.out
        go_enter Try.func21, Try.ntmps21
        go_wp2_with (first
          | (go_at_call 15; refine (qExpand_ok hb h Ht.out _).mono ?_; rintro e w1 ⟨v1, rfl, N1, hB1⟩; go_frame)
          | ((with_reducible change wpList _ _ _ (Oper.mk (some 18) _ _ _ _ _ :: _) _ _); refine kYw (yNeqK _ _ _ _ .i64 0 0 false rfl rfl rfl rfl rfl) ?_; go_frame)
          | ((with_reducible change wpList _ _ _ (Oper.mk (some 20) _ _ _ _ _ :: _) _ _); refine kYw (yConvK Try.underlying28 Try.underlying2 _ (l : Int) (l : Int) f20.out rfl rfl rfl) ?_; go_frame)
          | ((with_reducible change wpList _ _ _ (Oper.mk (some 22) _ _ _ _ _ :: _) _ _); refine kYw (yConvK Try.underlying28 Try.underlying2 _ (f : Int) (f : Int) f22.out rfl rfl rfl) ?_; go_frame)
          | ((with_reducible change wpList _ _ _ (Oper.mk (some 23) _ _ _ _ _ :: _) _ _); refine kYw (ySubZ _ _ _ _ (l : Int) (f : Int) d f23.out rfl rfl rfl rfl) ?_; go_frame)
          | ((with_reducible change wpList _ _ _ (Oper.mk (some 25) _ _ _ _ _ :: _) _ _); refine kYw (yLssK _ _ _ _ .i64 d 1050 false d25 rfl rfl rfl rfl) ?_; go_frame)
          | ((with_reducible change wpList _ _ _ (Oper.mk (some 27) _ _ _ _ _ :: _) _ _); refine kYw (yGtrK _ _ _ _ .i64 d 16800 false d27 rfl rfl rfl rfl) ?_; go_frame)
          | ((with_reducible change wpList _ _ _ (Oper.mk (some 31) _ _ _ _ _ :: _) _ _); refine kYw (yConvK Try.underlying2 Try.underlying22 _ d (s : Int) c31 rfl rfl rfl) ?_; go_frame)
          | ((with_reducible change wpList _ _ _ (Oper.mk (some 32) _ _ _ _ _ :: _) _ _); refine kDigN1 _ s hsl rfl rfl rfl ?_; intro w2 v2 N2 hB2; have N3 := N1.below hB2; have hB3 := hB1.trans (hB2.mono hB1.size); clear N1 hB1 hB2; go_frame)
          | (go_at_call 45; refine (dMul_num N3 N2 (by decide) (by decide)).mono ?_; rintro e w4 ⟨v4, rfl, N4, hB4⟩; have hB5 := hB3.trans (hB4.mono hB3.size); clear N3 N2 hB3 hB4; go_frame)
          | ((with_reducible change wpList _ _ _ (Oper.mk (some 34) _ _ _ _ _ :: _) _ _); refine kDigN1 _ 4200 (by decide) rfl rfl rfl ?_; intro w6 v6 N6 hB6; have N7 := N4.below hB6; have hB7 := hB5.trans (hB6.mono hB5.size); clear N4 hB5 hB6; go_frame)
          | (go_at_call 41; refine (dDiv_num N7 N6 (by decide) (by decide) (by decide) Hp.out).mono ?_; rintro e w8 ⟨v8, v9, rfl, N8, hB8⟩; have hB9 := hB7.trans (hB8.mono hB7.size); clear N7 N6 hB7 hB8; go_frame)
          | (go_at_call 38; refine (qEasiest_num HY.out _).mono ?_; rintro e w10 ⟨v10, rfl, N10, hB10⟩; have N11 := N8.below hB10; have hB11 := hB9.trans (hB10.mono hB9.size); clear N8 hB9 hB10; go_frame)
          | (go_at_call 37; refine (dCompare_r N11 N10 (by decide) (by decide) HC.out).mono ?_; rintro e w12 ⟨rfl, rfl⟩; go_frame)
          | ((with_reducible change wpList _ _ _ (Oper.mk (some 41) _ _ _ _ _ :: _) _ _); refine kYw (yGtrK _ _ _ _ .i64 C 0 false d41 rfl rfl rfl rfl) ?_; go_frame)
          | (go_at_call 19; refine (qCompact_num _ ((hxe ▸ N11 : Num _ _ x _)) (by decide) hxM hxr).mono ?_; rintro e w15 ⟨rfl, hB15⟩; have hB16 := hB11.trans (hB15.mono hB11.size); go_frame))
        go_ret
        exact ⟨rfl, hB16⟩
end Go.Proofs.Ytdeggdmoijfhdaa
