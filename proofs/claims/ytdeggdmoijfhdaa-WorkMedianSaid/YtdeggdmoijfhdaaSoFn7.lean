/-
  Layer 12: the sort: pdqsort itself: what it leaves is sorted, and what was there.
-/
import Derived.Test.YtdeggdmoijfhdaaSoFn1
import Derived.Test.YtdeggdmoijfhdaaSoFn2
import Derived.Test.YtdeggdmoijfhdaaSoFn3
import Derived.Test.YtdeggdmoijfhdaaSoFn4
import Derived.Test.YtdeggdmoijfhdaaSoFn5
import Derived.Test.YtdeggdmoijfhdaaSoFn6
import Derived.Deep.DeepCutAuto
namespace Go.Proofs.Ytdeggdmoijfhdaa
open Go Go.RowKit

set_option maxRecDepth 100000 in
set_option maxHeartbeats 16000000 in
theorem sPdq_any {g n cap : Nat} (hn : n ≤ 50) : ∀ (N : Nat) {a b lim : Nat} {d : Array Nat} (w : World), b - a < N → Dat w g n cap d → a ≤ b → b ≤ n → lim ≤ 64 → Low a b d → Calls Try.prog 56 #[.slice (some ⟨g, 0, none⟩) n cap, .int .i64 (a : Int), .int .i64 (b : Int), .int .i64 (lim : Int)] w (SoPost w g n cap fun d' => PermI a b d d' ∧ Srt a b d') := by
  intro N
  induction N with
  | zero => intro a b lim d w h; exact absurd h (Nat.not_lt_zero _)
  | succ N ih =>
    intro a b lim d w hN hD hab hb hlim hLow
    have hE := exc_refl g w
    have hs := hD.size
    go_enter Try.func56, Try.ntmps56
    go_wp2
    go_loopw [1, 2, 3, 8, 9] (fun s1 s2 s3 s8 s9 wr => ∃ (x y v : Nat) (wb wp : Bool) (dk : Array Nat), s1 = .int .i64 (x : Int) ∧ s2 = .int .i64 (y : Int) ∧ s3 = .int .i64 (v : Int) ∧ s8 = .bool wb ∧ s9 = .bool wp ∧ a ≤ x ∧ x ≤ y ∧ y ≤ b ∧ v ≤ 64 ∧ Dat wr g n cap dk ∧ Exc g w wr ∧ PermI a b d dk ∧ Out a b x y dk ∧ Low x y dk) (fun s1 s2 _ _ _ _ => (intOf s2 - intOf s1).toNat)
    case atStart => exact ⟨a, b, lim, true, true, d, rfl, rfl, rfl, rfl, rfl, Nat.le_refl _, hab, Nat.le_refl _, hlim, hD, hE, PermI.refl _ _ _, Out.start _ _ _, hLow⟩
    case round =>
      obtain ⟨x, y, v, wb, wp, dk, rfl, rfl, rfl, rfl, rfl, hx, hxy, hy, hv, hDk, hEk, hP, hO, hLo⟩ := hrel
      clear hD hE hLow
      have hsk := hP.size
      obtain ⟨l, Hl⟩ : ∃ l, Hid (y - x = l) := ⟨_, Lib.hid rfl⟩
      have hl := Hl.out
      have fin : ∀ d', PermI x y dk d' → Srt x y d' → PermI a b d d' ∧ Srt a b d' := fun d' h1 h2 => ⟨hP.trans (h1.mono hx hy (by omega)), (hO.perm hx hy h1 (by omega)).done h2⟩
      replace fin := Lib.hid fin
      by_cases h12 : l ≤ 12
      · have d23 : decide ((l : Int) ≤ 12) = true := by simp; omega
        go_wp2_with (first
          | ((with_reducible change wpList _ _ _ (Oper.mk (some 21) _ _ _ _ _ :: _) _ _); refine kYw (ySubZ _ _ _ _ (y : Int) (x : Int) (l : Int) (by have := Hl.out; omega) rfl rfl rfl rfl) ?_; go_frame)
          | ((with_reducible change wpList _ _ _ (Oper.mk (some 23) _ _ _ _ _ :: _) _ _); refine kYw (yLeqK _ _ _ _ .i64 (l : Int) 12 true d23 rfl rfl rfl rfl) ?_; go_frame)
          | (go_at_call 59; refine (sInsert_any _ hDk hxy (by omega) hn).mono ?_; rintro e q1 ⟨rfl, d1, hr1, hDq1, hEq⟩; have hEq1 := hEk.trans hEq; clear hEq; go_frame))
        (try simp only [Exit.inBlock, Exit.then])
        refine ret0W rfl rfl ?_
        exact ⟨rfl, d1, fin.out d1 hr1.1 hr1.2, hDq1, hEq1⟩
      have d23 : decide ((l : Int) ≤ 12) = false := by simp; omega
      by_cases hv0 : v = 0
      · have d29 : decide ((v : Int) = 0) = true := by simp; omega
        go_wp2_with (first
          | ((with_reducible change wpList _ _ _ (Oper.mk (some 21) _ _ _ _ _ :: _) _ _); refine kYw (ySubZ _ _ _ _ (y : Int) (x : Int) (l : Int) (by have := Hl.out; omega) rfl rfl rfl rfl) ?_; go_frame)
          | ((with_reducible change wpList _ _ _ (Oper.mk (some 23) _ _ _ _ _ :: _) _ _); refine kYw (yLeqK _ _ _ _ .i64 (l : Int) 12 false d23 rfl rfl rfl rfl) ?_; go_frame)
          | ((with_reducible change wpList _ _ _ (Oper.mk (some 29) _ _ _ _ _ :: _) _ _); refine kYw (yEqlK _ _ _ _ .i64 (v : Int) 0 true d29 rfl rfl rfl rfl) ?_; go_frame)
          | (go_at_call 60; refine (sHeap_any _ hDk (by omega) (by omega) hn).mono ?_; rintro e q1 ⟨rfl, d1, hr1, hDq1, hEq⟩; have hEq1 := hEk.trans hEq; clear hEq; go_frame))
        (try simp only [Exit.inBlock, Exit.then])
        refine ret0W rfl rfl ?_
        exact ⟨rfl, d1, fin.out d1 hr1.1 hr1.2, hDq1, hEq1⟩
      have d29 : decide ((v : Int) = 0) = false := by simp; omega
      go_upto_if 35 with (first
        | ((with_reducible change wpList _ _ _ (Oper.mk (some 21) _ _ _ _ _ :: _) _ _); refine kYw (ySubZ _ _ _ _ (y : Int) (x : Int) (l : Int) (by have := Hl.out; omega) rfl rfl rfl rfl) ?_; go_frame)
        | ((with_reducible change wpList _ _ _ (Oper.mk (some 23) _ _ _ _ _ :: _) _ _); refine kYw (yLeqK _ _ _ _ .i64 (l : Int) 12 false d23 rfl rfl rfl rfl) ?_; go_frame)
        | ((with_reducible change wpList _ _ _ (Oper.mk (some 29) _ _ _ _ _ :: _) _ _); refine kYw (yEqlK _ _ _ _ .i64 (v : Int) 0 false d29 rfl rfl rfl rfl) ?_; go_frame))
      go_cut [3] (fun s3 wq => ∃ (v2 : Nat) (d1 : Array Nat), s3 = .int .i64 (v2 : Int) ∧ v2 ≤ 64 ∧ Dat wq g n cap d1 ∧ Exc g w wq ∧ PermI x y dk d1)
      case first =>
        cases wb with
        | true =>
          (try go_wp2_with fail)
          go_meet
          case rel => exact ⟨v, dk, rfl, hv, hDk, hEk, PermI.refl _ _ _⟩
        | false =>
          go_wp2_with (first
            | (go_at_call 61; refine (sBreak_any _ hDk (by omega) (by omega) hn).mono ?_; rintro e q1 ⟨rfl, d1, hr1, hDq1, hEq⟩; have hEq1 := hEk.trans hEq; clear hEq; go_frame)
            | ((with_reducible change wpList _ _ _ (Oper.mk (some 41) _ _ _ _ _ :: _) _ _); refine kYw (ySubZ _ _ _ _ (v : Int) 1 ((v - 1 : Nat) : Int) (by have := Hl.out; omega) rfl rfl rfl rfl) ?_; go_frame))
          go_meet
          case rel => exact ⟨v - 1, d1, rfl, by omega, hDq1, hEq1, hr1⟩
      case rest =>
        obtain ⟨v2, d1, rfl, hv2, hD1, hE1, hP1⟩ := hcut
        clear hDk hEk
        go_upto_if 50 with (first
          | (go_at_call 62; refine (sChoose_any _ hD1 (by omega) (by omega) hn).mono ?_; rintro e q2 ⟨z, t, rfl, hz, ht, hBel⟩; have hD2 := hD1.below hBel; have hE2 := hE1.trans (exc_below g hBel); clear hBel hD1 hE1; go_frame)
          | ((with_reducible change wpList _ _ _ (Oper.mk (some 50) _ _ _ _ _ :: _) _ _); refine kYw (yEqlK _ _ _ _ .i64 (t : Int) 2 (decide ((t : Int) = 2)) rfl rfl rfl rfl rfl) ?_; go_frame))
        go_cut [11, 12] (fun s11 s12 wq => ∃ (z2 t2 : Nat) (d2 : Array Nat), s11 = .int .i64 (z2 : Int) ∧ s12 = .int .i64 (t2 : Int) ∧ (x ≤ z2 ∧ z2 < y) ∧ Dat wq g n cap d2 ∧ Exc g w wq ∧ PermI x y dk d2)
        case first =>
          by_cases ht2 : t = 2
          · subst ht2
            go_wp2_with (first
              | (go_at_call 63; refine (sReverse_any _ hD2 (by omega) (by omega) hn).mono ?_; rintro e q3 ⟨rfl, d3, hr3, hDq3, hEq⟩; have hEq3 := hE2.trans hEq; clear hEq; go_frame)
              | ((with_reducible change wpList _ _ _ (Oper.mk (some 56) _ _ _ _ _ :: _) _ _); refine kYw (ySubZ _ _ _ _ (y : Int) 1 ((y - 1 : Nat) : Int) (by have := Hl.out; omega) rfl rfl rfl rfl) ?_; go_frame)
              | ((with_reducible change wpList _ _ _ (Oper.mk (some 59) _ _ _ _ _ :: _) _ _); refine kYw (ySubZ _ _ _ _ (z : Int) (x : Int) ((z - x : Nat) : Int) (by have := Hl.out; omega) rfl rfl rfl rfl) ?_; go_frame)
              | ((with_reducible change wpList _ _ _ (Oper.mk (some 60) _ _ _ _ _ :: _) _ _); refine kYw (ySubZ _ _ _ _ ((y - 1 : Nat) : Int) ((z - x : Nat) : Int) ((y - 1 - (z - x) : Nat) : Int) (by have := Hl.out; omega) rfl rfl rfl rfl) ?_; go_frame))
            go_meet
            case rel => exact ⟨y - 1 - (z - x), 1, d3, rfl, rfl, by omega, hDq3, hEq3, hP1.trans hr3⟩
          · have d50 : decide ((t : Int) = 2) = false := by simp; omega
            (try rw [d50])
            (try go_wp2_with fail)
            go_meet
            case rel => exact ⟨z, t, d1, rfl, rfl, hz, hD2, hE2, hP1⟩
        case rest =>
          obtain ⟨z2, t2, d2, rfl, rfl, hz2, hD3, hE3, hP2⟩ := hcut
          clear hD2 hE2 hP1 hz ht
          go_upto_region 15 with fail
          go_cut [68] (fun s wq => ∃ c : Bool, s = .bool c ∧ Dat wq g n cap d2 ∧ Exc g w wq)
          case first =>
            obtain ⟨ct, Hct⟩ : ∃ c, Hid (decide ((t2 : Int) = 1) = c) := ⟨_, Lib.hid rfl⟩
            cases wb with
            | true =>
              cases wp with
              | true =>
                go_wp2_with (first
                  | ((with_reducible change wpList _ _ _ (Oper.mk (some 67) _ _ _ _ _ :: _) _ _); refine kYw (yEqlK _ _ _ _ .i64 (t2 : Int) 1 ct Hct.out rfl rfl rfl rfl) ?_; go_frame))
                go_meet
                case rel => exact ⟨ct, rfl, hD3, hE3⟩
              | false =>
                go_wp2_with fail
                go_meet
                case rel => exact ⟨false, rfl, hD3, hE3⟩
            | false =>
              go_wp2_with fail
              go_meet
              case rel => exact ⟨false, rfl, hD3, hE3⟩
          case rest =>
            obtain ⟨c, rfl, hD4, hE4⟩ := hcut
            clear hD3 hE3
            go_upto_if 68 with fail
            go_cut [72] (fun _ wq => ∃ d3 : Array Nat, Dat wq g n cap d3 ∧ Exc g w wq ∧ PermI x y dk d3)
            case first =>
              cases c with
              | false =>
                (try go_wp2_with fail)
                go_meet
                case rel => exact ⟨d2, hD4, hE4, hP2⟩
              | true =>
                go_wp2_with (first
                  | (go_at_call 64; refine (sPartial_any _ hD4 (by omega) (by omega) hn (hLo.perm hP2 (by omega))).mono ?_; rintro e q4 ⟨r, d3, rfl, hr3, hr3s, hD5, hEq⟩; have hE5 := hE4.trans hEq; clear hEq hD4 hE4; (cases r <;> go_frame)))
                · go_meet
                  case rel => exact ⟨d3, hD5, hE5, hP2.trans hr3⟩
                · (try simp only [Exit.inBlock, Exit.then])
                  refine ret0W rfl rfl ?_
                  exact ⟨rfl, d3, fin.out d3 (hP2.trans hr3) (hr3s (by first | rfl | trivial)), hD5, hE5⟩
            case rest =>
              obtain ⟨d3, hD6, hE6, hP3⟩ := hcut
              clear hD4 hE4 hP2
              have hs3 := hP3.size
              go_upto_region 17 with fail
              go_cut [87] (fun s wq => ∃ c : Bool, s = .bool c ∧ (c = true → 0 < x ∧ dv d3 z2 ≤ dv d3 (x - 1)) ∧ Dat wq g n cap d3 ∧ Exc g w wq)
              case first =>
                by_cases hx0 : 0 < x
                · have d74 : decide ((x : Int) > 0) = true := by simp; omega
                  obtain ⟨c, Hc⟩ : ∃ c, Hid (decide (dv d3 (x - 1) < dv d3 z2) = c) := ⟨_, Lib.hid rfl⟩
                  (try go_wp2)
                  refine region_mixD [(0, true), (1, true), (2, true), (3, true), (4, true), (5, true), (6, true), (7, true), (8, true), (9, true), (10, true), (11, true), (12, false), (13, true), (14, true)] (fun q => Dat q g n cap d3) (by kernel_rfl) (by kernel_rfl) rfl ?_
                  intro z1 hBd hsd; clear hsd
                  have hDz1 := hD6.below hBd
                  have hEz1 := hE6.trans (exc_below g hBd)
                  clear hBd hD6 hE6
                  simp only [List.map_cons, List.map_nil]
                  dsimp only [List.filterMap, List.getElem?_cons_zero, List.getElem?_cons_succ]
                  refine dY _ hDz1 (yMove _ (.int .i64 (x : Int)) rfl rfl rfl) ?_; go_frame
                  refine dY _ hDz1 (yGtrK _ _ _ _ .i64 (x : Int) 0 true d74 rfl rfl rfl rfl) ?_; go_frame
                  refine dY _ hDz1 (yMove _ (.bool true) rfl rfl rfl) ?_; go_frame
                  refine dY _ hDz1 (yMove _ (.slice (some ⟨g, 0, none⟩) n cap) rfl rfl rfl) ?_; go_frame
                  refine dY _ hDz1 (yMove _ (.int .i64 (x : Int)) rfl rfl rfl) ?_; go_frame
                  refine dY _ hDz1 (ySubZ _ _ _ _ (x : Int) 1 ((x - 1 : Nat) : Int) (by have := Hl.out; omega) rfl rfl rfl rfl) ?_; go_frame
                  refine dY _ hDz1 (yIdxD _ _ g n cap (x - 1) (by have := Hl.out; omega) rfl rfl rfl rfl) ?_; go_frame
                  refine dY _ hDz1 (yLoadD _ (fun _ h => h) (by have := Hl.out; omega) rfl rfl rfl) ?_; go_frame
                  refine dY _ hDz1 (yMove _ (.slice (some ⟨g, 0, none⟩) n cap) rfl rfl rfl) ?_; go_frame
                  refine dY _ hDz1 (yMove _ (.int .i64 (z2 : Int)) rfl rfl rfl) ?_; go_frame
                  refine dY _ hDz1 (yIdxD _ _ g n cap z2 (by have := Hl.out; omega) rfl rfl rfl rfl) ?_; go_frame
                  refine dY _ hDz1 (yLoadD _ (fun _ h => h) (by have := Hl.out; omega) rfl rfl rfl) ?_; go_frame
                  refine dLoud ?_
                  refine kCall2 65 _ _ _ _ _ rfl rfl (by kernel_rfl) rfl rfl ?_
                  refine (kLess_as (Hc.out) _).mono ?_
                  rintro e z' ⟨rfl, rfl⟩
                  refine ⟨_, rfl, mixOn ⟨_, (fun _ h => h), hDz1, ?_⟩⟩
                  go_frame
                  refine dY _ hDz1 (yNotW _ _ c rfl rfl rfl) ?_; go_frame
                  refine dY _ hDz1 (yPick _ _ _ true (.bool (!c)) rfl rfl rfl rfl) ?_; go_frame
                  refine dDone ?_
                  (try go_wp2_with fail)
                  go_meet
                  case rel => exact ⟨(!c), rfl, (fun h => ⟨hx0, by have := Hc.out; simp at h; rw [h] at this; simpa using this⟩), hDz1, hEz1⟩
                · have d74 : decide ((x : Int) > 0) = false := by simp; omega
                  (try go_wp2)
                  refine region_mixD [(0, true), (1, true), (2, true), (3, true), (4, true), (5, true), (6, true), (7, true), (8, true), (9, true), (10, true), (11, true), (12, true), (13, true), (14, true)] (fun q => Dat q g n cap d3) (by kernel_rfl) (by kernel_rfl) rfl ?_
                  intro z1 hBd hsd; clear hsd
                  have hDz1 := hD6.below hBd
                  have hEz1 := hE6.trans (exc_below g hBd)
                  clear hBd hD6 hE6
                  simp only [List.map_cons, List.map_nil]
                  dsimp only [List.filterMap, List.getElem?_cons_zero, List.getElem?_cons_succ]
                  refine dY _ hDz1 (yMove _ (.int .i64 (x : Int)) rfl rfl rfl) ?_; go_frame
                  refine dY _ hDz1 (yGtrK _ _ _ _ .i64 (x : Int) 0 false d74 rfl rfl rfl rfl) ?_; go_frame
                  refine dY _ hDz1 (yMove _ (.bool false) rfl rfl rfl) ?_; go_frame
                  refine dY _ hDz1 (ySkip rfl) ?_; go_frame
                  refine dY _ hDz1 (ySkip rfl) ?_; go_frame
                  refine dY _ hDz1 (ySkip rfl) ?_; go_frame
                  refine dY _ hDz1 (ySkip rfl) ?_; go_frame
                  refine dY _ hDz1 (ySkip rfl) ?_; go_frame
                  refine dY _ hDz1 (ySkip rfl) ?_; go_frame
                  refine dY _ hDz1 (ySkip rfl) ?_; go_frame
                  refine dY _ hDz1 (ySkip rfl) ?_; go_frame
                  refine dY _ hDz1 (ySkip rfl) ?_; go_frame
                  refine dY _ hDz1 (ySkip rfl) ?_; go_frame
                  refine dY _ hDz1 (ySkip rfl) ?_; go_frame
                  refine dY _ hDz1 (yPick _ _ _ false (.bool false) rfl rfl rfl rfl) ?_; go_frame
                  refine dDone ?_
                  (try go_wp2_with fail)
                  go_meet
                  case rel => exact ⟨false, rfl, (fun h => absurd h (by decide)), hDz1, hEz1⟩
              case rest =>
                obtain ⟨c, rfl, hc, hD7, hE7⟩ := hcut
                clear hD6 hE6
                have hPk := hP.trans (hP3.mono hx hy (by omega))
                have hOk := hO.perm hx hy hP3 (by omega)
                have hLk := hLo.perm hP3 (by omega)
                have hsk3 : d3.size = n := by omega
                cases c with
                | true =>
                  obtain ⟨hx0, hle⟩ := hc rfl
                  have hge : Each (dv d3 z2 ≤ ·) d3 x y := by
                    rcases hLk with h | h
                    · omega
                    · exact h.imp fun u hu => Nat.le_trans hle hu
                  go_wp2_with (first
                    | (go_at_call 66; refine (sPartEq_any _ hD7 hz2.1 hz2.2 (by omega) hn).mono ?_; rintro e q5 ⟨mid, d4, rfl, hm, hP4, hl4, hr4, hD8, hEq⟩; have hE8 := hE7.trans hEq; clear hEq hD7 hE7; go_frame))
                  have hO4 := hOk.equal hx hy (by omega) ⟨by omega, hm.2⟩ hP4 hge hl4 hr4
                  go_roundw
                  case rel => exact ⟨mid, y, v2, wb, wp, d4, rfl, rfl, rfl, rfl, rfl, by omega, hm.2, hy, hv2, hD8, hE8, hPk.trans (hP4.mono hx hy (by omega)), hO4, hO4.low (by omega) hy⟩
                  case measure => first | (simp [intOf]; done) | (simp [intOf]; omega)
                | false =>
                  clear hc
                  go_upto_region 24 with (first
                    | (go_at_call 67; refine (sPart_any _ hD7 hz2.1 hz2.2 (by omega) hn).mono ?_; rintro e q5 ⟨mid, p, al, d4, rfl, hPt, hD8, hEq⟩; have hE8 := hE7.trans hEq; have hm1 := hPt.h1; have hm2 := hPt.h2; clear hEq hD7 hE7; go_frame)
                    | ((with_reducible change wpList _ _ _ (Oper.mk (some 105) _ _ _ _ _ :: _) _ _); refine kYw (ySubZ _ _ _ _ (mid : Int) (x : Int) ((mid - x : Nat) : Int) (by omega) rfl rfl rfl rfl) ?_; go_frame)
                    | ((with_reducible change wpList _ _ _ (Oper.mk (some 108) _ _ _ _ _ :: _) _ _); refine kYw (ySubZ _ _ _ _ (y : Int) (mid : Int) ((y - mid : Nat) : Int) (by omega) rfl rfl rfl rfl) ?_; go_frame)
                    | ((with_reducible change wpList _ _ _ (Oper.mk (some 110) _ _ _ _ _ :: _) _ _); refine kYw (yQuoN .i64 _ _ _ _ l 8 (l / 8) ⟨(by omega), by decide, wrap_i64N (by omega)⟩ rfl rfl rfl rfl) ?_; go_frame))
                  have hs4 := hPt.perm.size
                  obtain ⟨bl, Hbl⟩ : ∃ c, Hid (decide (((mid - x : Nat) : Int) ≥ ((l / 8 : Nat) : Int)) = c) := ⟨_, Lib.hid rfl⟩
                  obtain ⟨br, Hbr⟩ : ∃ c, Hid (decide (((y - mid : Nat) : Int) ≥ ((l / 8 : Nat) : Int)) = c) := ⟨_, Lib.hid rfl⟩
                  by_cases hlr : mid - x < y - mid
                  · have d113 : decide (((mid - x : Nat) : Int) < ((y - mid : Nat) : Int)) = true := by simp; omega
                    go_wp2_with (first
                      | ((with_reducible change wpList _ _ _ (Oper.mk (some 113) _ _ _ _ _ :: _) _ _); refine kYw (yLssK _ _ _ _ .i64 ((mid - x : Nat) : Int) ((y - mid : Nat) : Int) true d113 rfl rfl rfl rfl) ?_; go_frame)
                      | ((with_reducible change wpList _ _ _ (Oper.mk (some 116) _ _ _ _ _ :: _) _ _); refine kYw (yGeqK _ _ _ _ .i64 ((mid - x : Nat) : Int) ((l / 8 : Nat) : Int) bl Hbl.out rfl rfl rfl rfl) ?_; go_frame)
                      | (go_at_call 56; refine (ih (a := x) (b := mid) (lim := v2) _ (by omega) hD8 (by omega) (by omega) hv2 ((hLk.perm hPt.perm (by omega)).less (by omega))).mono ?_; rintro e q6 ⟨rfl, d5, hr5, hD9, hEq⟩; have hE9 := hE8.trans hEq; clear hEq hD8 hE8; go_frame)
                      | ((with_reducible change wpList _ _ _ (Oper.mk (some 123) _ _ _ _ _ :: _) _ _); refine kYw (yAddZ _ _ _ _ (mid : Int) 1 ((mid + 1 : Nat) : Int) (by omega) rfl rfl rfl rfl) ?_; go_frame))
                    have hO5 := hOk.left hx hy (by omega) hPt hr5.1 hr5.2
                    go_roundw
                    case rel => exact ⟨mid + 1, y, v2, bl, al, d5, rfl, rfl, rfl, rfl, rfl, by omega, by omega, hy, hv2, hD9, hE9, hPk.trans ((hPt.perm.trans (hr5.1.mono (Nat.le_refl _) (by omega) (by omega))).mono hx hy (by omega)), hO5, hO5.low (by omega) hy⟩
                    case measure => first | (simp [intOf]; done) | (simp [intOf]; omega)
                  · have d113 : decide (((mid - x : Nat) : Int) < ((y - mid : Nat) : Int)) = false := by simp; omega
                    go_wp2_with (first
                      | ((with_reducible change wpList _ _ _ (Oper.mk (some 113) _ _ _ _ _ :: _) _ _); refine kYw (yLssK _ _ _ _ .i64 ((mid - x : Nat) : Int) ((y - mid : Nat) : Int) false d113 rfl rfl rfl rfl) ?_; go_frame)
                      | ((with_reducible change wpList _ _ _ (Oper.mk (some 126) _ _ _ _ _ :: _) _ _); refine kYw (yGeqK _ _ _ _ .i64 ((y - mid : Nat) : Int) ((l / 8 : Nat) : Int) br Hbr.out rfl rfl rfl rfl) ?_; go_frame)
                      | ((with_reducible change wpList _ _ _ (Oper.mk (some 129) _ _ _ _ _ :: _) _ _); refine kYw (yAddZ _ _ _ _ (mid : Int) 1 ((mid + 1 : Nat) : Int) (by omega) rfl rfl rfl rfl) ?_; go_frame)
                      | (go_at_call 56; refine (ih (a := mid + 1) (b := y) (lim := v2) _ (by omega) hD8 (by omega) (by omega) hv2 (hPt.lowR)).mono ?_; rintro e q6 ⟨rfl, d5, hr5, hD9, hEq⟩; have hE9 := hE8.trans hEq; clear hEq hD8 hE8; go_frame))
                    have hO5 := hOk.right hx hy (by omega) hPt hr5.1 hr5.2
                    have hq5 := hPt.perm.trans (hr5.1.mono (a' := x) (by omega) (Nat.le_refl _) (by omega))
                    go_roundw
                    case rel => exact ⟨x, mid, v2, br, al, d5, rfl, rfl, rfl, rfl, rfl, hx, by omega, by omega, hv2, hD9, hE9, hPk.trans (hq5.mono hx hy (by omega)), hO5, (hLk.perm hq5 (by omega)).less (by omega)⟩
                    case measure => first | (simp [intOf]; done) | (simp [intOf]; omega)
end Go.Proofs.Ytdeggdmoijfhdaa
