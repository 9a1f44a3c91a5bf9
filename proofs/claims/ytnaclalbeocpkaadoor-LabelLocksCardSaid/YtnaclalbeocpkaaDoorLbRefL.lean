/-
  Layer 8: the walks of the reference's push and Lock.
-/
import Derived.Test.YtnaclalbeocpkaaDoorLbRefR
namespace Go.Proofs.YtnaclalbeocpkaaDoor
open Go Go.RowKit

theorem strInfo0L : (Tryd.prog.info? 9).map (fun i => (i.zero, i.size, i.bytes)) = some (some (textV []), 1, 16) := by kernel_rfl
theorem strInfoL : ∃ i, Tryd.prog.info? 9 = some i ∧ i.zero = some (textV []) ∧ i.size = 1 ∧ i.bytes = 16 := by
  have h := strInfo0L
  cases hi : Tryd.prog.info? 9 with
  | none => rw [hi] at h; cases h
  | some i =>
    rw [hi] at h
    simp only [Option.map_some, Option.some.injEq, Prod.mk.injEq] at h
    exact ⟨i, rfl, h⟩
set_option maxRecDepth 100000 in
set_option maxHeartbeats 8000000 in
theorem nPush_any {Ls : List (List UInt8)} {u : Value} (w : World) (hv : IsVals w u (Ls.map textV)) (hn : Ls.length ≤ 100) (hx : ∀ L ∈ Ls, L.length ≤ 1000) : Calls Tryd.prog 18 #[u] w (POwnPost w (pushesL Ls)) := by
  obtain ⟨i, hi, hz, hs1, hby⟩ := b8Info
  obtain ⟨N, hN⟩ : ∃ N, Ls.length = N := ⟨_, rfl⟩
  go_enter Tryd.func18, Tryd.ntmps18
  go_wp2_with (first
    | ((with_reducible change wpList _ _ _ (Oper.mk (some 6) _ _ _ _ _ :: _) _ _); refine kBuildSlice0 _ _ rfl rfl Tryd.underlying22 i hi ?_; intro w1 hRr hzz hB1; clear hzz; have hO1 : OwnB w1 w.heap.size _ [] := own_empty (Nat.le_refl _) hRr; clear hRr; have hv1 := hv.below hB1; go_frame)
    | ((with_reducible change wpList _ _ _ (Oper.mk (some 8) _ _ _ _ _ :: _) _ _); refine kLenN _ _ _ u _ N rfl rfl rfl hv1 (by rw [List.length_map, hN]) Tryd.underlying52 ?_; go_frame))
  clear hv1
  go_loopw [9, 3] (fun i t wr => ∃ k : Nat, k ≤ N ∧ i = .int .i64 k ∧ OwnB wr w.heap.size t (pushesL (Ls.take k)) ∧ Below w.heap.size w wr) (fun i _ _ => N - (intOf i).toNat)
  case atStart => exact ⟨0, by omega, rfl, by rw [List.take_zero]; exact hO1, hB1⟩
  case round =>
    clear hO1 hB1
    obtain ⟨k, hk, rfl, hO, hB⟩ := hrel
    by_cases hlt : k < N
    · have hd : decide ((k : Int) < (N : Int)) = true := by simp; omega
      have hkl : k < Ls.length := by omega
      have hm : Ls[k].length ≤ 1000 := hx _ (List.getElem_mem hkl)
      have hTk := pushesL_take Ls k hkl
      have hat : (Ls.map textV)[k]? = some (textV Ls[k]) := by rw [List.getElem?_map, List.getElem?_eq_getElem hkl]; rfl
      obtain ⟨X, hX⟩ : ∃ X, Ls[k] = X := ⟨_, rfl⟩
      rw [hX] at hm hTk hat
      obtain ⟨Y, hY⟩ : ∃ Y, pushesL (Ls.take k) = Y := ⟨_, rfl⟩
      have hYl : Y.length ≤ 400000 := by
        have := pushesL_le (Ls.take k) 1000 (fun L hL => hx L (List.mem_of_mem_take hL)); rw [List.length_take] at this
        rw [← hY]; omega
      rw [hY] at hO hTk
      have hV := hv.below hB
      have hsz := hB.size
      have hpl := pushL_le' hm
      go_wp2_with (first
        | ((with_reducible change wpList _ _ _ (Oper.mk (some 10) _ _ _ _ _ :: _) _ _); refine kLssI _ _ _ _ .i64 (k : Int) (N : Int) true rfl rfl rfl rfl hd ?_; go_frame)
        | ((with_reducible change wpList _ _ _ (Oper.mk (some 11) _ _ _ _ _ :: _) _ _); refine kIndexAddrV _ _ _ _ .i64 u (Ls.map textV) (k : Int) k (textV X) rfl rfl rfl hV rfl Tryd.underlying52 info_stringL rfl hat ?_; intro b hb; go_frame)
        | ((with_reducible change wpList _ _ _ (Oper.mk (some 12) _ _ _ _ _ :: _) _ _); refine kLoadCell _ _ b (textV X) _ rfl rfl rfl hb Tryd.underlying9 rfl ?_; clear hb hV; go_frame)
        | ((with_reducible change wpList _ _ _ (Oper.mk (some 15) _ _ _ _ _ :: _) _ _); refine kToBytes _ _ _ _ X rfl rfl rfl Tryd.underlying9 Tryd.underlying22 Tryd.underlying5 ?_; intro v2 w2 hB2 hV2; have hO2 := hO.below hB2; have hB3 := hB.trans (hB2.mono hsz); have hs3 := hB3.size; clear hO hB hB2; go_frame)
        | (go_at_call 29; refine (mPush_any _ hV2 (by omega)).mono ?_; rintro e w3 ⟨v3, rfl, hO3, hB4⟩; have hO4 := hO2.below hB4; have hB5 := hB3.trans (hB4.mono hs3); have hs5 := hB5.size; clear hO2 hV2 hB3 hB4; go_frame)
        | ((with_reducible change wpList _ _ _ (Oper.mk (some 17) _ _ _ _ _ :: _) _ _); refine kAppB _ _ rfl rfl w.heap.size _ _ Y (pushL X) hO4 hO3.vals rfl rfl (by omega) hs5 ?_; intro v6 w6 hO6 hB6; have hB7 := hB5.trans hB6; clear hO4 hO3 hB5 hB6; go_frame)
        | ((with_reducible change wpList _ _ _ (Oper.mk (some 18) _ _ _ _ _ :: _) _ _); refine kAddI _ _ _ _ (k : Int) 1 ((k + 1 : Nat) : Int) (by omega) rfl rfl rfl rfl ?_; go_frame))
      go_roundw
      case rel => exact ⟨k + 1, by omega, rfl, by rw [hTk]; exact hO6, hB7⟩
      case measure => simp [intOf]; omega
    · have hd : decide ((k : Int) < (N : Int)) = false := by simp; omega
      have hT : pushesL (Ls.take k) = pushesL Ls := by rw [List.take_of_length_le (by omega)]
      rw [hT] at hO
      go_wp2_with (first
        | ((with_reducible change wpList _ _ _ (Oper.mk (some 10) _ _ _ _ _ :: _) _ _); refine kLssI _ _ _ _ .i64 (k : Int) (N : Int) false rfl rfl rfl rfl hd ?_; go_frame))
      go_ret
      exact ⟨_, rfl, hO, hB⟩
/-- a deed in a row, rows as they are over a world -/
def DR (w : World) (g : Nat) (d : Deed) : Prop := Row w g 29 (dcells d)
theorem DR.below {w w' : World} {g : Nat} {d : Deed} (h : DR w g d) (hb : Below w.heap.size w w') : DR w' g d := Row.onL h hb
theorem row_dr {w : World} {g : Nat} {d : Deed} (h : Row w g 29 (dcells d)) : DR w g d := h
set_option maxRecDepth 100000 in
set_option maxHeartbeats 8000000 in
theorem nLock_any {d : Deed} (hd : d.Is) (hf : d.Fits) {r : List UInt8} {vr : Value} (w : World) (hr0 : IsVals w vr (r.map VB)) (hl : r.length ≤ 1000000) : Calls Tryd.prog 8 #[deedV d, vr] w (LockPost w (lockS d r)) := by
  obtain ⟨i, hi, hz, hs1, hby⟩ := b8Info
  obtain ⟨is, his, hzs, hss, hbs⟩ := strInfoL
  have hwl := wordsL_le hd hf
  have e1 := fun w => nRight_any hd w
  obtain ⟨b, hb⟩ : ∃ b, rightB d = b := ⟨_, rfl⟩
  rw [hb] at e1
  unfold lockS
  rw [hb]
  by_cases k0 : d.kind = 0
  · have hk := k0
    have hw0 : wordsL d = [] := by simp [wordsL, hk]
    obtain ⟨m, hm⟩ : ∃ m, r.length = m := ⟨_, rfl⟩
    cases r with
    | nil =>
      have hm0 : decide ((m : Int) > 0) = false := by simp at hm; simp; omega
      rw [show kindL [] = 0 from rfl]
      cases b
      · rw [if_pos (.inl rfl)]
        go_enter Tryd.func8, Tryd.ntmps8
        go_wp2_with (first
          | ((with_reducible change wpList _ _ _ (Oper.mk (some 2) _ _ _ _ _ :: _) _ _); refine kBoxD _ _ rfl rfl rfl ?_; intro w1 hR0 hz1 hBw; clear hz1; have hR := row_dr hR0; have hr := hr0.below hBw; have hB0 := Below.refl w1.heap.size w1; go_frame)
          | ((with_reducible change wpList _ _ _ (Oper.mk (some 7) _ _ _ _ _ :: _) _ _); refine kBuildSlice0 _ _ rfl rfl Tryd.underlying22 i hi ?_; intro p1 hRr hzz hBB; clear hzz; have hO : OwnB p1 w1.heap.size _ [] := own_empty hB0.size hRr; clear hRr; have hB1 := hB0.trans (hBB.mono hB0.size); clear hB0 hBB; go_frame)
          | ((with_reducible change wpList _ _ _ (Oper.mk (some 8) _ _ _ _ _ :: _) _ _); refine kDeed0 _ _ rfl rfl rfl ?_; go_frame)
          | ((with_reducible change wpList _ _ _ (Oper.mk (some 9) _ _ _ _ _ :: _) _ _); refine kLoadK _ _ _ (hR.below hB1) rfl rfl rfl ?_; rw [hk]; go_frame)
          | ((with_reducible change wpList _ _ _ (Oper.mk (some 13) _ _ _ _ _ :: _) _ _); refine kLenN _ _ _ vr _ m rfl rfl rfl (hr.below hB1) (by rw [List.length_map, hm]) Tryd.underlying22 ?_; go_frame)
          | ((with_reducible change wpList _ _ _ (Oper.mk (some 14) _ _ _ _ _ :: _) _ _); refine kGtrI _ _ _ _ .i64 (m : Int) 0 false rfl rfl rfl rfl hm0 ?_; go_frame)
          | ((with_reducible change wpList _ _ _ (Oper.mk (some 70) _ _ _ _ _ :: _) _ _); refine kLoadD _ _ _ (hR.below hB1) rfl rfl rfl ?_; go_frame)
          | (go_at_call 10; refine (e1 _).mono ?_; rintro e p2 ⟨rfl, hBB⟩; have hB2 := hB1.trans (hBB.mono hB1.size); have hO_2 := hO.below hBB; clear hO hB1 hBB; go_frame))
        (try simp only [Exit.inBlock, Exit.then])
        refine ret2 rfl rfl ?_
        exact ⟨_, rfl, ownB_nil _ _, hBw.trans (hB2.mono hBw.size)⟩
      rw [if_neg (by simp)]
      go_enter Tryd.func8, Tryd.ntmps8
      go_wp2_with (first
        | ((with_reducible change wpList _ _ _ (Oper.mk (some 2) _ _ _ _ _ :: _) _ _); refine kBoxD _ _ rfl rfl rfl ?_; intro w1 hR0 hz1 hBw; clear hz1; have hR := row_dr hR0; have hr := hr0.below hBw; have hB0 := Below.refl w1.heap.size w1; go_frame)
        | ((with_reducible change wpList _ _ _ (Oper.mk (some 7) _ _ _ _ _ :: _) _ _); refine kBuildSlice0 _ _ rfl rfl Tryd.underlying22 i hi ?_; intro p1 hRr hzz hBB; clear hzz; have hO : OwnB p1 w1.heap.size _ [] := own_empty hB0.size hRr; clear hRr; have hB1 := hB0.trans (hBB.mono hB0.size); clear hB0 hBB; go_frame)
        | ((with_reducible change wpList _ _ _ (Oper.mk (some 8) _ _ _ _ _ :: _) _ _); refine kDeed0 _ _ rfl rfl rfl ?_; go_frame)
        | ((with_reducible change wpList _ _ _ (Oper.mk (some 9) _ _ _ _ _ :: _) _ _); refine kLoadK _ _ _ (hR.below hB1) rfl rfl rfl ?_; rw [hk]; go_frame)
        | ((with_reducible change wpList _ _ _ (Oper.mk (some 13) _ _ _ _ _ :: _) _ _); refine kLenN _ _ _ vr _ m rfl rfl rfl (hr.below hB1) (by rw [List.length_map, hm]) Tryd.underlying22 ?_; go_frame)
        | ((with_reducible change wpList _ _ _ (Oper.mk (some 14) _ _ _ _ _ :: _) _ _); refine kGtrI _ _ _ _ .i64 (m : Int) 0 false rfl rfl rfl rfl hm0 ?_; go_frame)
        | ((with_reducible change wpList _ _ _ (Oper.mk (some 70) _ _ _ _ _ :: _) _ _); refine kLoadD _ _ _ (hR.below hB1) rfl rfl rfl ?_; go_frame)
        | (go_at_call 10; refine (e1 _).mono ?_; rintro e p2 ⟨rfl, hBB⟩; have hB2 := hB1.trans (hBB.mono hB1.size); have hO_2 := hO.below hBB; clear hO hB1 hBB; go_frame)
        | ((with_reducible change wpList _ _ _ (Oper.mk (some 75) _ _ _ _ _ :: _) _ _); refine kAppB _ _ rfl rfl w1.heap.size _ _ ([]) ([]) hO_2 (hr.below hB2) rfl rfl (by first | (simp; done) | (simp at *; omega)) hB2.size ?_; intro v75 p3 hO hBB; have hB3 := hB2.trans hBB; clear hO_2 hB2 hBB; go_frame))
      (try simp only [Exit.inBlock, Exit.then])
      refine ret2 rfl rfl ?_
      exact ⟨_, rfl, own_less hBw.size (by show OwnB _ _ _ (wordsL d ++ []); rw [hw0]; exact hO), hBw.trans (hB3.mono hBw.size)⟩
    | cons c t =>
      have hm0 : decide ((m : Int) > 0) = true := by simp at hm; simp; omega
      have hkc : kindL (c :: t) = if c = 81 then 1 else if c = 82 then 2 else if c = 83 then 3 else 0 := rfl
      by_cases k81 : c = 81
      · have h81 : decide (B c = 81) = true := by subst k81; rfl
        rw [if_pos (.inr ⟨hk, by rw [hkc]; simp [k81]⟩)]
        go_enter Tryd.func8, Tryd.ntmps8
        go_wp2_with (first
          | ((with_reducible change wpList _ _ _ (Oper.mk (some 2) _ _ _ _ _ :: _) _ _); refine kBoxD _ _ rfl rfl rfl ?_; intro w1 hR0 hz1 hBw; clear hz1; have hR := row_dr hR0; have hr := hr0.below hBw; have hB0 := Below.refl w1.heap.size w1; go_frame)
          | ((with_reducible change wpList _ _ _ (Oper.mk (some 7) _ _ _ _ _ :: _) _ _); refine kBuildSlice0 _ _ rfl rfl Tryd.underlying22 i hi ?_; intro p1 hRr hzz hBB; clear hzz; have hO : OwnB p1 w1.heap.size _ [] := own_empty hB0.size hRr; clear hRr; have hB1 := hB0.trans (hBB.mono hB0.size); clear hB0 hBB; go_frame)
          | ((with_reducible change wpList _ _ _ (Oper.mk (some 8) _ _ _ _ _ :: _) _ _); refine kDeed0 _ _ rfl rfl rfl ?_; go_frame)
          | ((with_reducible change wpList _ _ _ (Oper.mk (some 9) _ _ _ _ _ :: _) _ _); refine kLoadK _ _ _ (hR.below hB1) rfl rfl rfl ?_; rw [hk]; go_frame)
          | ((with_reducible change wpList _ _ _ (Oper.mk (some 13) _ _ _ _ _ :: _) _ _); refine kLenN _ _ _ vr _ m rfl rfl rfl (hr.below hB1) (by rw [List.length_map, hm]) Tryd.underlying22 ?_; go_frame)
          | ((with_reducible change wpList _ _ _ (Oper.mk (some 14) _ _ _ _ _ :: _) _ _); refine kGtrI _ _ _ _ .i64 (m : Int) 0 true rfl rfl rfl rfl hm0 ?_; go_frame)
          | ((with_reducible change wpList _ _ _ (Oper.mk (some 17) _ _ _ _ _ :: _) _ _); refine kIndexAddrV _ _ _ _ .i64 vr _ 0 0 (VB c) rfl rfl rfl (hr.below hB1) rfl Tryd.underlying22 info_b8P rfl rfl ?_; intro b hb; go_frame)
          | ((with_reducible change wpList _ _ _ (Oper.mk (some 18) _ _ _ _ _ :: _) _ _); refine kLoadCell _ _ b (VB c) _ rfl rfl rfl hb Tryd.underlying5 rfl ?_; clear hb; go_frame)
          | ((with_reducible change wpList _ _ _ (Oper.mk (some 19) _ _ _ _ _ :: _) _ _); refine kEqlI _ _ _ _ .u8 (B c) 81 true rfl rfl rfl rfl h81 ?_; go_frame))
        (try simp only [Exit.inBlock, Exit.then])
        refine ret2 rfl rfl ?_
        exact ⟨_, rfl, ownB_nil _ _, hBw.trans (hB1.mono hBw.size)⟩
      have h81 : decide (B c = 81) = false := by rw [show (81 : Int) = B 81 from rfl, B_eqL]; simp [k81]
      by_cases k82 : c = 82
      · have h82 : decide (B c = 82) = true := by subst k82; rfl
        rw [if_pos (.inr ⟨hk, by rw [hkc]; simp [k82]⟩)]
        go_enter Tryd.func8, Tryd.ntmps8
        go_wp2_with (first
          | ((with_reducible change wpList _ _ _ (Oper.mk (some 2) _ _ _ _ _ :: _) _ _); refine kBoxD _ _ rfl rfl rfl ?_; intro w1 hR0 hz1 hBw; clear hz1; have hR := row_dr hR0; have hr := hr0.below hBw; have hB0 := Below.refl w1.heap.size w1; go_frame)
          | ((with_reducible change wpList _ _ _ (Oper.mk (some 7) _ _ _ _ _ :: _) _ _); refine kBuildSlice0 _ _ rfl rfl Tryd.underlying22 i hi ?_; intro p1 hRr hzz hBB; clear hzz; have hO : OwnB p1 w1.heap.size _ [] := own_empty hB0.size hRr; clear hRr; have hB1 := hB0.trans (hBB.mono hB0.size); clear hB0 hBB; go_frame)
          | ((with_reducible change wpList _ _ _ (Oper.mk (some 8) _ _ _ _ _ :: _) _ _); refine kDeed0 _ _ rfl rfl rfl ?_; go_frame)
          | ((with_reducible change wpList _ _ _ (Oper.mk (some 9) _ _ _ _ _ :: _) _ _); refine kLoadK _ _ _ (hR.below hB1) rfl rfl rfl ?_; rw [hk]; go_frame)
          | ((with_reducible change wpList _ _ _ (Oper.mk (some 13) _ _ _ _ _ :: _) _ _); refine kLenN _ _ _ vr _ m rfl rfl rfl (hr.below hB1) (by rw [List.length_map, hm]) Tryd.underlying22 ?_; go_frame)
          | ((with_reducible change wpList _ _ _ (Oper.mk (some 14) _ _ _ _ _ :: _) _ _); refine kGtrI _ _ _ _ .i64 (m : Int) 0 true rfl rfl rfl rfl hm0 ?_; go_frame)
          | ((with_reducible change wpList _ _ _ (Oper.mk (some 17) _ _ _ _ _ :: _) _ _); refine kIndexAddrV _ _ _ _ .i64 vr _ 0 0 (VB c) rfl rfl rfl (hr.below hB1) rfl Tryd.underlying22 info_b8P rfl rfl ?_; intro b hb; go_frame)
          | ((with_reducible change wpList _ _ _ (Oper.mk (some 18) _ _ _ _ _ :: _) _ _); refine kLoadCell _ _ b (VB c) _ rfl rfl rfl hb Tryd.underlying5 rfl ?_; clear hb; go_frame)
          | ((with_reducible change wpList _ _ _ (Oper.mk (some 19) _ _ _ _ _ :: _) _ _); refine kEqlI _ _ _ _ .u8 (B c) 81 false rfl rfl rfl rfl h81 ?_; go_frame)
          | ((with_reducible change wpList _ _ _ (Oper.mk (some 22) _ _ _ _ _ :: _) _ _); refine kIndexAddrV _ _ _ _ .i64 vr _ 0 0 (VB c) rfl rfl rfl (hr.below hB1) rfl Tryd.underlying22 info_b8P rfl rfl ?_; intro b hb; go_frame)
          | ((with_reducible change wpList _ _ _ (Oper.mk (some 23) _ _ _ _ _ :: _) _ _); refine kLoadCell _ _ b (VB c) _ rfl rfl rfl hb Tryd.underlying5 rfl ?_; clear hb; go_frame)
          | ((with_reducible change wpList _ _ _ (Oper.mk (some 24) _ _ _ _ _ :: _) _ _); refine kEqlI _ _ _ _ .u8 (B c) 82 true rfl rfl rfl rfl h82 ?_; go_frame))
        (try simp only [Exit.inBlock, Exit.then])
        refine ret2 rfl rfl ?_
        exact ⟨_, rfl, ownB_nil _ _, hBw.trans (hB1.mono hBw.size)⟩
      have h82 : decide (B c = 82) = false := by rw [show (82 : Int) = B 82 from rfl, B_eqL]; simp [k82]
      by_cases k83 : c = 83
      · have h83 : decide (B c = 83) = true := by subst k83; rfl
        rw [if_pos (.inr ⟨hk, by rw [hkc]; simp [k83]⟩)]
        go_enter Tryd.func8, Tryd.ntmps8
        go_wp2_with (first
          | ((with_reducible change wpList _ _ _ (Oper.mk (some 2) _ _ _ _ _ :: _) _ _); refine kBoxD _ _ rfl rfl rfl ?_; intro w1 hR0 hz1 hBw; clear hz1; have hR := row_dr hR0; have hr := hr0.below hBw; have hB0 := Below.refl w1.heap.size w1; go_frame)
          | ((with_reducible change wpList _ _ _ (Oper.mk (some 7) _ _ _ _ _ :: _) _ _); refine kBuildSlice0 _ _ rfl rfl Tryd.underlying22 i hi ?_; intro p1 hRr hzz hBB; clear hzz; have hO : OwnB p1 w1.heap.size _ [] := own_empty hB0.size hRr; clear hRr; have hB1 := hB0.trans (hBB.mono hB0.size); clear hB0 hBB; go_frame)
          | ((with_reducible change wpList _ _ _ (Oper.mk (some 8) _ _ _ _ _ :: _) _ _); refine kDeed0 _ _ rfl rfl rfl ?_; go_frame)
          | ((with_reducible change wpList _ _ _ (Oper.mk (some 9) _ _ _ _ _ :: _) _ _); refine kLoadK _ _ _ (hR.below hB1) rfl rfl rfl ?_; rw [hk]; go_frame)
          | ((with_reducible change wpList _ _ _ (Oper.mk (some 13) _ _ _ _ _ :: _) _ _); refine kLenN _ _ _ vr _ m rfl rfl rfl (hr.below hB1) (by rw [List.length_map, hm]) Tryd.underlying22 ?_; go_frame)
          | ((with_reducible change wpList _ _ _ (Oper.mk (some 14) _ _ _ _ _ :: _) _ _); refine kGtrI _ _ _ _ .i64 (m : Int) 0 true rfl rfl rfl rfl hm0 ?_; go_frame)
          | ((with_reducible change wpList _ _ _ (Oper.mk (some 17) _ _ _ _ _ :: _) _ _); refine kIndexAddrV _ _ _ _ .i64 vr _ 0 0 (VB c) rfl rfl rfl (hr.below hB1) rfl Tryd.underlying22 info_b8P rfl rfl ?_; intro b hb; go_frame)
          | ((with_reducible change wpList _ _ _ (Oper.mk (some 18) _ _ _ _ _ :: _) _ _); refine kLoadCell _ _ b (VB c) _ rfl rfl rfl hb Tryd.underlying5 rfl ?_; clear hb; go_frame)
          | ((with_reducible change wpList _ _ _ (Oper.mk (some 19) _ _ _ _ _ :: _) _ _); refine kEqlI _ _ _ _ .u8 (B c) 81 false rfl rfl rfl rfl h81 ?_; go_frame)
          | ((with_reducible change wpList _ _ _ (Oper.mk (some 22) _ _ _ _ _ :: _) _ _); refine kIndexAddrV _ _ _ _ .i64 vr _ 0 0 (VB c) rfl rfl rfl (hr.below hB1) rfl Tryd.underlying22 info_b8P rfl rfl ?_; intro b hb; go_frame)
          | ((with_reducible change wpList _ _ _ (Oper.mk (some 23) _ _ _ _ _ :: _) _ _); refine kLoadCell _ _ b (VB c) _ rfl rfl rfl hb Tryd.underlying5 rfl ?_; clear hb; go_frame)
          | ((with_reducible change wpList _ _ _ (Oper.mk (some 24) _ _ _ _ _ :: _) _ _); refine kEqlI _ _ _ _ .u8 (B c) 82 false rfl rfl rfl rfl h82 ?_; go_frame)
          | ((with_reducible change wpList _ _ _ (Oper.mk (some 28) _ _ _ _ _ :: _) _ _); refine kIndexAddrV _ _ _ _ .i64 vr _ 0 0 (VB c) rfl rfl rfl (hr.below hB1) rfl Tryd.underlying22 info_b8P rfl rfl ?_; intro b hb; go_frame)
          | ((with_reducible change wpList _ _ _ (Oper.mk (some 29) _ _ _ _ _ :: _) _ _); refine kLoadCell _ _ b (VB c) _ rfl rfl rfl hb Tryd.underlying5 rfl ?_; clear hb; go_frame)
          | ((with_reducible change wpList _ _ _ (Oper.mk (some 30) _ _ _ _ _ :: _) _ _); refine kEqlI _ _ _ _ .u8 (B c) 83 true rfl rfl rfl rfl h83 ?_; go_frame))
        (try simp only [Exit.inBlock, Exit.then])
        refine ret2 rfl rfl ?_
        exact ⟨_, rfl, ownB_nil _ _, hBw.trans (hB1.mono hBw.size)⟩
      have h83 : decide (B c = 83) = false := by rw [show (83 : Int) = B 83 from rfl, B_eqL]; simp [k83]
      rw [show kindL (c :: t) = 0 by rw [hkc]; simp [k81, k82, k83]]
      cases b
      · rw [if_pos (.inl rfl)]
        go_enter Tryd.func8, Tryd.ntmps8
        go_wp2_with (first
          | ((with_reducible change wpList _ _ _ (Oper.mk (some 2) _ _ _ _ _ :: _) _ _); refine kBoxD _ _ rfl rfl rfl ?_; intro w1 hR0 hz1 hBw; clear hz1; have hR := row_dr hR0; have hr := hr0.below hBw; have hB0 := Below.refl w1.heap.size w1; go_frame)
          | ((with_reducible change wpList _ _ _ (Oper.mk (some 7) _ _ _ _ _ :: _) _ _); refine kBuildSlice0 _ _ rfl rfl Tryd.underlying22 i hi ?_; intro p1 hRr hzz hBB; clear hzz; have hO : OwnB p1 w1.heap.size _ [] := own_empty hB0.size hRr; clear hRr; have hB1 := hB0.trans (hBB.mono hB0.size); clear hB0 hBB; go_frame)
          | ((with_reducible change wpList _ _ _ (Oper.mk (some 8) _ _ _ _ _ :: _) _ _); refine kDeed0 _ _ rfl rfl rfl ?_; go_frame)
          | ((with_reducible change wpList _ _ _ (Oper.mk (some 9) _ _ _ _ _ :: _) _ _); refine kLoadK _ _ _ (hR.below hB1) rfl rfl rfl ?_; rw [hk]; go_frame)
          | ((with_reducible change wpList _ _ _ (Oper.mk (some 13) _ _ _ _ _ :: _) _ _); refine kLenN _ _ _ vr _ m rfl rfl rfl (hr.below hB1) (by rw [List.length_map, hm]) Tryd.underlying22 ?_; go_frame)
          | ((with_reducible change wpList _ _ _ (Oper.mk (some 14) _ _ _ _ _ :: _) _ _); refine kGtrI _ _ _ _ .i64 (m : Int) 0 true rfl rfl rfl rfl hm0 ?_; go_frame)
          | ((with_reducible change wpList _ _ _ (Oper.mk (some 17) _ _ _ _ _ :: _) _ _); refine kIndexAddrV _ _ _ _ .i64 vr _ 0 0 (VB c) rfl rfl rfl (hr.below hB1) rfl Tryd.underlying22 info_b8P rfl rfl ?_; intro b hb; go_frame)
          | ((with_reducible change wpList _ _ _ (Oper.mk (some 18) _ _ _ _ _ :: _) _ _); refine kLoadCell _ _ b (VB c) _ rfl rfl rfl hb Tryd.underlying5 rfl ?_; clear hb; go_frame)
          | ((with_reducible change wpList _ _ _ (Oper.mk (some 19) _ _ _ _ _ :: _) _ _); refine kEqlI _ _ _ _ .u8 (B c) 81 false rfl rfl rfl rfl h81 ?_; go_frame)
          | ((with_reducible change wpList _ _ _ (Oper.mk (some 22) _ _ _ _ _ :: _) _ _); refine kIndexAddrV _ _ _ _ .i64 vr _ 0 0 (VB c) rfl rfl rfl (hr.below hB1) rfl Tryd.underlying22 info_b8P rfl rfl ?_; intro b hb; go_frame)
          | ((with_reducible change wpList _ _ _ (Oper.mk (some 23) _ _ _ _ _ :: _) _ _); refine kLoadCell _ _ b (VB c) _ rfl rfl rfl hb Tryd.underlying5 rfl ?_; clear hb; go_frame)
          | ((with_reducible change wpList _ _ _ (Oper.mk (some 24) _ _ _ _ _ :: _) _ _); refine kEqlI _ _ _ _ .u8 (B c) 82 false rfl rfl rfl rfl h82 ?_; go_frame)
          | ((with_reducible change wpList _ _ _ (Oper.mk (some 28) _ _ _ _ _ :: _) _ _); refine kIndexAddrV _ _ _ _ .i64 vr _ 0 0 (VB c) rfl rfl rfl (hr.below hB1) rfl Tryd.underlying22 info_b8P rfl rfl ?_; intro b hb; go_frame)
          | ((with_reducible change wpList _ _ _ (Oper.mk (some 29) _ _ _ _ _ :: _) _ _); refine kLoadCell _ _ b (VB c) _ rfl rfl rfl hb Tryd.underlying5 rfl ?_; clear hb; go_frame)
          | ((with_reducible change wpList _ _ _ (Oper.mk (some 30) _ _ _ _ _ :: _) _ _); refine kEqlI _ _ _ _ .u8 (B c) 83 false rfl rfl rfl rfl h83 ?_; go_frame)
          | ((with_reducible change wpList _ _ _ (Oper.mk (some 70) _ _ _ _ _ :: _) _ _); refine kLoadD _ _ _ (hR.below hB1) rfl rfl rfl ?_; go_frame)
          | (go_at_call 10; refine (e1 _).mono ?_; rintro e p2 ⟨rfl, hBB⟩; have hB2 := hB1.trans (hBB.mono hB1.size); have hO_2 := hO.below hBB; clear hO hB1 hBB; go_frame))
        (try simp only [Exit.inBlock, Exit.then])
        refine ret2 rfl rfl ?_
        exact ⟨_, rfl, ownB_nil _ _, hBw.trans (hB2.mono hBw.size)⟩
      rw [if_neg (by simp)]
      go_enter Tryd.func8, Tryd.ntmps8
      go_wp2_with (first
        | ((with_reducible change wpList _ _ _ (Oper.mk (some 2) _ _ _ _ _ :: _) _ _); refine kBoxD _ _ rfl rfl rfl ?_; intro w1 hR0 hz1 hBw; clear hz1; have hR := row_dr hR0; have hr := hr0.below hBw; have hB0 := Below.refl w1.heap.size w1; go_frame)
        | ((with_reducible change wpList _ _ _ (Oper.mk (some 7) _ _ _ _ _ :: _) _ _); refine kBuildSlice0 _ _ rfl rfl Tryd.underlying22 i hi ?_; intro p1 hRr hzz hBB; clear hzz; have hO : OwnB p1 w1.heap.size _ [] := own_empty hB0.size hRr; clear hRr; have hB1 := hB0.trans (hBB.mono hB0.size); clear hB0 hBB; go_frame)
        | ((with_reducible change wpList _ _ _ (Oper.mk (some 8) _ _ _ _ _ :: _) _ _); refine kDeed0 _ _ rfl rfl rfl ?_; go_frame)
        | ((with_reducible change wpList _ _ _ (Oper.mk (some 9) _ _ _ _ _ :: _) _ _); refine kLoadK _ _ _ (hR.below hB1) rfl rfl rfl ?_; rw [hk]; go_frame)
        | ((with_reducible change wpList _ _ _ (Oper.mk (some 13) _ _ _ _ _ :: _) _ _); refine kLenN _ _ _ vr _ m rfl rfl rfl (hr.below hB1) (by rw [List.length_map, hm]) Tryd.underlying22 ?_; go_frame)
        | ((with_reducible change wpList _ _ _ (Oper.mk (some 14) _ _ _ _ _ :: _) _ _); refine kGtrI _ _ _ _ .i64 (m : Int) 0 true rfl rfl rfl rfl hm0 ?_; go_frame)
        | ((with_reducible change wpList _ _ _ (Oper.mk (some 17) _ _ _ _ _ :: _) _ _); refine kIndexAddrV _ _ _ _ .i64 vr _ 0 0 (VB c) rfl rfl rfl (hr.below hB1) rfl Tryd.underlying22 info_b8P rfl rfl ?_; intro b hb; go_frame)
        | ((with_reducible change wpList _ _ _ (Oper.mk (some 18) _ _ _ _ _ :: _) _ _); refine kLoadCell _ _ b (VB c) _ rfl rfl rfl hb Tryd.underlying5 rfl ?_; clear hb; go_frame)
        | ((with_reducible change wpList _ _ _ (Oper.mk (some 19) _ _ _ _ _ :: _) _ _); refine kEqlI _ _ _ _ .u8 (B c) 81 false rfl rfl rfl rfl h81 ?_; go_frame)
        | ((with_reducible change wpList _ _ _ (Oper.mk (some 22) _ _ _ _ _ :: _) _ _); refine kIndexAddrV _ _ _ _ .i64 vr _ 0 0 (VB c) rfl rfl rfl (hr.below hB1) rfl Tryd.underlying22 info_b8P rfl rfl ?_; intro b hb; go_frame)
        | ((with_reducible change wpList _ _ _ (Oper.mk (some 23) _ _ _ _ _ :: _) _ _); refine kLoadCell _ _ b (VB c) _ rfl rfl rfl hb Tryd.underlying5 rfl ?_; clear hb; go_frame)
        | ((with_reducible change wpList _ _ _ (Oper.mk (some 24) _ _ _ _ _ :: _) _ _); refine kEqlI _ _ _ _ .u8 (B c) 82 false rfl rfl rfl rfl h82 ?_; go_frame)
        | ((with_reducible change wpList _ _ _ (Oper.mk (some 28) _ _ _ _ _ :: _) _ _); refine kIndexAddrV _ _ _ _ .i64 vr _ 0 0 (VB c) rfl rfl rfl (hr.below hB1) rfl Tryd.underlying22 info_b8P rfl rfl ?_; intro b hb; go_frame)
        | ((with_reducible change wpList _ _ _ (Oper.mk (some 29) _ _ _ _ _ :: _) _ _); refine kLoadCell _ _ b (VB c) _ rfl rfl rfl hb Tryd.underlying5 rfl ?_; clear hb; go_frame)
        | ((with_reducible change wpList _ _ _ (Oper.mk (some 30) _ _ _ _ _ :: _) _ _); refine kEqlI _ _ _ _ .u8 (B c) 83 false rfl rfl rfl rfl h83 ?_; go_frame)
        | ((with_reducible change wpList _ _ _ (Oper.mk (some 70) _ _ _ _ _ :: _) _ _); refine kLoadD _ _ _ (hR.below hB1) rfl rfl rfl ?_; go_frame)
        | (go_at_call 10; refine (e1 _).mono ?_; rintro e p2 ⟨rfl, hBB⟩; have hB2 := hB1.trans (hBB.mono hB1.size); have hO_2 := hO.below hBB; clear hO hB1 hBB; go_frame)
        | ((with_reducible change wpList _ _ _ (Oper.mk (some 75) _ _ _ _ _ :: _) _ _); refine kAppB _ _ rfl rfl w1.heap.size _ _ ([]) (c :: t) hO_2 (hr.below hB2) rfl rfl (by first | (simp; done) | (simp at *; omega)) hB2.size ?_; intro v75 p3 hO hBB; have hB3 := hB2.trans hBB; clear hO_2 hB2 hBB; go_frame))
      (try simp only [Exit.inBlock, Exit.then])
      refine ret2 rfl rfl ?_
      exact ⟨_, rfl, own_less hBw.size (by show OwnB _ _ _ (wordsL d ++ c :: t); rw [hw0]; exact hO), hBw.trans (hB3.mono hBw.size)⟩
  by_cases k1 : d.kind = 1
  · have hk := k1
    have hd20 : d.commit.length = 20 := hd
    have hw0 : wordsL d = [81] ++ pushesL [d.commit] ++ [109] := by simp [wordsL, hk, pushesL]
    obtain ⟨hf1, hf2, hf3⟩ := hf
    have hsm : ∀ L ∈ [d.commit], L.length ≤ 1000 := by intro L hL; simp at hL; subst hL; omega
    have hpl : (pushesL [d.commit]).length ≤ 4000 := by have := pushesL_le [d.commit] 1000 hsm; simp at this ⊢; omega
    cases b
    · rw [if_pos (.inl rfl)]
      go_enter Tryd.func8, Tryd.ntmps8
      go_wp2_with (first
        | ((with_reducible change wpList _ _ _ (Oper.mk (some 2) _ _ _ _ _ :: _) _ _); refine kBoxD _ _ rfl rfl rfl ?_; intro w1 hR0 hz1 hBw; clear hz1; have hR := row_dr hR0; have hr := hr0.below hBw; have hB0 := Below.refl w1.heap.size w1; go_frame)
        | ((with_reducible change wpList _ _ _ (Oper.mk (some 7) _ _ _ _ _ :: _) _ _); refine kBuildSlice0 _ _ rfl rfl Tryd.underlying22 i hi ?_; intro p1 hRr hzz hBB; clear hzz; have hO : OwnB p1 w1.heap.size _ [] := own_empty hB0.size hRr; clear hRr; have hB1 := hB0.trans (hBB.mono hB0.size); clear hB0 hBB; go_frame)
        | ((with_reducible change wpList _ _ _ (Oper.mk (some 8) _ _ _ _ _ :: _) _ _); refine kDeed0 _ _ rfl rfl rfl ?_; go_frame)
        | ((with_reducible change wpList _ _ _ (Oper.mk (some 9) _ _ _ _ _ :: _) _ _); refine kLoadK _ _ _ (hR.below hB1) rfl rfl rfl ?_; rw [hk]; go_frame)
        | ((with_reducible change wpList _ _ _ (Oper.mk (some 35) _ _ _ _ _ :: _) _ _); refine kBuildSlice1 _ _ _ (VB 81) rfl rfl Tryd.underlying22 i _ hi hz hs1 rfl rfl ?_; intro p2 hRr hzz hBB; clear hzz; have hP := own_lit (base := w1.heap.size) [81] hB1.size (by decide) hRr; clear hRr; have hB2 := hB1.trans (hBB.mono hB1.size); have hO_2 := hO.below hBB; clear hO hB1 hBB; go_frame)
        | ((with_reducible change wpList _ _ _ (Oper.mk (some 36) _ _ _ _ _ :: _) _ _); refine kDeed4 _ _ rfl rfl rfl ?_; go_frame)
        | ((with_reducible change wpList _ _ _ (Oper.mk (some 37) _ _ _ _ _ :: _) _ _); refine kSliceArr _ _ _ 20 _ 4 rfl rfl rfl Tryd.underlying27 info_b8P ?_; go_frame)
        | ((with_reducible change wpList _ _ _ (Oper.mk (some 38) _ _ _ _ _ :: _) _ _); refine kToString _ _ _ _ _ d.commit rfl rfl rfl (commit_vals hd (hR.below hB2)) Tryd.underlying22 Tryd.underlying5 Tryd.underlying9 ?_; go_frame)
        | ((with_reducible change wpList _ _ _ (Oper.mk (some 39) _ _ _ _ _ :: _) _ _); refine kBuildSlice1 _ _ _ (textV d.commit) rfl rfl Tryd.underlying52 is _ his hzs hss rfl rfl ?_; intro p3 hRr hzz hBB; clear hzz; have hL : IsVals p3 _ ([d.commit].map textV) := isVals_lit (l := [textV d.commit]) hRr; clear hRr; have hB3 := hB2.trans (hBB.mono hB2.size); have hO_3 := hO_2.below hBB; have hP_3 := hP.below hBB; clear hO_2 hP hB2 hBB; go_frame)
        | (go_at_call 18; refine (nPush_any _ hL (by simp) hsm).mono ?_; rintro e p4 ⟨pv, rfl, hPv, hBB⟩; clear hL; have hB4 := hB3.trans (hBB.mono hB3.size); have hO_4 := hO_3.below hBB; have hP_4 := hP_3.below hBB; clear hO_3 hP_3 hB3 hBB; go_frame)
        | ((with_reducible change wpList _ _ _ (Oper.mk (some 41) _ _ _ _ _ :: _) _ _); refine kAppB _ _ rfl rfl w1.heap.size _ _ ([81]) (pushesL [d.commit]) hP_4 hPv.vals rfl rfl (by simp; omega) hB4.size ?_; intro v41 p5 hO hBB; have hB5 := hB4.trans hBB; clear hP_4 hPv hB4 hBB; go_frame)
        | ((with_reducible change wpList _ _ _ (Oper.mk (some 42) _ _ _ _ _ :: _) _ _); refine kBuildSlice1 _ _ _ (VB 109) rfl rfl Tryd.underlying22 i _ hi hz hs1 rfl rfl ?_; intro p6 hRr hzz hBB; clear hzz; have hT := own_lit (base := w1.heap.size) [109] hB5.size (by decide) hRr; clear hRr; have hB6 := hB5.trans (hBB.mono hB5.size); have hO_6 := hO.below hBB; clear hO hB5 hBB; go_frame)
        | ((with_reducible change wpList _ _ _ (Oper.mk (some 43) _ _ _ _ _ :: _) _ _); refine kAppB _ _ rfl rfl w1.heap.size _ _ ([81] ++ pushesL [d.commit]) ([109]) hO_6 hT.vals rfl rfl (by simp; omega) hB6.size ?_; intro v43 p7 hO hBB; have hB7 := hB6.trans hBB; clear hO_6 hT hB6 hBB; go_frame)
        | ((with_reducible change wpList _ _ _ (Oper.mk (some 70) _ _ _ _ _ :: _) _ _); refine kLoadD _ _ _ (hR.below hB7) rfl rfl rfl ?_; go_frame)
        | (go_at_call 10; refine (e1 _).mono ?_; rintro e p8 ⟨rfl, hBB⟩; have hB8 := hB7.trans (hBB.mono hB7.size); have hO_8 := hO.below hBB; clear hO hB7 hBB; go_frame))
      (try simp only [Exit.inBlock, Exit.then])
      refine ret2 rfl rfl ?_
      exact ⟨_, rfl, ownB_nil _ _, hBw.trans (hB8.mono hBw.size)⟩
    rw [if_neg (by simp [hk])]
    go_enter Tryd.func8, Tryd.ntmps8
    go_wp2_with (first
      | ((with_reducible change wpList _ _ _ (Oper.mk (some 2) _ _ _ _ _ :: _) _ _); refine kBoxD _ _ rfl rfl rfl ?_; intro w1 hR0 hz1 hBw; clear hz1; have hR := row_dr hR0; have hr := hr0.below hBw; have hB0 := Below.refl w1.heap.size w1; go_frame)
      | ((with_reducible change wpList _ _ _ (Oper.mk (some 7) _ _ _ _ _ :: _) _ _); refine kBuildSlice0 _ _ rfl rfl Tryd.underlying22 i hi ?_; intro p1 hRr hzz hBB; clear hzz; have hO : OwnB p1 w1.heap.size _ [] := own_empty hB0.size hRr; clear hRr; have hB1 := hB0.trans (hBB.mono hB0.size); clear hB0 hBB; go_frame)
      | ((with_reducible change wpList _ _ _ (Oper.mk (some 8) _ _ _ _ _ :: _) _ _); refine kDeed0 _ _ rfl rfl rfl ?_; go_frame)
      | ((with_reducible change wpList _ _ _ (Oper.mk (some 9) _ _ _ _ _ :: _) _ _); refine kLoadK _ _ _ (hR.below hB1) rfl rfl rfl ?_; rw [hk]; go_frame)
      | ((with_reducible change wpList _ _ _ (Oper.mk (some 35) _ _ _ _ _ :: _) _ _); refine kBuildSlice1 _ _ _ (VB 81) rfl rfl Tryd.underlying22 i _ hi hz hs1 rfl rfl ?_; intro p2 hRr hzz hBB; clear hzz; have hP := own_lit (base := w1.heap.size) [81] hB1.size (by decide) hRr; clear hRr; have hB2 := hB1.trans (hBB.mono hB1.size); have hO_2 := hO.below hBB; clear hO hB1 hBB; go_frame)
      | ((with_reducible change wpList _ _ _ (Oper.mk (some 36) _ _ _ _ _ :: _) _ _); refine kDeed4 _ _ rfl rfl rfl ?_; go_frame)
      | ((with_reducible change wpList _ _ _ (Oper.mk (some 37) _ _ _ _ _ :: _) _ _); refine kSliceArr _ _ _ 20 _ 4 rfl rfl rfl Tryd.underlying27 info_b8P ?_; go_frame)
      | ((with_reducible change wpList _ _ _ (Oper.mk (some 38) _ _ _ _ _ :: _) _ _); refine kToString _ _ _ _ _ d.commit rfl rfl rfl (commit_vals hd (hR.below hB2)) Tryd.underlying22 Tryd.underlying5 Tryd.underlying9 ?_; go_frame)
      | ((with_reducible change wpList _ _ _ (Oper.mk (some 39) _ _ _ _ _ :: _) _ _); refine kBuildSlice1 _ _ _ (textV d.commit) rfl rfl Tryd.underlying52 is _ his hzs hss rfl rfl ?_; intro p3 hRr hzz hBB; clear hzz; have hL : IsVals p3 _ ([d.commit].map textV) := isVals_lit (l := [textV d.commit]) hRr; clear hRr; have hB3 := hB2.trans (hBB.mono hB2.size); have hO_3 := hO_2.below hBB; have hP_3 := hP.below hBB; clear hO_2 hP hB2 hBB; go_frame)
      | (go_at_call 18; refine (nPush_any _ hL (by simp) hsm).mono ?_; rintro e p4 ⟨pv, rfl, hPv, hBB⟩; clear hL; have hB4 := hB3.trans (hBB.mono hB3.size); have hO_4 := hO_3.below hBB; have hP_4 := hP_3.below hBB; clear hO_3 hP_3 hB3 hBB; go_frame)
      | ((with_reducible change wpList _ _ _ (Oper.mk (some 41) _ _ _ _ _ :: _) _ _); refine kAppB _ _ rfl rfl w1.heap.size _ _ ([81]) (pushesL [d.commit]) hP_4 hPv.vals rfl rfl (by simp; omega) hB4.size ?_; intro v41 p5 hO hBB; have hB5 := hB4.trans hBB; clear hP_4 hPv hB4 hBB; go_frame)
      | ((with_reducible change wpList _ _ _ (Oper.mk (some 42) _ _ _ _ _ :: _) _ _); refine kBuildSlice1 _ _ _ (VB 109) rfl rfl Tryd.underlying22 i _ hi hz hs1 rfl rfl ?_; intro p6 hRr hzz hBB; clear hzz; have hT := own_lit (base := w1.heap.size) [109] hB5.size (by decide) hRr; clear hRr; have hB6 := hB5.trans (hBB.mono hB5.size); have hO_6 := hO.below hBB; clear hO hB5 hBB; go_frame)
      | ((with_reducible change wpList _ _ _ (Oper.mk (some 43) _ _ _ _ _ :: _) _ _); refine kAppB _ _ rfl rfl w1.heap.size _ _ ([81] ++ pushesL [d.commit]) ([109]) hO_6 hT.vals rfl rfl (by simp; omega) hB6.size ?_; intro v43 p7 hO hBB; have hB7 := hB6.trans hBB; clear hO_6 hT hB6 hBB; go_frame)
      | ((with_reducible change wpList _ _ _ (Oper.mk (some 70) _ _ _ _ _ :: _) _ _); refine kLoadD _ _ _ (hR.below hB7) rfl rfl rfl ?_; go_frame)
      | (go_at_call 10; refine (e1 _).mono ?_; rintro e p8 ⟨rfl, hBB⟩; have hB8 := hB7.trans (hBB.mono hB7.size); have hO_8 := hO.below hBB; clear hO hB7 hBB; go_frame)
      | ((with_reducible change wpList _ _ _ (Oper.mk (some 75) _ _ _ _ _ :: _) _ _); refine kAppB _ _ rfl rfl w1.heap.size _ _ ([81] ++ pushesL [d.commit] ++ [109]) (r) hO_8 (hr.below hB8) rfl rfl (by first | (simp; done) | (simp at *; omega)) hB8.size ?_; intro v75 p9 hO hBB; have hB9 := hB8.trans hBB; clear hO_8 hB8 hBB; go_frame))
    (try simp only [Exit.inBlock, Exit.then])
    refine ret2 rfl rfl ?_
    exact ⟨_, rfl, own_less hBw.size (by show OwnB _ _ _ (wordsL d ++ r); rw [hw0]; exact hO), hBw.trans (hB9.mono hBw.size)⟩
  by_cases k2 : d.kind = 2
  · have hk := k2
    have hd20 : d.commit.length = 20 := hd
    have hw0 : wordsL d = [82] ++ pushesL [d.name, d.rand, d.value] ++ [109, 109] := by simp [wordsL, hk, pushesL]
    obtain ⟨hf1, hf2, hf3⟩ := hf
    have hsm : ∀ L ∈ [d.name, d.rand, d.value], L.length ≤ 1000 := by intro L hL; simp at hL; rcases hL with rfl | rfl | rfl <;> omega
    have hpl : (pushesL [d.name, d.rand, d.value]).length ≤ 4000 := by have := pushesL_le [d.name, d.rand, d.value] 1000 hsm; simp at this ⊢; omega
    cases b
    · rw [if_pos (.inl rfl)]
      go_enter Tryd.func8, Tryd.ntmps8
      go_wp2_with (first
        | ((with_reducible change wpList _ _ _ (Oper.mk (some 2) _ _ _ _ _ :: _) _ _); refine kBoxD _ _ rfl rfl rfl ?_; intro w1 hR0 hz1 hBw; clear hz1; have hR := row_dr hR0; have hr := hr0.below hBw; have hB0 := Below.refl w1.heap.size w1; go_frame)
        | ((with_reducible change wpList _ _ _ (Oper.mk (some 7) _ _ _ _ _ :: _) _ _); refine kBuildSlice0 _ _ rfl rfl Tryd.underlying22 i hi ?_; intro p1 hRr hzz hBB; clear hzz; have hO : OwnB p1 w1.heap.size _ [] := own_empty hB0.size hRr; clear hRr; have hB1 := hB0.trans (hBB.mono hB0.size); clear hB0 hBB; go_frame)
        | ((with_reducible change wpList _ _ _ (Oper.mk (some 8) _ _ _ _ _ :: _) _ _); refine kDeed0 _ _ rfl rfl rfl ?_; go_frame)
        | ((with_reducible change wpList _ _ _ (Oper.mk (some 9) _ _ _ _ _ :: _) _ _); refine kLoadK _ _ _ (hR.below hB1) rfl rfl rfl ?_; rw [hk]; go_frame)
        | ((with_reducible change wpList _ _ _ (Oper.mk (some 46) _ _ _ _ _ :: _) _ _); refine kBuildSlice1 _ _ _ (VB 82) rfl rfl Tryd.underlying22 i _ hi hz hs1 rfl rfl ?_; intro p2 hRr hzz hBB; clear hzz; have hP := own_lit (base := w1.heap.size) [82] hB1.size (by decide) hRr; clear hRr; have hB2 := hB1.trans (hBB.mono hB1.size); have hO_2 := hO.below hBB; clear hO hB1 hBB; go_frame)
        | ((with_reducible change wpList _ _ _ (Oper.mk (some 47) _ _ _ _ _ :: _) _ _); refine kDeed1 _ _ rfl rfl rfl ?_; go_frame)
        | ((with_reducible change wpList _ _ _ (Oper.mk (some 48) _ _ _ _ _ :: _) _ _); refine kLoadN1 _ _ _ (hR.below hB2) rfl rfl rfl ?_; go_frame)
        | ((with_reducible change wpList _ _ _ (Oper.mk (some 49) _ _ _ _ _ :: _) _ _); refine kDeed3 _ _ rfl rfl rfl ?_; go_frame)
        | ((with_reducible change wpList _ _ _ (Oper.mk (some 50) _ _ _ _ _ :: _) _ _); refine kLoadN3 _ _ _ (hR.below hB2) rfl rfl rfl ?_; go_frame)
        | ((with_reducible change wpList _ _ _ (Oper.mk (some 51) _ _ _ _ _ :: _) _ _); refine kDeed2 _ _ rfl rfl rfl ?_; go_frame)
        | ((with_reducible change wpList _ _ _ (Oper.mk (some 52) _ _ _ _ _ :: _) _ _); refine kLoadN2 _ _ _ (hR.below hB2) rfl rfl rfl ?_; go_frame)
        | ((with_reducible change wpList _ _ _ (Oper.mk (some 53) _ _ _ _ _ :: _) _ _); refine kBuildSlice3 _ _ _ _ _ (textV d.name) (textV d.rand) (textV d.value) rfl rfl Tryd.underlying52 is _ his hzs hss rfl rfl rfl rfl rfl rfl ?_; intro p3 hRr hzz hBB; clear hzz; have hL : IsVals p3 _ ([d.name, d.rand, d.value].map textV) := isVals_lit (l := [textV d.name, textV d.rand, textV d.value]) hRr; clear hRr; have hB3 := hB2.trans (hBB.mono hB2.size); have hO_3 := hO_2.below hBB; have hP_3 := hP.below hBB; clear hO_2 hP hB2 hBB; go_frame)
        | (go_at_call 18; refine (nPush_any _ hL (by simp) hsm).mono ?_; rintro e p4 ⟨pv, rfl, hPv, hBB⟩; clear hL; have hB4 := hB3.trans (hBB.mono hB3.size); have hO_4 := hO_3.below hBB; have hP_4 := hP_3.below hBB; clear hO_3 hP_3 hB3 hBB; go_frame)
        | ((with_reducible change wpList _ _ _ (Oper.mk (some 55) _ _ _ _ _ :: _) _ _); refine kAppB _ _ rfl rfl w1.heap.size _ _ ([82]) (pushesL [d.name, d.rand, d.value]) hP_4 hPv.vals rfl rfl (by simp; omega) hB4.size ?_; intro v55 p5 hO hBB; have hB5 := hB4.trans hBB; clear hP_4 hPv hB4 hBB; go_frame)
        | ((with_reducible change wpList _ _ _ (Oper.mk (some 56) _ _ _ _ _ :: _) _ _); refine kBuildSlice2 _ _ _ _ (VB 109) (VB 109) rfl rfl Tryd.underlying22 i _ hi hz hs1 rfl rfl rfl rfl ?_; intro p6 hRr hzz hBB; clear hzz; have hT := own_lit (base := w1.heap.size) [109, 109] hB5.size (by decide) hRr; clear hRr; have hB6 := hB5.trans (hBB.mono hB5.size); have hO_6 := hO.below hBB; clear hO hB5 hBB; go_frame)
        | ((with_reducible change wpList _ _ _ (Oper.mk (some 57) _ _ _ _ _ :: _) _ _); refine kAppB _ _ rfl rfl w1.heap.size _ _ ([82] ++ pushesL [d.name, d.rand, d.value]) ([109, 109]) hO_6 hT.vals rfl rfl (by simp; omega) hB6.size ?_; intro v57 p7 hO hBB; have hB7 := hB6.trans hBB; clear hO_6 hT hB6 hBB; go_frame)
        | ((with_reducible change wpList _ _ _ (Oper.mk (some 70) _ _ _ _ _ :: _) _ _); refine kLoadD _ _ _ (hR.below hB7) rfl rfl rfl ?_; go_frame)
        | (go_at_call 10; refine (e1 _).mono ?_; rintro e p8 ⟨rfl, hBB⟩; have hB8 := hB7.trans (hBB.mono hB7.size); have hO_8 := hO.below hBB; clear hO hB7 hBB; go_frame))
      (try simp only [Exit.inBlock, Exit.then])
      refine ret2 rfl rfl ?_
      exact ⟨_, rfl, ownB_nil _ _, hBw.trans (hB8.mono hBw.size)⟩
    rw [if_neg (by simp [hk])]
    go_enter Tryd.func8, Tryd.ntmps8
    go_wp2_with (first
      | ((with_reducible change wpList _ _ _ (Oper.mk (some 2) _ _ _ _ _ :: _) _ _); refine kBoxD _ _ rfl rfl rfl ?_; intro w1 hR0 hz1 hBw; clear hz1; have hR := row_dr hR0; have hr := hr0.below hBw; have hB0 := Below.refl w1.heap.size w1; go_frame)
      | ((with_reducible change wpList _ _ _ (Oper.mk (some 7) _ _ _ _ _ :: _) _ _); refine kBuildSlice0 _ _ rfl rfl Tryd.underlying22 i hi ?_; intro p1 hRr hzz hBB; clear hzz; have hO : OwnB p1 w1.heap.size _ [] := own_empty hB0.size hRr; clear hRr; have hB1 := hB0.trans (hBB.mono hB0.size); clear hB0 hBB; go_frame)
      | ((with_reducible change wpList _ _ _ (Oper.mk (some 8) _ _ _ _ _ :: _) _ _); refine kDeed0 _ _ rfl rfl rfl ?_; go_frame)
      | ((with_reducible change wpList _ _ _ (Oper.mk (some 9) _ _ _ _ _ :: _) _ _); refine kLoadK _ _ _ (hR.below hB1) rfl rfl rfl ?_; rw [hk]; go_frame)
      | ((with_reducible change wpList _ _ _ (Oper.mk (some 46) _ _ _ _ _ :: _) _ _); refine kBuildSlice1 _ _ _ (VB 82) rfl rfl Tryd.underlying22 i _ hi hz hs1 rfl rfl ?_; intro p2 hRr hzz hBB; clear hzz; have hP := own_lit (base := w1.heap.size) [82] hB1.size (by decide) hRr; clear hRr; have hB2 := hB1.trans (hBB.mono hB1.size); have hO_2 := hO.below hBB; clear hO hB1 hBB; go_frame)
      | ((with_reducible change wpList _ _ _ (Oper.mk (some 47) _ _ _ _ _ :: _) _ _); refine kDeed1 _ _ rfl rfl rfl ?_; go_frame)
      | ((with_reducible change wpList _ _ _ (Oper.mk (some 48) _ _ _ _ _ :: _) _ _); refine kLoadN1 _ _ _ (hR.below hB2) rfl rfl rfl ?_; go_frame)
      | ((with_reducible change wpList _ _ _ (Oper.mk (some 49) _ _ _ _ _ :: _) _ _); refine kDeed3 _ _ rfl rfl rfl ?_; go_frame)
      | ((with_reducible change wpList _ _ _ (Oper.mk (some 50) _ _ _ _ _ :: _) _ _); refine kLoadN3 _ _ _ (hR.below hB2) rfl rfl rfl ?_; go_frame)
      | ((with_reducible change wpList _ _ _ (Oper.mk (some 51) _ _ _ _ _ :: _) _ _); refine kDeed2 _ _ rfl rfl rfl ?_; go_frame)
      | ((with_reducible change wpList _ _ _ (Oper.mk (some 52) _ _ _ _ _ :: _) _ _); refine kLoadN2 _ _ _ (hR.below hB2) rfl rfl rfl ?_; go_frame)
      | ((with_reducible change wpList _ _ _ (Oper.mk (some 53) _ _ _ _ _ :: _) _ _); refine kBuildSlice3 _ _ _ _ _ (textV d.name) (textV d.rand) (textV d.value) rfl rfl Tryd.underlying52 is _ his hzs hss rfl rfl rfl rfl rfl rfl ?_; intro p3 hRr hzz hBB; clear hzz; have hL : IsVals p3 _ ([d.name, d.rand, d.value].map textV) := isVals_lit (l := [textV d.name, textV d.rand, textV d.value]) hRr; clear hRr; have hB3 := hB2.trans (hBB.mono hB2.size); have hO_3 := hO_2.below hBB; have hP_3 := hP.below hBB; clear hO_2 hP hB2 hBB; go_frame)
      | (go_at_call 18; refine (nPush_any _ hL (by simp) hsm).mono ?_; rintro e p4 ⟨pv, rfl, hPv, hBB⟩; clear hL; have hB4 := hB3.trans (hBB.mono hB3.size); have hO_4 := hO_3.below hBB; have hP_4 := hP_3.below hBB; clear hO_3 hP_3 hB3 hBB; go_frame)
      | ((with_reducible change wpList _ _ _ (Oper.mk (some 55) _ _ _ _ _ :: _) _ _); refine kAppB _ _ rfl rfl w1.heap.size _ _ ([82]) (pushesL [d.name, d.rand, d.value]) hP_4 hPv.vals rfl rfl (by simp; omega) hB4.size ?_; intro v55 p5 hO hBB; have hB5 := hB4.trans hBB; clear hP_4 hPv hB4 hBB; go_frame)
      | ((with_reducible change wpList _ _ _ (Oper.mk (some 56) _ _ _ _ _ :: _) _ _); refine kBuildSlice2 _ _ _ _ (VB 109) (VB 109) rfl rfl Tryd.underlying22 i _ hi hz hs1 rfl rfl rfl rfl ?_; intro p6 hRr hzz hBB; clear hzz; have hT := own_lit (base := w1.heap.size) [109, 109] hB5.size (by decide) hRr; clear hRr; have hB6 := hB5.trans (hBB.mono hB5.size); have hO_6 := hO.below hBB; clear hO hB5 hBB; go_frame)
      | ((with_reducible change wpList _ _ _ (Oper.mk (some 57) _ _ _ _ _ :: _) _ _); refine kAppB _ _ rfl rfl w1.heap.size _ _ ([82] ++ pushesL [d.name, d.rand, d.value]) ([109, 109]) hO_6 hT.vals rfl rfl (by simp; omega) hB6.size ?_; intro v57 p7 hO hBB; have hB7 := hB6.trans hBB; clear hO_6 hT hB6 hBB; go_frame)
      | ((with_reducible change wpList _ _ _ (Oper.mk (some 70) _ _ _ _ _ :: _) _ _); refine kLoadD _ _ _ (hR.below hB7) rfl rfl rfl ?_; go_frame)
      | (go_at_call 10; refine (e1 _).mono ?_; rintro e p8 ⟨rfl, hBB⟩; have hB8 := hB7.trans (hBB.mono hB7.size); have hO_8 := hO.below hBB; clear hO hB7 hBB; go_frame)
      | ((with_reducible change wpList _ _ _ (Oper.mk (some 75) _ _ _ _ _ :: _) _ _); refine kAppB _ _ rfl rfl w1.heap.size _ _ ([82] ++ pushesL [d.name, d.rand, d.value] ++ [109, 109]) (r) hO_8 (hr.below hB8) rfl rfl (by first | (simp; done) | (simp at *; omega)) hB8.size ?_; intro v75 p9 hO hBB; have hB9 := hB8.trans hBB; clear hO_8 hB8 hBB; go_frame))
    (try simp only [Exit.inBlock, Exit.then])
    refine ret2 rfl rfl ?_
    exact ⟨_, rfl, own_less hBw.size (by show OwnB _ _ _ (wordsL d ++ r); rw [hw0]; exact hO), hBw.trans (hB9.mono hBw.size)⟩
  by_cases k3 : d.kind = 3
  · have hk := k3
    have hd20 : d.commit.length = 20 := hd
    have hw0 : wordsL d = [83] ++ pushesL [d.name, d.value] ++ [109, 117] := by simp [wordsL, hk, pushesL]
    obtain ⟨hf1, hf2, hf3⟩ := hf
    have hsm : ∀ L ∈ [d.name, d.value], L.length ≤ 1000 := by intro L hL; simp at hL; rcases hL with rfl | rfl <;> omega
    have hpl : (pushesL [d.name, d.value]).length ≤ 4000 := by have := pushesL_le [d.name, d.value] 1000 hsm; simp at this ⊢; omega
    cases b
    · rw [if_pos (.inl rfl)]
      go_enter Tryd.func8, Tryd.ntmps8
      go_wp2_with (first
        | ((with_reducible change wpList _ _ _ (Oper.mk (some 2) _ _ _ _ _ :: _) _ _); refine kBoxD _ _ rfl rfl rfl ?_; intro w1 hR0 hz1 hBw; clear hz1; have hR := row_dr hR0; have hr := hr0.below hBw; have hB0 := Below.refl w1.heap.size w1; go_frame)
        | ((with_reducible change wpList _ _ _ (Oper.mk (some 7) _ _ _ _ _ :: _) _ _); refine kBuildSlice0 _ _ rfl rfl Tryd.underlying22 i hi ?_; intro p1 hRr hzz hBB; clear hzz; have hO : OwnB p1 w1.heap.size _ [] := own_empty hB0.size hRr; clear hRr; have hB1 := hB0.trans (hBB.mono hB0.size); clear hB0 hBB; go_frame)
        | ((with_reducible change wpList _ _ _ (Oper.mk (some 8) _ _ _ _ _ :: _) _ _); refine kDeed0 _ _ rfl rfl rfl ?_; go_frame)
        | ((with_reducible change wpList _ _ _ (Oper.mk (some 9) _ _ _ _ _ :: _) _ _); refine kLoadK _ _ _ (hR.below hB1) rfl rfl rfl ?_; rw [hk]; go_frame)
        | ((with_reducible change wpList _ _ _ (Oper.mk (some 60) _ _ _ _ _ :: _) _ _); refine kBuildSlice1 _ _ _ (VB 83) rfl rfl Tryd.underlying22 i _ hi hz hs1 rfl rfl ?_; intro p2 hRr hzz hBB; clear hzz; have hP := own_lit (base := w1.heap.size) [83] hB1.size (by decide) hRr; clear hRr; have hB2 := hB1.trans (hBB.mono hB1.size); have hO_2 := hO.below hBB; clear hO hB1 hBB; go_frame)
        | ((with_reducible change wpList _ _ _ (Oper.mk (some 61) _ _ _ _ _ :: _) _ _); refine kDeed1 _ _ rfl rfl rfl ?_; go_frame)
        | ((with_reducible change wpList _ _ _ (Oper.mk (some 62) _ _ _ _ _ :: _) _ _); refine kLoadN1 _ _ _ (hR.below hB2) rfl rfl rfl ?_; go_frame)
        | ((with_reducible change wpList _ _ _ (Oper.mk (some 63) _ _ _ _ _ :: _) _ _); refine kDeed2 _ _ rfl rfl rfl ?_; go_frame)
        | ((with_reducible change wpList _ _ _ (Oper.mk (some 64) _ _ _ _ _ :: _) _ _); refine kLoadN2 _ _ _ (hR.below hB2) rfl rfl rfl ?_; go_frame)
        | ((with_reducible change wpList _ _ _ (Oper.mk (some 65) _ _ _ _ _ :: _) _ _); refine kBuildSlice2 _ _ _ _ (textV d.name) (textV d.value) rfl rfl Tryd.underlying52 is _ his hzs hss rfl rfl rfl rfl ?_; intro p3 hRr hzz hBB; clear hzz; have hL : IsVals p3 _ ([d.name, d.value].map textV) := isVals_lit (l := [textV d.name, textV d.value]) hRr; clear hRr; have hB3 := hB2.trans (hBB.mono hB2.size); have hO_3 := hO_2.below hBB; have hP_3 := hP.below hBB; clear hO_2 hP hB2 hBB; go_frame)
        | (go_at_call 18; refine (nPush_any _ hL (by simp) hsm).mono ?_; rintro e p4 ⟨pv, rfl, hPv, hBB⟩; clear hL; have hB4 := hB3.trans (hBB.mono hB3.size); have hO_4 := hO_3.below hBB; have hP_4 := hP_3.below hBB; clear hO_3 hP_3 hB3 hBB; go_frame)
        | ((with_reducible change wpList _ _ _ (Oper.mk (some 67) _ _ _ _ _ :: _) _ _); refine kAppB _ _ rfl rfl w1.heap.size _ _ ([83]) (pushesL [d.name, d.value]) hP_4 hPv.vals rfl rfl (by simp; omega) hB4.size ?_; intro v67 p5 hO hBB; have hB5 := hB4.trans hBB; clear hP_4 hPv hB4 hBB; go_frame)
        | ((with_reducible change wpList _ _ _ (Oper.mk (some 68) _ _ _ _ _ :: _) _ _); refine kBuildSlice2 _ _ _ _ (VB 109) (VB 117) rfl rfl Tryd.underlying22 i _ hi hz hs1 rfl rfl rfl rfl ?_; intro p6 hRr hzz hBB; clear hzz; have hT := own_lit (base := w1.heap.size) [109, 117] hB5.size (by decide) hRr; clear hRr; have hB6 := hB5.trans (hBB.mono hB5.size); have hO_6 := hO.below hBB; clear hO hB5 hBB; go_frame)
        | ((with_reducible change wpList _ _ _ (Oper.mk (some 69) _ _ _ _ _ :: _) _ _); refine kAppB _ _ rfl rfl w1.heap.size _ _ ([83] ++ pushesL [d.name, d.value]) ([109, 117]) hO_6 hT.vals rfl rfl (by simp; omega) hB6.size ?_; intro v69 p7 hO hBB; have hB7 := hB6.trans hBB; clear hO_6 hT hB6 hBB; go_frame)
        | ((with_reducible change wpList _ _ _ (Oper.mk (some 70) _ _ _ _ _ :: _) _ _); refine kLoadD _ _ _ (hR.below hB7) rfl rfl rfl ?_; go_frame)
        | (go_at_call 10; refine (e1 _).mono ?_; rintro e p8 ⟨rfl, hBB⟩; have hB8 := hB7.trans (hBB.mono hB7.size); have hO_8 := hO.below hBB; clear hO hB7 hBB; go_frame))
      (try simp only [Exit.inBlock, Exit.then])
      refine ret2 rfl rfl ?_
      exact ⟨_, rfl, ownB_nil _ _, hBw.trans (hB8.mono hBw.size)⟩
    rw [if_neg (by simp [hk])]
    go_enter Tryd.func8, Tryd.ntmps8
    go_wp2_with (first
      | ((with_reducible change wpList _ _ _ (Oper.mk (some 2) _ _ _ _ _ :: _) _ _); refine kBoxD _ _ rfl rfl rfl ?_; intro w1 hR0 hz1 hBw; clear hz1; have hR := row_dr hR0; have hr := hr0.below hBw; have hB0 := Below.refl w1.heap.size w1; go_frame)
      | ((with_reducible change wpList _ _ _ (Oper.mk (some 7) _ _ _ _ _ :: _) _ _); refine kBuildSlice0 _ _ rfl rfl Tryd.underlying22 i hi ?_; intro p1 hRr hzz hBB; clear hzz; have hO : OwnB p1 w1.heap.size _ [] := own_empty hB0.size hRr; clear hRr; have hB1 := hB0.trans (hBB.mono hB0.size); clear hB0 hBB; go_frame)
      | ((with_reducible change wpList _ _ _ (Oper.mk (some 8) _ _ _ _ _ :: _) _ _); refine kDeed0 _ _ rfl rfl rfl ?_; go_frame)
      | ((with_reducible change wpList _ _ _ (Oper.mk (some 9) _ _ _ _ _ :: _) _ _); refine kLoadK _ _ _ (hR.below hB1) rfl rfl rfl ?_; rw [hk]; go_frame)
      | ((with_reducible change wpList _ _ _ (Oper.mk (some 60) _ _ _ _ _ :: _) _ _); refine kBuildSlice1 _ _ _ (VB 83) rfl rfl Tryd.underlying22 i _ hi hz hs1 rfl rfl ?_; intro p2 hRr hzz hBB; clear hzz; have hP := own_lit (base := w1.heap.size) [83] hB1.size (by decide) hRr; clear hRr; have hB2 := hB1.trans (hBB.mono hB1.size); have hO_2 := hO.below hBB; clear hO hB1 hBB; go_frame)
      | ((with_reducible change wpList _ _ _ (Oper.mk (some 61) _ _ _ _ _ :: _) _ _); refine kDeed1 _ _ rfl rfl rfl ?_; go_frame)
      | ((with_reducible change wpList _ _ _ (Oper.mk (some 62) _ _ _ _ _ :: _) _ _); refine kLoadN1 _ _ _ (hR.below hB2) rfl rfl rfl ?_; go_frame)
      | ((with_reducible change wpList _ _ _ (Oper.mk (some 63) _ _ _ _ _ :: _) _ _); refine kDeed2 _ _ rfl rfl rfl ?_; go_frame)
      | ((with_reducible change wpList _ _ _ (Oper.mk (some 64) _ _ _ _ _ :: _) _ _); refine kLoadN2 _ _ _ (hR.below hB2) rfl rfl rfl ?_; go_frame)
      | ((with_reducible change wpList _ _ _ (Oper.mk (some 65) _ _ _ _ _ :: _) _ _); refine kBuildSlice2 _ _ _ _ (textV d.name) (textV d.value) rfl rfl Tryd.underlying52 is _ his hzs hss rfl rfl rfl rfl ?_; intro p3 hRr hzz hBB; clear hzz; have hL : IsVals p3 _ ([d.name, d.value].map textV) := isVals_lit (l := [textV d.name, textV d.value]) hRr; clear hRr; have hB3 := hB2.trans (hBB.mono hB2.size); have hO_3 := hO_2.below hBB; have hP_3 := hP.below hBB; clear hO_2 hP hB2 hBB; go_frame)
      | (go_at_call 18; refine (nPush_any _ hL (by simp) hsm).mono ?_; rintro e p4 ⟨pv, rfl, hPv, hBB⟩; clear hL; have hB4 := hB3.trans (hBB.mono hB3.size); have hO_4 := hO_3.below hBB; have hP_4 := hP_3.below hBB; clear hO_3 hP_3 hB3 hBB; go_frame)
      | ((with_reducible change wpList _ _ _ (Oper.mk (some 67) _ _ _ _ _ :: _) _ _); refine kAppB _ _ rfl rfl w1.heap.size _ _ ([83]) (pushesL [d.name, d.value]) hP_4 hPv.vals rfl rfl (by simp; omega) hB4.size ?_; intro v67 p5 hO hBB; have hB5 := hB4.trans hBB; clear hP_4 hPv hB4 hBB; go_frame)
      | ((with_reducible change wpList _ _ _ (Oper.mk (some 68) _ _ _ _ _ :: _) _ _); refine kBuildSlice2 _ _ _ _ (VB 109) (VB 117) rfl rfl Tryd.underlying22 i _ hi hz hs1 rfl rfl rfl rfl ?_; intro p6 hRr hzz hBB; clear hzz; have hT := own_lit (base := w1.heap.size) [109, 117] hB5.size (by decide) hRr; clear hRr; have hB6 := hB5.trans (hBB.mono hB5.size); have hO_6 := hO.below hBB; clear hO hB5 hBB; go_frame)
      | ((with_reducible change wpList _ _ _ (Oper.mk (some 69) _ _ _ _ _ :: _) _ _); refine kAppB _ _ rfl rfl w1.heap.size _ _ ([83] ++ pushesL [d.name, d.value]) ([109, 117]) hO_6 hT.vals rfl rfl (by simp; omega) hB6.size ?_; intro v69 p7 hO hBB; have hB7 := hB6.trans hBB; clear hO_6 hT hB6 hBB; go_frame)
      | ((with_reducible change wpList _ _ _ (Oper.mk (some 70) _ _ _ _ _ :: _) _ _); refine kLoadD _ _ _ (hR.below hB7) rfl rfl rfl ?_; go_frame)
      | (go_at_call 10; refine (e1 _).mono ?_; rintro e p8 ⟨rfl, hBB⟩; have hB8 := hB7.trans (hBB.mono hB7.size); have hO_8 := hO.below hBB; clear hO hB7 hBB; go_frame)
      | ((with_reducible change wpList _ _ _ (Oper.mk (some 75) _ _ _ _ _ :: _) _ _); refine kAppB _ _ rfl rfl w1.heap.size _ _ ([83] ++ pushesL [d.name, d.value] ++ [109, 117]) (r) hO_8 (hr.below hB8) rfl rfl (by first | (simp; done) | (simp at *; omega)) hB8.size ?_; intro v75 p9 hO hBB; have hB9 := hB8.trans hBB; clear hO_8 hB8 hBB; go_frame))
    (try simp only [Exit.inBlock, Exit.then])
    refine ret2 rfl rfl ?_
    exact ⟨_, rfl, own_less hBw.size (by show OwnB _ _ _ (wordsL d ++ r); rw [hw0]; exact hO), hBw.trans (hB9.mono hBw.size)⟩
  have g0 : decide (d.kind = 0) = false := by simp [k0]
  have g1 : decide (d.kind = 1) = false := by simp [k1]
  have g2 : decide (d.kind = 2) = false := by simp [k2]
  have g3 : decide (d.kind = 3) = false := by simp [k3]
  have hbf : b = false := by rw [← hb]; exact right_x k0 k1 k2 k3
  subst hbf
  rw [if_pos (.inl rfl)]
  go_enter Tryd.func8, Tryd.ntmps8
  go_wp2_with (first
    | ((with_reducible change wpList _ _ _ (Oper.mk (some 2) _ _ _ _ _ :: _) _ _); refine kBoxD _ _ rfl rfl rfl ?_; intro w1 hR0 hz1 hBw; clear hz1; have hR := row_dr hR0; have hr := hr0.below hBw; have hB0 := Below.refl w1.heap.size w1; go_frame)
    | ((with_reducible change wpList _ _ _ (Oper.mk (some 7) _ _ _ _ _ :: _) _ _); refine kBuildSlice0 _ _ rfl rfl Tryd.underlying22 i hi ?_; intro p1 hRr hzz hBB; clear hzz; have hO : OwnB p1 w1.heap.size _ [] := own_empty hB0.size hRr; clear hRr; have hB1 := hB0.trans (hBB.mono hB0.size); clear hB0 hBB; go_frame)
    | ((with_reducible change wpList _ _ _ (Oper.mk (some 8) _ _ _ _ _ :: _) _ _); refine kDeed0 _ _ rfl rfl rfl ?_; go_frame)
    | ((with_reducible change wpList _ _ _ (Oper.mk (some 9) _ _ _ _ _ :: _) _ _); refine kLoadK _ _ _ (hR.below hB1) rfl rfl rfl ?_; go_frame)
    | ((with_reducible change wpList _ _ _ (Oper.mk (some 11) _ _ _ _ _ :: _) _ _); refine kEqlI _ _ _ _ .i64 d.kind 0 false rfl rfl rfl rfl g0 ?_; go_frame)
    | ((with_reducible change wpList _ _ _ (Oper.mk (some 34) _ _ _ _ _ :: _) _ _); refine kEqlI _ _ _ _ .i64 d.kind 1 false rfl rfl rfl rfl g1 ?_; go_frame)
    | ((with_reducible change wpList _ _ _ (Oper.mk (some 45) _ _ _ _ _ :: _) _ _); refine kEqlI _ _ _ _ .i64 d.kind 2 false rfl rfl rfl rfl g2 ?_; go_frame)
    | ((with_reducible change wpList _ _ _ (Oper.mk (some 59) _ _ _ _ _ :: _) _ _); refine kEqlI _ _ _ _ .i64 d.kind 3 false rfl rfl rfl rfl g3 ?_; go_frame)
    | ((with_reducible change wpList _ _ _ (Oper.mk (some 70) _ _ _ _ _ :: _) _ _); refine kLoadD _ _ _ (hR.below hB1) rfl rfl rfl ?_; go_frame)
    | (go_at_call 10; refine (e1 _).mono ?_; rintro e p2 ⟨rfl, hBB⟩; have hB2 := hB1.trans (hBB.mono hB1.size); have hO_2 := hO.below hBB; clear hO hB1 hBB; go_frame))
  (try simp only [Exit.inBlock, Exit.then])
  refine ret2 rfl rfl ?_
  exact ⟨_, rfl, ownB_nil _ _, hBw.trans (hB2.mono hBw.size)⟩
end Go.Proofs.YtnaclalbeocpkaaDoor
