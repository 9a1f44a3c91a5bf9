/-
  The walk of the statement SignHalf.
-/
import Derived.Test.YtfgffjmpjoipeaaDoorSgAlive
namespace Go.Proofs.YtfgffjmpjoipeaaDoor
open Go Go.RowKit

open Cv
theorem info_u16 : (Tryd.prog.info? 50).map (·.size) = some 1 := by kernel_rfl
/-- what Sign answers -/
def sgAns (a z k : Nat) : Nat × Nat × Int := match signOf a z k with
  | none => (0, 0, 51)
  | some (r, s) => (r, s, 0)
theorem sSign_ans {a z k : Nat} (ma : a < M256) (mk : k < M256) {f : Nat → Nat} (hf : ∀ i, f i < 256) (hz : zOf f = z) {r s : Nat} {e0 : Int} (h : sgAns a z k = (r, s, e0)) (w : World) (hG : Glob 3 PP w) (hO : GlobP 2 0 0 true w) (hB : GlobPt 0 gPt w) (hN : Glob 1 NN w) : Calls Tryd.prog 12 #[WV a, .agg (bcells f), WV k] w fun e w' => e = .returned (.tuple #[.agg (wcells2 r s), .int .i64 e0]) ∧ Below w.heap.size w w' := by
  unfold sgAns at h
  cases hs : signOf a z k with
  | none =>
    rw [hs] at h
    simp only [Prod.mk.injEq] at h
    obtain ⟨rfl, rfl, rfl⟩ := h
    exact sSign_none ma mk hf hz hs w hG hO hB hN
  | some q =>
    obtain ⟨x, y⟩ := q
    rw [hs] at h
    simp only [Prod.mk.injEq] at h
    obtain ⟨rfl, rfl, rfl⟩ := h
    exact sSign_some hf hz hs w hG hO hB hN
theorem ans_zero {a z k r s : Nat} {e : Int} (h : sgAns a z k = (r, s, e)) (he : e = 0) : signOf a z k = some (r, s) := by
  unfold sgAns at h
  cases hs : signOf a z k with
  | none => rw [hs] at h; simp only [Prod.mk.injEq] at h; omega
  | some q =>
    obtain ⟨x, y⟩ := q
    rw [hs] at h
    simp only [Prod.mk.injEq] at h
    obtain ⟨rfl, rfl, -⟩ := h
    rfl
set_option maxRecDepth 100000 in
set_option maxHeartbeats 8000000 in
theorem SignHalf_0 {a j0 j1 : Nat} (ma : a < M256) {f : Nat → Nat} {z : Nat} (hf : ∀ i, f i < 256) (hz : zOf f = z) (hj0 : j0 < 65536) (hj1 : j1 < 65536) {r0 s0 r1 s1 : Nat} {e0 e1 : Int} (h0 : sgAns a z (j0 + 1) = (r0, s0, e0)) (h1 : sgAns a z (j1 + 1) = (r1, s1, e1)) (ha : isSec a = false) (w : World) (hG : Glob 3 PP w) (hO : GlobP 2 0 0 true w) (hB : GlobPt 0 gPt w) (hN : Glob 1 NN w) : Calls Tryd.prog 8 #[WV a, .agg (bcells f), .agg #[.int .u16 (j0 : Int), .int .u16 (j1 : Int)]] w fun e w' => e = .returned (.bool true) ∧ Below w.heap.size w w' := by
  obtain ⟨k0, Hk0⟩ : ∃ n, Hid (j0 + 1 = n) := ⟨_, Lib.hid rfl⟩
  have h64k0 : k0 < 18446744073709551616 := by rw [← Hk0.out]; omega
  have mk0 : k0 < M256 := Nat.lt_trans h64k0 (by decide)
  have Ek0 := Lib.hid (show ((j0 + 1 : Nat) : Int) = (k0 : Int) by rw [Hk0.out])
  have H0 := Lib.hid (show sgAns a z k0 = (r0, s0, e0) by rw [← Hk0.out]; exact h0)
  obtain ⟨k1, Hk1⟩ : ∃ n, Hid (j1 + 1 = n) := ⟨_, Lib.hid rfl⟩
  have h64k1 : k1 < 18446744073709551616 := by rw [← Hk1.out]; omega
  have mk1 : k1 < M256 := Nat.lt_trans h64k1 (by decide)
  have Ek1 := Lib.hid (show ((j1 + 1 : Nat) : Int) = (k1 : Int) by rw [Hk1.out])
  have H1 := Lib.hid (show sgAns a z k1 = (r1, s1, e1) by rw [← Hk1.out]; exact h1)
  have Hz := Lib.hid hz
  clear hz
  replace ha := Lib.hid ha
  clear h0 h1
  have hM0 := mm_nil w
  (try unfold WV)
  go_enter Tryd.func8, Tryd.ntmps8
  go_wp2_with (first
    | ((with_reducible change wpList _ _ _ (Oper.mk (some 3) _ _ _ _ _ :: _) _ _); refine mmBox hM0 _ _ (wcells a) rfl rfl rfl ?_; intro w1 hM1; clear hM0; go_frame)
    | ((with_reducible change wpList _ _ _ (Oper.mk (some 4) _ _ _ _ _ :: _) _ _); refine mmBox hM1 _ _ (bcells f) rfl rfl rfl ?_; intro w2 hM2; clear hM1; go_frame)
    | ((with_reducible change wpList _ _ _ (Oper.mk (some 5) _ _ _ _ _ :: _) _ _); refine mmBox hM2 _ _ (#[.int .u16 (j0 : Int), .int .u16 (j1 : Int)]) rfl rfl rfl ?_; intro w3 hM3; clear hM2; go_frame)
    | (go_at_call 15; refine (signAlive_any _ (hG.below hM3.below) (hO.below hM3.below) (hB.below hM3.below) (hN.below hM3.below)).mono ?_; rintro e w4 ⟨rfl, hB4⟩; have hM4 := hM3.on hB4; clear hB4 hM3; (try unfold WV); go_frame)
    | ((with_reducible change wpList _ _ _ (Oper.mk (some 19) _ _ _ _ _ :: _) _ _); refine kLoadRow _ _ _ _ _ _ rfl rfl rfl (hM4.get 2 rfl) Tryd.underlying24 rfl (info_WideC _) ?_; go_frame)
    | (go_at_call 11; (with_reducible change Calls _ _ #[Value.agg (wcells a)] _ _); refine (sPublic_no ma ha.out _ (hN.below hM4.below)).mono ?_; rintro e w5 ⟨rfl, hB5⟩; have hM5 := hM4.on hB5; clear hB5 hM4; (try unfold WV); go_frame)
    | ((with_reducible change wpList _ _ _ (Oper.mk (some 7) _ _ _ _ _ :: _) _ _); refine mmAlloc hM5 _ _ rfl rfl zero_Point ?_; intro w6 hM6; clear hM5; go_frame)
    | ((with_reducible change wpList _ _ _ (Oper.mk none (Op.store _ (Operand.tmp 7) (Operand.tmp 21)) _ _ _ _ :: _) _ _); refine mmStoreAt hM6 0 _ _ _ _ _ _ (pcells 0 0 false) rfl rfl rfl rfl rfl (info_PointC _ _ _) (by simp only [pcells_size]) (pcells_one _ _ _) ?_; intro w7 hM7; dsimp only [List.set] at hM7; clear hM6; go_frame))
  refine region_sym (fun _ => 11) [.val (.agg (wcells a)), .val (.agg (bcells f)), .val (.pointer (some ⟨w2.heap.size, 0, none⟩)), .val (.int .u16 ((j0 : Int))), .val (.int .u64 ((j0 : Int))), .val (.int .u64 (((j0 + 1 : Nat) : Int))), .val (.agg (wcells k0)), .val (.tuple #[.agg (wcells2 r0 s0), .int .i64 (e0)]), .val (.tuple #[.agg (wcells2 r0 s0), .int .i64 (e0)]), .val (.agg (wcells2 r0 s0)), .val (.int .i64 (e0)), .fresh w7.heap.size 35 8, .hold w7.heap.size 35 (wcells2 r0 s0), .val (.int .i64 (e0))] [.val (.agg (wcells a)), .val (.agg (bcells f)), .val (.pointer (some ⟨w2.heap.size, 0, none⟩)), .val (.int .u16 ((j0 : Int))), .val (.int .u64 ((j0 : Int))), .val (.int .u64 (((j0 + 1 : Nat) : Int))), .val (.agg (wcells k0)), .val (.tuple #[.agg (wcells2 r0 s0), .int .i64 (e0)]), .val (.tuple #[.agg (wcells2 r0 s0), .int .i64 (e0)]), .val (.agg (wcells2 r0 s0)), .val (.int .i64 (e0)), .hold w7.heap.size 35 (wcells2 r0 s0), .val undef, .val (.int .i64 (e0))] (by kernel_rfl) (by kernel_rfl) rfl rfl (steps_all ⟨?_, ?_, ?_, ?_, ?_, ?_, ?_, ?_, ?_, ?_, ?_, ?_, ?_, ?_, trivial⟩) ?_
  · intro A W hsz hoth hbel hdep
    exact kLoadRow _ _ _ _ _ _ rfl rfl ((hoth 3 (free2_of (by kernel_rfl))).trans rfl) ((hM7.get 3 rfl).on hbel) Tryd.underlying24 rfl (info_WideC _) (symV hbel hsz rfl rfl (show 24 < 107 by decide) (Below.refl _ _) rfl)
  · intro A W hsz hoth hbel hdep
    exact kLoadRow _ _ _ _ _ _ rfl rfl ((hoth 4 (free2_of (by kernel_rfl))).trans rfl) ((hM7.get 2 rfl).on hbel) Tryd.underlying40 rfl (info_HashC _) (symV hbel hsz rfl rfl (show 25 < 107 by decide) (Below.refl _ _) rfl)
  · intro A W hsz hoth hbel hdep
    exact kIndexAddr1 _ _ _ _ _ _ _ 0 _ rfl rfl ((hoth 5 (free2_of (by kernel_rfl))).trans rfl) rfl Tryd.underlying58 info_u16 rfl (by decide) (symV hbel hsz rfl rfl (show 26 < 107 by decide) (Below.refl _ _) rfl)
  · intro A W hsz hoth hbel hdep
    exact kLoad1 _ _ _ _ _ _ _ _ rfl rfl (by have h := hdep ⟨2, .data⟩ (by simp) rfl; exact h) ((hM7.get 1 rfl).on hbel) Tryd.underlying50 rfl rfl (symV hbel hsz rfl rfl (show 27 < 107 by decide) (Below.refl _ _) rfl)
  · intro A W hsz hoth hbel hdep
    exact kConvU16 _ j0 hj0 rfl rfl (by have h := hdep ⟨3, .data⟩ (by simp) rfl; exact h)  (symV hbel hsz rfl rfl (show 28 < 107 by decide) (Below.refl _ _) rfl)
  · intro A W hsz hoth hbel hdep
    exact kAddU _ _ _ _ j0 1 rfl rfl (by have h := hdep ⟨4, .data⟩ (by simp) rfl; exact h) rfl (by omega) (symV hbel hsz rfl rfl (show 29 < 107 by decide) (Below.refl _ _) rfl)
  · intro A W hsz hoth hbel hdep
    refine kCall1 13 _ _ _ rfl rfl (by kernel_rfl) (by have h := hdep ⟨5, .data⟩ (by simp) rfl; exact h) ?_
    refine (wOf_lit k0 ((j0 + 1 : Nat) : Int) h64k0 Ek0.out W).mono ?_
    rintro e r ⟨rfl, hBc⟩
    exact ⟨_, rfl, (symV hbel hsz rfl rfl (show 30 < 107 by decide) hBc rfl)⟩
  · intro A W hsz hoth hbel hdep
    refine kCall3 12 _ _ _ _ _ _ _ rfl rfl (by kernel_rfl) (by have h := hdep ⟨0, .data⟩ (by simp) rfl; exact h) (by have h := hdep ⟨1, .data⟩ (by simp) rfl; exact h) (by have h := hdep ⟨6, .data⟩ (by simp) rfl; exact h) ?_
    refine (sSign_ans ma mk0 hf Hz.out H0.out W ((hG.below hM7.below).below hbel) ((hO.below hM7.below).below hbel) ((hB.below hM7.below).below hbel) ((hN.below hM7.below).below hbel)).mono ?_
    rintro e r ⟨rfl, hBc⟩
    exact ⟨_, rfl, (symV hbel hsz rfl rfl (show 31 < 107 by decide) hBc rfl)⟩
  · intro A W hsz hoth hbel hdep
    exact kMoveV _ _ rfl rfl (by have h := hdep ⟨7, .data⟩ (by simp) rfl; exact h) (symV hbel hsz rfl rfl (show 23 < 107 by decide) (Below.refl _ _) rfl)
  · intro A W hsz hoth hbel hdep
    exact kExtract _ _ _ (.agg (wcells2 r0 s0)) rfl rfl (by have h := hdep ⟨8, .data⟩ (by simp) rfl; exact h) rfl (symV hbel hsz rfl rfl (show 32 < 107 by decide) (Below.refl _ _) rfl)
  · intro A W hsz hoth hbel hdep
    exact kExtract _ _ _ (.int .i64 (e0)) rfl rfl (by have h := hdep ⟨8, .data⟩ (by simp) rfl; exact h) rfl (symV hbel hsz rfl rfl (show 33 < 107 by decide) (Below.refl _ _) rfl)
  · intro A W hsz hoth hbel hdep
    refine kAllocL _ _ rfl rfl zero_Sig ?_
    intro r hR hl hBc
    exact (symV hbel hsz rfl rfl (show 9 < 107 by decide) hBc ⟨_, _, rfl, hbel.size, wcells2_size _ _, hR⟩)
  · intro A W hsz hoth hbel hdep
    obtain ⟨g, cs, d8, hg, hcs, hR⟩ : ∃ g cs, A.tmps.getD 9 undef = .pointer (some ⟨g, 0, none⟩) ∧ w7.heap.size ≤ g ∧ cs.size = 8 ∧ Row W g 35 cs := (by have h := hdep ⟨11, .data⟩ (by simp) rfl; exact h)
    refine kStoreRow _ _ _ _ _ _ (wcells2 r0 s0) rfl rfl d8 (by have h := hdep ⟨9, .data⟩ (by simp) rfl; exact h) hR (info_SigC _ _) (by rw [wcells2_size, hcs]) (wcells2_one _ _) ?_
    intro r hR2 hW
    exact symW hbel rfl hW hg hR2 (by simp only [Singles, and_self, wcells2_size]) ⟨g, d8, hg, hR2⟩
  · intro A W hsz hoth hbel hdep
    exact kAssignV _ _ rfl rfl (by have h := hdep ⟨10, .data⟩ (by simp) rfl; exact h) (symV hbel hsz rfl rfl (show 10 < 107 by decide) (Below.refl _ _) rfl)
  intro w8 hB8
  dsimp only [AllV]
  intro g8_9 hg8_9 hR8_9
  dsimp only [putAll]
  go_frame
  have hM8 := hM7.on hB8
  replace hM8 := hM8.cons hR8_9 (Nat.le_trans hM7.size hg8_9) (fun p hp => by have := hM7.lt hp; omega)
  clear hB8 hM7 hg8_9 hR8_9
  go_wp2_with fail
  refine region_sym (fun _ => 11) [.val (.agg (wcells a)), .val (.agg (bcells f)), .val (.pointer (some ⟨w2.heap.size, 1, none⟩)), .val (.int .u16 ((j1 : Int))), .val (.int .u64 ((j1 : Int))), .val (.int .u64 (((j1 + 1 : Nat) : Int))), .val (.agg (wcells k1)), .val (.tuple #[.agg (wcells2 r1 s1), .int .i64 (e1)]), .val (.tuple #[.agg (wcells2 r1 s1), .int .i64 (e1)]), .val (.agg (wcells2 r1 s1)), .val (.int .i64 (e1)), .fresh w8.heap.size 35 8, .hold w8.heap.size 35 (wcells2 r1 s1), .val (.int .i64 (e1))] [.val (.agg (wcells a)), .val (.agg (bcells f)), .val (.pointer (some ⟨w2.heap.size, 1, none⟩)), .val (.int .u16 ((j1 : Int))), .val (.int .u64 ((j1 : Int))), .val (.int .u64 (((j1 + 1 : Nat) : Int))), .val (.agg (wcells k1)), .val (.tuple #[.agg (wcells2 r1 s1), .int .i64 (e1)]), .val (.tuple #[.agg (wcells2 r1 s1), .int .i64 (e1)]), .val (.agg (wcells2 r1 s1)), .val (.int .i64 (e1)), .hold w8.heap.size 35 (wcells2 r1 s1), .val undef, .val (.int .i64 (e1))] (by kernel_rfl) (by kernel_rfl) rfl rfl (steps_all ⟨?_, ?_, ?_, ?_, ?_, ?_, ?_, ?_, ?_, ?_, ?_, ?_, ?_, ?_, trivial⟩) ?_
  · intro A W hsz hoth hbel hdep
    exact kLoadRow _ _ _ _ _ _ rfl rfl ((hoth 3 (free2_of (by kernel_rfl))).trans rfl) ((hM8.get 4 rfl).on hbel) Tryd.underlying24 rfl (info_WideC _) (symV hbel hsz rfl rfl (show 35 < 107 by decide) (Below.refl _ _) rfl)
  · intro A W hsz hoth hbel hdep
    exact kLoadRow _ _ _ _ _ _ rfl rfl ((hoth 4 (free2_of (by kernel_rfl))).trans rfl) ((hM8.get 3 rfl).on hbel) Tryd.underlying40 rfl (info_HashC _) (symV hbel hsz rfl rfl (show 36 < 107 by decide) (Below.refl _ _) rfl)
  · intro A W hsz hoth hbel hdep
    exact kIndexAddr1 _ _ _ _ _ _ _ 1 _ rfl rfl ((hoth 5 (free2_of (by kernel_rfl))).trans rfl) rfl Tryd.underlying58 info_u16 rfl (by decide) (symV hbel hsz rfl rfl (show 37 < 107 by decide) (Below.refl _ _) rfl)
  · intro A W hsz hoth hbel hdep
    exact kLoad1 _ _ _ _ _ _ _ _ rfl rfl (by have h := hdep ⟨2, .data⟩ (by simp) rfl; exact h) ((hM8.get 2 rfl).on hbel) Tryd.underlying50 rfl rfl (symV hbel hsz rfl rfl (show 38 < 107 by decide) (Below.refl _ _) rfl)
  · intro A W hsz hoth hbel hdep
    exact kConvU16 _ j1 hj1 rfl rfl (by have h := hdep ⟨3, .data⟩ (by simp) rfl; exact h)  (symV hbel hsz rfl rfl (show 39 < 107 by decide) (Below.refl _ _) rfl)
  · intro A W hsz hoth hbel hdep
    exact kAddU _ _ _ _ j1 1 rfl rfl (by have h := hdep ⟨4, .data⟩ (by simp) rfl; exact h) rfl (by omega) (symV hbel hsz rfl rfl (show 40 < 107 by decide) (Below.refl _ _) rfl)
  · intro A W hsz hoth hbel hdep
    refine kCall1 13 _ _ _ rfl rfl (by kernel_rfl) (by have h := hdep ⟨5, .data⟩ (by simp) rfl; exact h) ?_
    refine (wOf_lit k1 ((j1 + 1 : Nat) : Int) h64k1 Ek1.out W).mono ?_
    rintro e r ⟨rfl, hBc⟩
    exact ⟨_, rfl, (symV hbel hsz rfl rfl (show 41 < 107 by decide) hBc rfl)⟩
  · intro A W hsz hoth hbel hdep
    refine kCall3 12 _ _ _ _ _ _ _ rfl rfl (by kernel_rfl) (by have h := hdep ⟨0, .data⟩ (by simp) rfl; exact h) (by have h := hdep ⟨1, .data⟩ (by simp) rfl; exact h) (by have h := hdep ⟨6, .data⟩ (by simp) rfl; exact h) ?_
    refine (sSign_ans ma mk1 hf Hz.out H1.out W ((hG.below hM8.below).below hbel) ((hO.below hM8.below).below hbel) ((hB.below hM8.below).below hbel) ((hN.below hM8.below).below hbel)).mono ?_
    rintro e r ⟨rfl, hBc⟩
    exact ⟨_, rfl, (symV hbel hsz rfl rfl (show 42 < 107 by decide) hBc rfl)⟩
  · intro A W hsz hoth hbel hdep
    exact kMoveV _ _ rfl rfl (by have h := hdep ⟨7, .data⟩ (by simp) rfl; exact h) (symV hbel hsz rfl rfl (show 34 < 107 by decide) (Below.refl _ _) rfl)
  · intro A W hsz hoth hbel hdep
    exact kExtract _ _ _ (.agg (wcells2 r1 s1)) rfl rfl (by have h := hdep ⟨8, .data⟩ (by simp) rfl; exact h) rfl (symV hbel hsz rfl rfl (show 43 < 107 by decide) (Below.refl _ _) rfl)
  · intro A W hsz hoth hbel hdep
    exact kExtract _ _ _ (.int .i64 (e1)) rfl rfl (by have h := hdep ⟨8, .data⟩ (by simp) rfl; exact h) rfl (symV hbel hsz rfl rfl (show 44 < 107 by decide) (Below.refl _ _) rfl)
  · intro A W hsz hoth hbel hdep
    refine kAllocL _ _ rfl rfl zero_Sig ?_
    intro r hR hl hBc
    exact (symV hbel hsz rfl rfl (show 11 < 107 by decide) hBc ⟨_, _, rfl, hbel.size, wcells2_size _ _, hR⟩)
  · intro A W hsz hoth hbel hdep
    obtain ⟨g, cs, d8, hg, hcs, hR⟩ : ∃ g cs, A.tmps.getD 11 undef = .pointer (some ⟨g, 0, none⟩) ∧ w8.heap.size ≤ g ∧ cs.size = 8 ∧ Row W g 35 cs := (by have h := hdep ⟨11, .data⟩ (by simp) rfl; exact h)
    refine kStoreRow _ _ _ _ _ _ (wcells2 r1 s1) rfl rfl d8 (by have h := hdep ⟨9, .data⟩ (by simp) rfl; exact h) hR (info_SigC _ _) (by rw [wcells2_size, hcs]) (wcells2_one _ _) ?_
    intro r hR2 hW
    exact symW hbel rfl hW hg hR2 (by simp only [Singles, and_self, wcells2_size]) ⟨g, d8, hg, hR2⟩
  · intro A W hsz hoth hbel hdep
    exact kAssignV _ _ rfl rfl (by have h := hdep ⟨10, .data⟩ (by simp) rfl; exact h) (symV hbel hsz rfl rfl (show 12 < 107 by decide) (Below.refl _ _) rfl)
  intro w9 hB9
  dsimp only [AllV]
  intro g9_11 hg9_11 hR9_11
  dsimp only [putAll]
  go_frame
  have hM9 := hM8.on hB9
  replace hM9 := hM9.cons hR9_11 (Nat.le_trans hM8.size hg9_11) (fun p hp => by have := hM8.lt hp; omega)
  clear hB9 hM8 hg9_11 hR9_11
  go_wp2_with (first
    | ((with_reducible change wpList _ _ _ (Oper.mk (some 46) _ _ _ _ _ :: _) _ _); refine kNeqI _ _ _ _ .i64 (51) (0) true rfl rfl rfl rfl (by decide) ?_; go_frame))
  go_ret
  exact ⟨rfl, hM9.below⟩
set_option maxRecDepth 100000 in
set_option maxHeartbeats 8000000 in
theorem SignHalf_1 {a j0 j1 : Nat} (ma : a < M256) {f : Nat → Nat} {z : Nat} (hf : ∀ i, f i < 256) (hz : zOf f = z) (hj0 : j0 < 65536) (hj1 : j1 < 65536) {r0 s0 r1 s1 : Nat} {e0 e1 : Int} (h0 : sgAns a z (j0 + 1) = (r0, s0, e0)) (h1 : sgAns a z (j1 + 1) = (r1, s1, e1)) (ha : isSec a = true) (he0 : e0 ≠ 0) (w : World) (hG : Glob 3 PP w) (hO : GlobP 2 0 0 true w) (hB : GlobPt 0 gPt w) (hN : Glob 1 NN w) : Calls Tryd.prog 8 #[WV a, .agg (bcells f), .agg #[.int .u16 (j0 : Int), .int .u16 (j1 : Int)]] w fun e w' => e = .returned (.bool true) ∧ Below w.heap.size w w' := by
  obtain ⟨k0, Hk0⟩ : ∃ n, Hid (j0 + 1 = n) := ⟨_, Lib.hid rfl⟩
  have h64k0 : k0 < 18446744073709551616 := by rw [← Hk0.out]; omega
  have mk0 : k0 < M256 := Nat.lt_trans h64k0 (by decide)
  have Ek0 := Lib.hid (show ((j0 + 1 : Nat) : Int) = (k0 : Int) by rw [Hk0.out])
  have H0 := Lib.hid (show sgAns a z k0 = (r0, s0, e0) by rw [← Hk0.out]; exact h0)
  obtain ⟨k1, Hk1⟩ : ∃ n, Hid (j1 + 1 = n) := ⟨_, Lib.hid rfl⟩
  have h64k1 : k1 < 18446744073709551616 := by rw [← Hk1.out]; omega
  have mk1 : k1 < M256 := Nat.lt_trans h64k1 (by decide)
  have Ek1 := Lib.hid (show ((j1 + 1 : Nat) : Int) = (k1 : Int) by rw [Hk1.out])
  have H1 := Lib.hid (show sgAns a z k1 = (r1, s1, e1) by rw [← Hk1.out]; exact h1)
  obtain ⟨p, Hp⟩ : ∃ p, Hid (Pt.times ivP gPt a = p) := ⟨_, Lib.hid rfl⟩
  have F49 := Lib.hid (show (!decide (e0 = 0)) = true by rw [decide_eq_false he0]; rfl)
  clear he0
  have Hz := Lib.hid hz
  clear hz
  replace ha := Lib.hid ha
  clear h0 h1
  have hM0 := mm_nil w
  (try unfold WV)
  go_enter Tryd.func8, Tryd.ntmps8
  go_wp2_with (first
    | ((with_reducible change wpList _ _ _ (Oper.mk (some 3) _ _ _ _ _ :: _) _ _); refine mmBox hM0 _ _ (wcells a) rfl rfl rfl ?_; intro w1 hM1; clear hM0; go_frame)
    | ((with_reducible change wpList _ _ _ (Oper.mk (some 4) _ _ _ _ _ :: _) _ _); refine mmBox hM1 _ _ (bcells f) rfl rfl rfl ?_; intro w2 hM2; clear hM1; go_frame)
    | ((with_reducible change wpList _ _ _ (Oper.mk (some 5) _ _ _ _ _ :: _) _ _); refine mmBox hM2 _ _ (#[.int .u16 (j0 : Int), .int .u16 (j1 : Int)]) rfl rfl rfl ?_; intro w3 hM3; clear hM2; go_frame)
    | (go_at_call 15; refine (signAlive_any _ (hG.below hM3.below) (hO.below hM3.below) (hB.below hM3.below) (hN.below hM3.below)).mono ?_; rintro e w4 ⟨rfl, hB4⟩; have hM4 := hM3.on hB4; clear hB4 hM3; (try unfold WV); go_frame)
    | ((with_reducible change wpList _ _ _ (Oper.mk (some 19) _ _ _ _ _ :: _) _ _); refine kLoadRow _ _ _ _ _ _ rfl rfl rfl (hM4.get 2 rfl) Tryd.underlying24 rfl (info_WideC _) ?_; go_frame)
    | (go_at_call 11; (with_reducible change Calls _ _ #[Value.agg (wcells a)] _ _); refine (sPublic_yes ma ha.out Hp.out _ (hG.below hM4.below) (hO.below hM4.below) (hB.below hM4.below) (hN.below hM4.below)).mono ?_; rintro e w5 ⟨rfl, hB5⟩; have hM5 := hM4.on hB5; clear hB5 hM4; (try unfold WV); go_frame)
    | ((with_reducible change wpList _ _ _ (Oper.mk (some 7) _ _ _ _ _ :: _) _ _); refine mmAlloc hM5 _ _ rfl rfl zero_Point ?_; intro w6 hM6; clear hM5; go_frame)
    | ((with_reducible change wpList _ _ _ (Oper.mk none (Op.store _ (Operand.tmp 7) (Operand.tmp 21)) _ _ _ _ :: _) _ _); refine mmStoreAt hM6 0 _ _ _ _ _ _ (ptc p) rfl rfl rfl rfl rfl (info_ptc _) (by simp only [pcells_size, ptc_size]) (ptc_one _) ?_; intro w7 hM7; dsimp only [List.set] at hM7; clear hM6; go_frame))
  refine region_sym (fun _ => 11) [.val (.agg (wcells a)), .val (.agg (bcells f)), .val (.pointer (some ⟨w2.heap.size, 0, none⟩)), .val (.int .u16 ((j0 : Int))), .val (.int .u64 ((j0 : Int))), .val (.int .u64 (((j0 + 1 : Nat) : Int))), .val (.agg (wcells k0)), .val (.tuple #[.agg (wcells2 r0 s0), .int .i64 (e0)]), .val (.tuple #[.agg (wcells2 r0 s0), .int .i64 (e0)]), .val (.agg (wcells2 r0 s0)), .val (.int .i64 (e0)), .fresh w7.heap.size 35 8, .hold w7.heap.size 35 (wcells2 r0 s0), .val (.int .i64 (e0))] [.val (.agg (wcells a)), .val (.agg (bcells f)), .val (.pointer (some ⟨w2.heap.size, 0, none⟩)), .val (.int .u16 ((j0 : Int))), .val (.int .u64 ((j0 : Int))), .val (.int .u64 (((j0 + 1 : Nat) : Int))), .val (.agg (wcells k0)), .val (.tuple #[.agg (wcells2 r0 s0), .int .i64 (e0)]), .val (.tuple #[.agg (wcells2 r0 s0), .int .i64 (e0)]), .val (.agg (wcells2 r0 s0)), .val (.int .i64 (e0)), .hold w7.heap.size 35 (wcells2 r0 s0), .val undef, .val (.int .i64 (e0))] (by kernel_rfl) (by kernel_rfl) rfl rfl (steps_all ⟨?_, ?_, ?_, ?_, ?_, ?_, ?_, ?_, ?_, ?_, ?_, ?_, ?_, ?_, trivial⟩) ?_
  · intro A W hsz hoth hbel hdep
    exact kLoadRow _ _ _ _ _ _ rfl rfl ((hoth 3 (free2_of (by kernel_rfl))).trans rfl) ((hM7.get 3 rfl).on hbel) Tryd.underlying24 rfl (info_WideC _) (symV hbel hsz rfl rfl (show 24 < 107 by decide) (Below.refl _ _) rfl)
  · intro A W hsz hoth hbel hdep
    exact kLoadRow _ _ _ _ _ _ rfl rfl ((hoth 4 (free2_of (by kernel_rfl))).trans rfl) ((hM7.get 2 rfl).on hbel) Tryd.underlying40 rfl (info_HashC _) (symV hbel hsz rfl rfl (show 25 < 107 by decide) (Below.refl _ _) rfl)
  · intro A W hsz hoth hbel hdep
    exact kIndexAddr1 _ _ _ _ _ _ _ 0 _ rfl rfl ((hoth 5 (free2_of (by kernel_rfl))).trans rfl) rfl Tryd.underlying58 info_u16 rfl (by decide) (symV hbel hsz rfl rfl (show 26 < 107 by decide) (Below.refl _ _) rfl)
  · intro A W hsz hoth hbel hdep
    exact kLoad1 _ _ _ _ _ _ _ _ rfl rfl (by have h := hdep ⟨2, .data⟩ (by simp) rfl; exact h) ((hM7.get 1 rfl).on hbel) Tryd.underlying50 rfl rfl (symV hbel hsz rfl rfl (show 27 < 107 by decide) (Below.refl _ _) rfl)
  · intro A W hsz hoth hbel hdep
    exact kConvU16 _ j0 hj0 rfl rfl (by have h := hdep ⟨3, .data⟩ (by simp) rfl; exact h)  (symV hbel hsz rfl rfl (show 28 < 107 by decide) (Below.refl _ _) rfl)
  · intro A W hsz hoth hbel hdep
    exact kAddU _ _ _ _ j0 1 rfl rfl (by have h := hdep ⟨4, .data⟩ (by simp) rfl; exact h) rfl (by omega) (symV hbel hsz rfl rfl (show 29 < 107 by decide) (Below.refl _ _) rfl)
  · intro A W hsz hoth hbel hdep
    refine kCall1 13 _ _ _ rfl rfl (by kernel_rfl) (by have h := hdep ⟨5, .data⟩ (by simp) rfl; exact h) ?_
    refine (wOf_lit k0 ((j0 + 1 : Nat) : Int) h64k0 Ek0.out W).mono ?_
    rintro e r ⟨rfl, hBc⟩
    exact ⟨_, rfl, (symV hbel hsz rfl rfl (show 30 < 107 by decide) hBc rfl)⟩
  · intro A W hsz hoth hbel hdep
    refine kCall3 12 _ _ _ _ _ _ _ rfl rfl (by kernel_rfl) (by have h := hdep ⟨0, .data⟩ (by simp) rfl; exact h) (by have h := hdep ⟨1, .data⟩ (by simp) rfl; exact h) (by have h := hdep ⟨6, .data⟩ (by simp) rfl; exact h) ?_
    refine (sSign_ans ma mk0 hf Hz.out H0.out W ((hG.below hM7.below).below hbel) ((hO.below hM7.below).below hbel) ((hB.below hM7.below).below hbel) ((hN.below hM7.below).below hbel)).mono ?_
    rintro e r ⟨rfl, hBc⟩
    exact ⟨_, rfl, (symV hbel hsz rfl rfl (show 31 < 107 by decide) hBc rfl)⟩
  · intro A W hsz hoth hbel hdep
    exact kMoveV _ _ rfl rfl (by have h := hdep ⟨7, .data⟩ (by simp) rfl; exact h) (symV hbel hsz rfl rfl (show 23 < 107 by decide) (Below.refl _ _) rfl)
  · intro A W hsz hoth hbel hdep
    exact kExtract _ _ _ (.agg (wcells2 r0 s0)) rfl rfl (by have h := hdep ⟨8, .data⟩ (by simp) rfl; exact h) rfl (symV hbel hsz rfl rfl (show 32 < 107 by decide) (Below.refl _ _) rfl)
  · intro A W hsz hoth hbel hdep
    exact kExtract _ _ _ (.int .i64 (e0)) rfl rfl (by have h := hdep ⟨8, .data⟩ (by simp) rfl; exact h) rfl (symV hbel hsz rfl rfl (show 33 < 107 by decide) (Below.refl _ _) rfl)
  · intro A W hsz hoth hbel hdep
    refine kAllocL _ _ rfl rfl zero_Sig ?_
    intro r hR hl hBc
    exact (symV hbel hsz rfl rfl (show 9 < 107 by decide) hBc ⟨_, _, rfl, hbel.size, wcells2_size _ _, hR⟩)
  · intro A W hsz hoth hbel hdep
    obtain ⟨g, cs, d8, hg, hcs, hR⟩ : ∃ g cs, A.tmps.getD 9 undef = .pointer (some ⟨g, 0, none⟩) ∧ w7.heap.size ≤ g ∧ cs.size = 8 ∧ Row W g 35 cs := (by have h := hdep ⟨11, .data⟩ (by simp) rfl; exact h)
    refine kStoreRow _ _ _ _ _ _ (wcells2 r0 s0) rfl rfl d8 (by have h := hdep ⟨9, .data⟩ (by simp) rfl; exact h) hR (info_SigC _ _) (by rw [wcells2_size, hcs]) (wcells2_one _ _) ?_
    intro r hR2 hW
    exact symW hbel rfl hW hg hR2 (by simp only [Singles, and_self, wcells2_size]) ⟨g, d8, hg, hR2⟩
  · intro A W hsz hoth hbel hdep
    exact kAssignV _ _ rfl rfl (by have h := hdep ⟨10, .data⟩ (by simp) rfl; exact h) (symV hbel hsz rfl rfl (show 10 < 107 by decide) (Below.refl _ _) rfl)
  intro w8 hB8
  dsimp only [AllV]
  intro g8_9 hg8_9 hR8_9
  dsimp only [putAll]
  go_frame
  have hM8 := hM7.on hB8
  replace hM8 := hM8.cons hR8_9 (Nat.le_trans hM7.size hg8_9) (fun p hp => by have := hM7.lt hp; omega)
  clear hB8 hM7 hg8_9 hR8_9
  go_wp2_with fail
  refine region_sym (fun _ => 11) [.val (.agg (wcells a)), .val (.agg (bcells f)), .val (.pointer (some ⟨w2.heap.size, 1, none⟩)), .val (.int .u16 ((j1 : Int))), .val (.int .u64 ((j1 : Int))), .val (.int .u64 (((j1 + 1 : Nat) : Int))), .val (.agg (wcells k1)), .val (.tuple #[.agg (wcells2 r1 s1), .int .i64 (e1)]), .val (.tuple #[.agg (wcells2 r1 s1), .int .i64 (e1)]), .val (.agg (wcells2 r1 s1)), .val (.int .i64 (e1)), .fresh w8.heap.size 35 8, .hold w8.heap.size 35 (wcells2 r1 s1), .val (.int .i64 (e1))] [.val (.agg (wcells a)), .val (.agg (bcells f)), .val (.pointer (some ⟨w2.heap.size, 1, none⟩)), .val (.int .u16 ((j1 : Int))), .val (.int .u64 ((j1 : Int))), .val (.int .u64 (((j1 + 1 : Nat) : Int))), .val (.agg (wcells k1)), .val (.tuple #[.agg (wcells2 r1 s1), .int .i64 (e1)]), .val (.tuple #[.agg (wcells2 r1 s1), .int .i64 (e1)]), .val (.agg (wcells2 r1 s1)), .val (.int .i64 (e1)), .hold w8.heap.size 35 (wcells2 r1 s1), .val undef, .val (.int .i64 (e1))] (by kernel_rfl) (by kernel_rfl) rfl rfl (steps_all ⟨?_, ?_, ?_, ?_, ?_, ?_, ?_, ?_, ?_, ?_, ?_, ?_, ?_, ?_, trivial⟩) ?_
  · intro A W hsz hoth hbel hdep
    exact kLoadRow _ _ _ _ _ _ rfl rfl ((hoth 3 (free2_of (by kernel_rfl))).trans rfl) ((hM8.get 4 rfl).on hbel) Tryd.underlying24 rfl (info_WideC _) (symV hbel hsz rfl rfl (show 35 < 107 by decide) (Below.refl _ _) rfl)
  · intro A W hsz hoth hbel hdep
    exact kLoadRow _ _ _ _ _ _ rfl rfl ((hoth 4 (free2_of (by kernel_rfl))).trans rfl) ((hM8.get 3 rfl).on hbel) Tryd.underlying40 rfl (info_HashC _) (symV hbel hsz rfl rfl (show 36 < 107 by decide) (Below.refl _ _) rfl)
  · intro A W hsz hoth hbel hdep
    exact kIndexAddr1 _ _ _ _ _ _ _ 1 _ rfl rfl ((hoth 5 (free2_of (by kernel_rfl))).trans rfl) rfl Tryd.underlying58 info_u16 rfl (by decide) (symV hbel hsz rfl rfl (show 37 < 107 by decide) (Below.refl _ _) rfl)
  · intro A W hsz hoth hbel hdep
    exact kLoad1 _ _ _ _ _ _ _ _ rfl rfl (by have h := hdep ⟨2, .data⟩ (by simp) rfl; exact h) ((hM8.get 2 rfl).on hbel) Tryd.underlying50 rfl rfl (symV hbel hsz rfl rfl (show 38 < 107 by decide) (Below.refl _ _) rfl)
  · intro A W hsz hoth hbel hdep
    exact kConvU16 _ j1 hj1 rfl rfl (by have h := hdep ⟨3, .data⟩ (by simp) rfl; exact h)  (symV hbel hsz rfl rfl (show 39 < 107 by decide) (Below.refl _ _) rfl)
  · intro A W hsz hoth hbel hdep
    exact kAddU _ _ _ _ j1 1 rfl rfl (by have h := hdep ⟨4, .data⟩ (by simp) rfl; exact h) rfl (by omega) (symV hbel hsz rfl rfl (show 40 < 107 by decide) (Below.refl _ _) rfl)
  · intro A W hsz hoth hbel hdep
    refine kCall1 13 _ _ _ rfl rfl (by kernel_rfl) (by have h := hdep ⟨5, .data⟩ (by simp) rfl; exact h) ?_
    refine (wOf_lit k1 ((j1 + 1 : Nat) : Int) h64k1 Ek1.out W).mono ?_
    rintro e r ⟨rfl, hBc⟩
    exact ⟨_, rfl, (symV hbel hsz rfl rfl (show 41 < 107 by decide) hBc rfl)⟩
  · intro A W hsz hoth hbel hdep
    refine kCall3 12 _ _ _ _ _ _ _ rfl rfl (by kernel_rfl) (by have h := hdep ⟨0, .data⟩ (by simp) rfl; exact h) (by have h := hdep ⟨1, .data⟩ (by simp) rfl; exact h) (by have h := hdep ⟨6, .data⟩ (by simp) rfl; exact h) ?_
    refine (sSign_ans ma mk1 hf Hz.out H1.out W ((hG.below hM8.below).below hbel) ((hO.below hM8.below).below hbel) ((hB.below hM8.below).below hbel) ((hN.below hM8.below).below hbel)).mono ?_
    rintro e r ⟨rfl, hBc⟩
    exact ⟨_, rfl, (symV hbel hsz rfl rfl (show 42 < 107 by decide) hBc rfl)⟩
  · intro A W hsz hoth hbel hdep
    exact kMoveV _ _ rfl rfl (by have h := hdep ⟨7, .data⟩ (by simp) rfl; exact h) (symV hbel hsz rfl rfl (show 34 < 107 by decide) (Below.refl _ _) rfl)
  · intro A W hsz hoth hbel hdep
    exact kExtract _ _ _ (.agg (wcells2 r1 s1)) rfl rfl (by have h := hdep ⟨8, .data⟩ (by simp) rfl; exact h) rfl (symV hbel hsz rfl rfl (show 43 < 107 by decide) (Below.refl _ _) rfl)
  · intro A W hsz hoth hbel hdep
    exact kExtract _ _ _ (.int .i64 (e1)) rfl rfl (by have h := hdep ⟨8, .data⟩ (by simp) rfl; exact h) rfl (symV hbel hsz rfl rfl (show 44 < 107 by decide) (Below.refl _ _) rfl)
  · intro A W hsz hoth hbel hdep
    refine kAllocL _ _ rfl rfl zero_Sig ?_
    intro r hR hl hBc
    exact (symV hbel hsz rfl rfl (show 11 < 107 by decide) hBc ⟨_, _, rfl, hbel.size, wcells2_size _ _, hR⟩)
  · intro A W hsz hoth hbel hdep
    obtain ⟨g, cs, d8, hg, hcs, hR⟩ : ∃ g cs, A.tmps.getD 11 undef = .pointer (some ⟨g, 0, none⟩) ∧ w8.heap.size ≤ g ∧ cs.size = 8 ∧ Row W g 35 cs := (by have h := hdep ⟨11, .data⟩ (by simp) rfl; exact h)
    refine kStoreRow _ _ _ _ _ _ (wcells2 r1 s1) rfl rfl d8 (by have h := hdep ⟨9, .data⟩ (by simp) rfl; exact h) hR (info_SigC _ _) (by rw [wcells2_size, hcs]) (wcells2_one _ _) ?_
    intro r hR2 hW
    exact symW hbel rfl hW hg hR2 (by simp only [Singles, and_self, wcells2_size]) ⟨g, d8, hg, hR2⟩
  · intro A W hsz hoth hbel hdep
    exact kAssignV _ _ rfl rfl (by have h := hdep ⟨10, .data⟩ (by simp) rfl; exact h) (symV hbel hsz rfl rfl (show 12 < 107 by decide) (Below.refl _ _) rfl)
  intro w9 hB9
  dsimp only [AllV]
  intro g9_11 hg9_11 hR9_11
  dsimp only [putAll]
  go_frame
  have hM9 := hM8.on hB9
  replace hM9 := hM9.cons hR9_11 (Nat.le_trans hM8.size hg9_11) (fun p hp => by have := hM8.lt hp; omega)
  clear hB9 hM8 hg9_11 hR9_11
  go_wp2_with (first
    | ((with_reducible change wpList _ _ _ (Oper.mk (some 46) _ _ _ _ _ :: _) _ _); refine kNeqI _ _ _ _ .i64 (0) (0) false rfl rfl rfl rfl (by decide) ?_; go_frame)
    | ((with_reducible change wpList _ _ _ (Oper.mk (some 49) _ _ _ _ _ :: _) _ _); refine kNeqI _ _ _ _ .i64 (e0) (0) true rfl rfl rfl rfl (F49.out) ?_; go_frame))
  go_ret
  exact ⟨rfl, hM9.below⟩
set_option maxRecDepth 100000 in
set_option maxHeartbeats 8000000 in
theorem SignHalf_2 {a j0 j1 : Nat} (ma : a < M256) {f : Nat → Nat} {z : Nat} (hf : ∀ i, f i < 256) (hz : zOf f = z) (hj0 : j0 < 65536) (hj1 : j1 < 65536) {r0 s0 r1 s1 : Nat} {e0 e1 : Int} (h0 : sgAns a z (j0 + 1) = (r0, s0, e0)) (h1 : sgAns a z (j1 + 1) = (r1, s1, e1)) (ha : isSec a = true) (he0 : e0 = 0) (he1 : e1 ≠ 0) (w : World) (hG : Glob 3 PP w) (hO : GlobP 2 0 0 true w) (hB : GlobPt 0 gPt w) (hN : Glob 1 NN w) : Calls Tryd.prog 8 #[WV a, .agg (bcells f), .agg #[.int .u16 (j0 : Int), .int .u16 (j1 : Int)]] w fun e w' => e = .returned (.bool true) ∧ Below w.heap.size w w' := by
  obtain ⟨k0, Hk0⟩ : ∃ n, Hid (j0 + 1 = n) := ⟨_, Lib.hid rfl⟩
  have h64k0 : k0 < 18446744073709551616 := by rw [← Hk0.out]; omega
  have mk0 : k0 < M256 := Nat.lt_trans h64k0 (by decide)
  have Ek0 := Lib.hid (show ((j0 + 1 : Nat) : Int) = (k0 : Int) by rw [Hk0.out])
  have H0 := Lib.hid (show sgAns a z k0 = (r0, s0, e0) by rw [← Hk0.out]; exact h0)
  obtain ⟨k1, Hk1⟩ : ∃ n, Hid (j1 + 1 = n) := ⟨_, Lib.hid rfl⟩
  have h64k1 : k1 < 18446744073709551616 := by rw [← Hk1.out]; omega
  have mk1 : k1 < M256 := Nat.lt_trans h64k1 (by decide)
  have Ek1 := Lib.hid (show ((j1 + 1 : Nat) : Int) = (k1 : Int) by rw [Hk1.out])
  have H1 := Lib.hid (show sgAns a z k1 = (r1, s1, e1) by rw [← Hk1.out]; exact h1)
  obtain ⟨p, Hp⟩ : ∃ p, Hid (Pt.times ivP gPt a = p) := ⟨_, Lib.hid rfl⟩
  have F49 := Lib.hid (show (!decide (e0 = 0)) = false by rw [decide_eq_true he0]; rfl)
  have F53 := Lib.hid (show (!decide (e1 = 0)) = true by rw [decide_eq_false he1]; rfl)
  clear he0 he1
  have Hz := Lib.hid hz
  clear hz
  replace ha := Lib.hid ha
  clear h0 h1
  have hM0 := mm_nil w
  (try unfold WV)
  go_enter Tryd.func8, Tryd.ntmps8
  go_wp2_with (first
    | ((with_reducible change wpList _ _ _ (Oper.mk (some 3) _ _ _ _ _ :: _) _ _); refine mmBox hM0 _ _ (wcells a) rfl rfl rfl ?_; intro w1 hM1; clear hM0; go_frame)
    | ((with_reducible change wpList _ _ _ (Oper.mk (some 4) _ _ _ _ _ :: _) _ _); refine mmBox hM1 _ _ (bcells f) rfl rfl rfl ?_; intro w2 hM2; clear hM1; go_frame)
    | ((with_reducible change wpList _ _ _ (Oper.mk (some 5) _ _ _ _ _ :: _) _ _); refine mmBox hM2 _ _ (#[.int .u16 (j0 : Int), .int .u16 (j1 : Int)]) rfl rfl rfl ?_; intro w3 hM3; clear hM2; go_frame)
    | (go_at_call 15; refine (signAlive_any _ (hG.below hM3.below) (hO.below hM3.below) (hB.below hM3.below) (hN.below hM3.below)).mono ?_; rintro e w4 ⟨rfl, hB4⟩; have hM4 := hM3.on hB4; clear hB4 hM3; (try unfold WV); go_frame)
    | ((with_reducible change wpList _ _ _ (Oper.mk (some 19) _ _ _ _ _ :: _) _ _); refine kLoadRow _ _ _ _ _ _ rfl rfl rfl (hM4.get 2 rfl) Tryd.underlying24 rfl (info_WideC _) ?_; go_frame)
    | (go_at_call 11; (with_reducible change Calls _ _ #[Value.agg (wcells a)] _ _); refine (sPublic_yes ma ha.out Hp.out _ (hG.below hM4.below) (hO.below hM4.below) (hB.below hM4.below) (hN.below hM4.below)).mono ?_; rintro e w5 ⟨rfl, hB5⟩; have hM5 := hM4.on hB5; clear hB5 hM4; (try unfold WV); go_frame)
    | ((with_reducible change wpList _ _ _ (Oper.mk (some 7) _ _ _ _ _ :: _) _ _); refine mmAlloc hM5 _ _ rfl rfl zero_Point ?_; intro w6 hM6; clear hM5; go_frame)
    | ((with_reducible change wpList _ _ _ (Oper.mk none (Op.store _ (Operand.tmp 7) (Operand.tmp 21)) _ _ _ _ :: _) _ _); refine mmStoreAt hM6 0 _ _ _ _ _ _ (ptc p) rfl rfl rfl rfl rfl (info_ptc _) (by simp only [pcells_size, ptc_size]) (ptc_one _) ?_; intro w7 hM7; dsimp only [List.set] at hM7; clear hM6; go_frame))
  refine region_sym (fun _ => 11) [.val (.agg (wcells a)), .val (.agg (bcells f)), .val (.pointer (some ⟨w2.heap.size, 0, none⟩)), .val (.int .u16 ((j0 : Int))), .val (.int .u64 ((j0 : Int))), .val (.int .u64 (((j0 + 1 : Nat) : Int))), .val (.agg (wcells k0)), .val (.tuple #[.agg (wcells2 r0 s0), .int .i64 (e0)]), .val (.tuple #[.agg (wcells2 r0 s0), .int .i64 (e0)]), .val (.agg (wcells2 r0 s0)), .val (.int .i64 (e0)), .fresh w7.heap.size 35 8, .hold w7.heap.size 35 (wcells2 r0 s0), .val (.int .i64 (e0))] [.val (.agg (wcells a)), .val (.agg (bcells f)), .val (.pointer (some ⟨w2.heap.size, 0, none⟩)), .val (.int .u16 ((j0 : Int))), .val (.int .u64 ((j0 : Int))), .val (.int .u64 (((j0 + 1 : Nat) : Int))), .val (.agg (wcells k0)), .val (.tuple #[.agg (wcells2 r0 s0), .int .i64 (e0)]), .val (.tuple #[.agg (wcells2 r0 s0), .int .i64 (e0)]), .val (.agg (wcells2 r0 s0)), .val (.int .i64 (e0)), .hold w7.heap.size 35 (wcells2 r0 s0), .val undef, .val (.int .i64 (e0))] (by kernel_rfl) (by kernel_rfl) rfl rfl (steps_all ⟨?_, ?_, ?_, ?_, ?_, ?_, ?_, ?_, ?_, ?_, ?_, ?_, ?_, ?_, trivial⟩) ?_
  · intro A W hsz hoth hbel hdep
    exact kLoadRow _ _ _ _ _ _ rfl rfl ((hoth 3 (free2_of (by kernel_rfl))).trans rfl) ((hM7.get 3 rfl).on hbel) Tryd.underlying24 rfl (info_WideC _) (symV hbel hsz rfl rfl (show 24 < 107 by decide) (Below.refl _ _) rfl)
  · intro A W hsz hoth hbel hdep
    exact kLoadRow _ _ _ _ _ _ rfl rfl ((hoth 4 (free2_of (by kernel_rfl))).trans rfl) ((hM7.get 2 rfl).on hbel) Tryd.underlying40 rfl (info_HashC _) (symV hbel hsz rfl rfl (show 25 < 107 by decide) (Below.refl _ _) rfl)
  · intro A W hsz hoth hbel hdep
    exact kIndexAddr1 _ _ _ _ _ _ _ 0 _ rfl rfl ((hoth 5 (free2_of (by kernel_rfl))).trans rfl) rfl Tryd.underlying58 info_u16 rfl (by decide) (symV hbel hsz rfl rfl (show 26 < 107 by decide) (Below.refl _ _) rfl)
  · intro A W hsz hoth hbel hdep
    exact kLoad1 _ _ _ _ _ _ _ _ rfl rfl (by have h := hdep ⟨2, .data⟩ (by simp) rfl; exact h) ((hM7.get 1 rfl).on hbel) Tryd.underlying50 rfl rfl (symV hbel hsz rfl rfl (show 27 < 107 by decide) (Below.refl _ _) rfl)
  · intro A W hsz hoth hbel hdep
    exact kConvU16 _ j0 hj0 rfl rfl (by have h := hdep ⟨3, .data⟩ (by simp) rfl; exact h)  (symV hbel hsz rfl rfl (show 28 < 107 by decide) (Below.refl _ _) rfl)
  · intro A W hsz hoth hbel hdep
    exact kAddU _ _ _ _ j0 1 rfl rfl (by have h := hdep ⟨4, .data⟩ (by simp) rfl; exact h) rfl (by omega) (symV hbel hsz rfl rfl (show 29 < 107 by decide) (Below.refl _ _) rfl)
  · intro A W hsz hoth hbel hdep
    refine kCall1 13 _ _ _ rfl rfl (by kernel_rfl) (by have h := hdep ⟨5, .data⟩ (by simp) rfl; exact h) ?_
    refine (wOf_lit k0 ((j0 + 1 : Nat) : Int) h64k0 Ek0.out W).mono ?_
    rintro e r ⟨rfl, hBc⟩
    exact ⟨_, rfl, (symV hbel hsz rfl rfl (show 30 < 107 by decide) hBc rfl)⟩
  · intro A W hsz hoth hbel hdep
    refine kCall3 12 _ _ _ _ _ _ _ rfl rfl (by kernel_rfl) (by have h := hdep ⟨0, .data⟩ (by simp) rfl; exact h) (by have h := hdep ⟨1, .data⟩ (by simp) rfl; exact h) (by have h := hdep ⟨6, .data⟩ (by simp) rfl; exact h) ?_
    refine (sSign_ans ma mk0 hf Hz.out H0.out W ((hG.below hM7.below).below hbel) ((hO.below hM7.below).below hbel) ((hB.below hM7.below).below hbel) ((hN.below hM7.below).below hbel)).mono ?_
    rintro e r ⟨rfl, hBc⟩
    exact ⟨_, rfl, (symV hbel hsz rfl rfl (show 31 < 107 by decide) hBc rfl)⟩
  · intro A W hsz hoth hbel hdep
    exact kMoveV _ _ rfl rfl (by have h := hdep ⟨7, .data⟩ (by simp) rfl; exact h) (symV hbel hsz rfl rfl (show 23 < 107 by decide) (Below.refl _ _) rfl)
  · intro A W hsz hoth hbel hdep
    exact kExtract _ _ _ (.agg (wcells2 r0 s0)) rfl rfl (by have h := hdep ⟨8, .data⟩ (by simp) rfl; exact h) rfl (symV hbel hsz rfl rfl (show 32 < 107 by decide) (Below.refl _ _) rfl)
  · intro A W hsz hoth hbel hdep
    exact kExtract _ _ _ (.int .i64 (e0)) rfl rfl (by have h := hdep ⟨8, .data⟩ (by simp) rfl; exact h) rfl (symV hbel hsz rfl rfl (show 33 < 107 by decide) (Below.refl _ _) rfl)
  · intro A W hsz hoth hbel hdep
    refine kAllocL _ _ rfl rfl zero_Sig ?_
    intro r hR hl hBc
    exact (symV hbel hsz rfl rfl (show 9 < 107 by decide) hBc ⟨_, _, rfl, hbel.size, wcells2_size _ _, hR⟩)
  · intro A W hsz hoth hbel hdep
    obtain ⟨g, cs, d8, hg, hcs, hR⟩ : ∃ g cs, A.tmps.getD 9 undef = .pointer (some ⟨g, 0, none⟩) ∧ w7.heap.size ≤ g ∧ cs.size = 8 ∧ Row W g 35 cs := (by have h := hdep ⟨11, .data⟩ (by simp) rfl; exact h)
    refine kStoreRow _ _ _ _ _ _ (wcells2 r0 s0) rfl rfl d8 (by have h := hdep ⟨9, .data⟩ (by simp) rfl; exact h) hR (info_SigC _ _) (by rw [wcells2_size, hcs]) (wcells2_one _ _) ?_
    intro r hR2 hW
    exact symW hbel rfl hW hg hR2 (by simp only [Singles, and_self, wcells2_size]) ⟨g, d8, hg, hR2⟩
  · intro A W hsz hoth hbel hdep
    exact kAssignV _ _ rfl rfl (by have h := hdep ⟨10, .data⟩ (by simp) rfl; exact h) (symV hbel hsz rfl rfl (show 10 < 107 by decide) (Below.refl _ _) rfl)
  intro w8 hB8
  dsimp only [AllV]
  intro g8_9 hg8_9 hR8_9
  dsimp only [putAll]
  go_frame
  have hM8 := hM7.on hB8
  replace hM8 := hM8.cons hR8_9 (Nat.le_trans hM7.size hg8_9) (fun p hp => by have := hM7.lt hp; omega)
  clear hB8 hM7 hg8_9 hR8_9
  go_wp2_with fail
  refine region_sym (fun _ => 11) [.val (.agg (wcells a)), .val (.agg (bcells f)), .val (.pointer (some ⟨w2.heap.size, 1, none⟩)), .val (.int .u16 ((j1 : Int))), .val (.int .u64 ((j1 : Int))), .val (.int .u64 (((j1 + 1 : Nat) : Int))), .val (.agg (wcells k1)), .val (.tuple #[.agg (wcells2 r1 s1), .int .i64 (e1)]), .val (.tuple #[.agg (wcells2 r1 s1), .int .i64 (e1)]), .val (.agg (wcells2 r1 s1)), .val (.int .i64 (e1)), .fresh w8.heap.size 35 8, .hold w8.heap.size 35 (wcells2 r1 s1), .val (.int .i64 (e1))] [.val (.agg (wcells a)), .val (.agg (bcells f)), .val (.pointer (some ⟨w2.heap.size, 1, none⟩)), .val (.int .u16 ((j1 : Int))), .val (.int .u64 ((j1 : Int))), .val (.int .u64 (((j1 + 1 : Nat) : Int))), .val (.agg (wcells k1)), .val (.tuple #[.agg (wcells2 r1 s1), .int .i64 (e1)]), .val (.tuple #[.agg (wcells2 r1 s1), .int .i64 (e1)]), .val (.agg (wcells2 r1 s1)), .val (.int .i64 (e1)), .hold w8.heap.size 35 (wcells2 r1 s1), .val undef, .val (.int .i64 (e1))] (by kernel_rfl) (by kernel_rfl) rfl rfl (steps_all ⟨?_, ?_, ?_, ?_, ?_, ?_, ?_, ?_, ?_, ?_, ?_, ?_, ?_, ?_, trivial⟩) ?_
  · intro A W hsz hoth hbel hdep
    exact kLoadRow _ _ _ _ _ _ rfl rfl ((hoth 3 (free2_of (by kernel_rfl))).trans rfl) ((hM8.get 4 rfl).on hbel) Tryd.underlying24 rfl (info_WideC _) (symV hbel hsz rfl rfl (show 35 < 107 by decide) (Below.refl _ _) rfl)
  · intro A W hsz hoth hbel hdep
    exact kLoadRow _ _ _ _ _ _ rfl rfl ((hoth 4 (free2_of (by kernel_rfl))).trans rfl) ((hM8.get 3 rfl).on hbel) Tryd.underlying40 rfl (info_HashC _) (symV hbel hsz rfl rfl (show 36 < 107 by decide) (Below.refl _ _) rfl)
  · intro A W hsz hoth hbel hdep
    exact kIndexAddr1 _ _ _ _ _ _ _ 1 _ rfl rfl ((hoth 5 (free2_of (by kernel_rfl))).trans rfl) rfl Tryd.underlying58 info_u16 rfl (by decide) (symV hbel hsz rfl rfl (show 37 < 107 by decide) (Below.refl _ _) rfl)
  · intro A W hsz hoth hbel hdep
    exact kLoad1 _ _ _ _ _ _ _ _ rfl rfl (by have h := hdep ⟨2, .data⟩ (by simp) rfl; exact h) ((hM8.get 2 rfl).on hbel) Tryd.underlying50 rfl rfl (symV hbel hsz rfl rfl (show 38 < 107 by decide) (Below.refl _ _) rfl)
  · intro A W hsz hoth hbel hdep
    exact kConvU16 _ j1 hj1 rfl rfl (by have h := hdep ⟨3, .data⟩ (by simp) rfl; exact h)  (symV hbel hsz rfl rfl (show 39 < 107 by decide) (Below.refl _ _) rfl)
  · intro A W hsz hoth hbel hdep
    exact kAddU _ _ _ _ j1 1 rfl rfl (by have h := hdep ⟨4, .data⟩ (by simp) rfl; exact h) rfl (by omega) (symV hbel hsz rfl rfl (show 40 < 107 by decide) (Below.refl _ _) rfl)
  · intro A W hsz hoth hbel hdep
    refine kCall1 13 _ _ _ rfl rfl (by kernel_rfl) (by have h := hdep ⟨5, .data⟩ (by simp) rfl; exact h) ?_
    refine (wOf_lit k1 ((j1 + 1 : Nat) : Int) h64k1 Ek1.out W).mono ?_
    rintro e r ⟨rfl, hBc⟩
    exact ⟨_, rfl, (symV hbel hsz rfl rfl (show 41 < 107 by decide) hBc rfl)⟩
  · intro A W hsz hoth hbel hdep
    refine kCall3 12 _ _ _ _ _ _ _ rfl rfl (by kernel_rfl) (by have h := hdep ⟨0, .data⟩ (by simp) rfl; exact h) (by have h := hdep ⟨1, .data⟩ (by simp) rfl; exact h) (by have h := hdep ⟨6, .data⟩ (by simp) rfl; exact h) ?_
    refine (sSign_ans ma mk1 hf Hz.out H1.out W ((hG.below hM8.below).below hbel) ((hO.below hM8.below).below hbel) ((hB.below hM8.below).below hbel) ((hN.below hM8.below).below hbel)).mono ?_
    rintro e r ⟨rfl, hBc⟩
    exact ⟨_, rfl, (symV hbel hsz rfl rfl (show 42 < 107 by decide) hBc rfl)⟩
  · intro A W hsz hoth hbel hdep
    exact kMoveV _ _ rfl rfl (by have h := hdep ⟨7, .data⟩ (by simp) rfl; exact h) (symV hbel hsz rfl rfl (show 34 < 107 by decide) (Below.refl _ _) rfl)
  · intro A W hsz hoth hbel hdep
    exact kExtract _ _ _ (.agg (wcells2 r1 s1)) rfl rfl (by have h := hdep ⟨8, .data⟩ (by simp) rfl; exact h) rfl (symV hbel hsz rfl rfl (show 43 < 107 by decide) (Below.refl _ _) rfl)
  · intro A W hsz hoth hbel hdep
    exact kExtract _ _ _ (.int .i64 (e1)) rfl rfl (by have h := hdep ⟨8, .data⟩ (by simp) rfl; exact h) rfl (symV hbel hsz rfl rfl (show 44 < 107 by decide) (Below.refl _ _) rfl)
  · intro A W hsz hoth hbel hdep
    refine kAllocL _ _ rfl rfl zero_Sig ?_
    intro r hR hl hBc
    exact (symV hbel hsz rfl rfl (show 11 < 107 by decide) hBc ⟨_, _, rfl, hbel.size, wcells2_size _ _, hR⟩)
  · intro A W hsz hoth hbel hdep
    obtain ⟨g, cs, d8, hg, hcs, hR⟩ : ∃ g cs, A.tmps.getD 11 undef = .pointer (some ⟨g, 0, none⟩) ∧ w8.heap.size ≤ g ∧ cs.size = 8 ∧ Row W g 35 cs := (by have h := hdep ⟨11, .data⟩ (by simp) rfl; exact h)
    refine kStoreRow _ _ _ _ _ _ (wcells2 r1 s1) rfl rfl d8 (by have h := hdep ⟨9, .data⟩ (by simp) rfl; exact h) hR (info_SigC _ _) (by rw [wcells2_size, hcs]) (wcells2_one _ _) ?_
    intro r hR2 hW
    exact symW hbel rfl hW hg hR2 (by simp only [Singles, and_self, wcells2_size]) ⟨g, d8, hg, hR2⟩
  · intro A W hsz hoth hbel hdep
    exact kAssignV _ _ rfl rfl (by have h := hdep ⟨10, .data⟩ (by simp) rfl; exact h) (symV hbel hsz rfl rfl (show 12 < 107 by decide) (Below.refl _ _) rfl)
  intro w9 hB9
  dsimp only [AllV]
  intro g9_11 hg9_11 hR9_11
  dsimp only [putAll]
  go_frame
  have hM9 := hM8.on hB9
  replace hM9 := hM9.cons hR9_11 (Nat.le_trans hM8.size hg9_11) (fun p hp => by have := hM8.lt hp; omega)
  clear hB9 hM8 hg9_11 hR9_11
  go_wp2_with (first
    | ((with_reducible change wpList _ _ _ (Oper.mk (some 46) _ _ _ _ _ :: _) _ _); refine kNeqI _ _ _ _ .i64 (0) (0) false rfl rfl rfl rfl (by decide) ?_; go_frame)
    | ((with_reducible change wpList _ _ _ (Oper.mk (some 49) _ _ _ _ _ :: _) _ _); refine kNeqI _ _ _ _ .i64 (e0) (0) false rfl rfl rfl rfl (F49.out) ?_; go_frame)
    | ((with_reducible change wpList _ _ _ (Oper.mk (some 53) _ _ _ _ _ :: _) _ _); refine kNeqI _ _ _ _ .i64 (e1) (0) true rfl rfl rfl rfl (F53.out) ?_; go_frame))
  go_ret
  exact ⟨rfl, hM9.below⟩
set_option maxRecDepth 100000 in
set_option maxHeartbeats 8000000 in
theorem SignHalf_3 {a j0 j1 : Nat} (ma : a < M256) {f : Nat → Nat} {z : Nat} (hf : ∀ i, f i < 256) (hz : zOf f = z) (hj0 : j0 < 65536) (hj1 : j1 < 65536) {r0 s0 r1 s1 : Nat} {e0 e1 : Int} (h0 : sgAns a z (j0 + 1) = (r0, s0, e0)) (h1 : sgAns a z (j1 + 1) = (r1, s1, e1)) (ha : isSec a = true) (he0 : e0 = 0) (he1 : e1 = 0) (hj : j0 ≠ j1) (w : World) (hG : Glob 3 PP w) (hO : GlobP 2 0 0 true w) (hB : GlobPt 0 gPt w) (hN : Glob 1 NN w) : Calls Tryd.prog 8 #[WV a, .agg (bcells f), .agg #[.int .u16 (j0 : Int), .int .u16 (j1 : Int)]] w fun e w' => e = .returned (.bool true) ∧ Below w.heap.size w w' := by
  obtain ⟨k0, Hk0⟩ : ∃ n, Hid (j0 + 1 = n) := ⟨_, Lib.hid rfl⟩
  have h64k0 : k0 < 18446744073709551616 := by rw [← Hk0.out]; omega
  have mk0 : k0 < M256 := Nat.lt_trans h64k0 (by decide)
  have Ek0 := Lib.hid (show ((j0 + 1 : Nat) : Int) = (k0 : Int) by rw [Hk0.out])
  have H0 := Lib.hid (show sgAns a z k0 = (r0, s0, e0) by rw [← Hk0.out]; exact h0)
  obtain ⟨k1, Hk1⟩ : ∃ n, Hid (j1 + 1 = n) := ⟨_, Lib.hid rfl⟩
  have h64k1 : k1 < 18446744073709551616 := by rw [← Hk1.out]; omega
  have mk1 : k1 < M256 := Nat.lt_trans h64k1 (by decide)
  have Ek1 := Lib.hid (show ((j1 + 1 : Nat) : Int) = (k1 : Int) by rw [Hk1.out])
  have H1 := Lib.hid (show sgAns a z k1 = (r1, s1, e1) by rw [← Hk1.out]; exact h1)
  obtain ⟨p, Hp⟩ : ∃ p, Hid (Pt.times ivP gPt a = p) := ⟨_, Lib.hid rfl⟩
  have F49 := Lib.hid (show (!decide (e0 = 0)) = false by rw [decide_eq_true he0]; rfl)
  have F53 := Lib.hid (show (!decide (e1 = 0)) = false by rw [decide_eq_true he1]; rfl)
  have op : p.On := by rw [← Hp.out]; exact base_on _
  have hs0 := ans_zero h0 he0
  have hs1 := ans_zero h1 he1
  obtain ⟨c1, c2, c3⟩ := signOf_sec hs0
  obtain ⟨d1, d2, d3⟩ := signOf_sec hs1
  have mr0 := isSec_lt c1
  have ms0 := isSec_lt c2
  have mr1 := isSec_lt d1
  have ms1 := isSec_lt d2
  have hv0 := Lib.hid (show verifyB p z r0 s0 = true by rw [← Hp.out]; exact sign_verifies hs0)
  have hv1 := Lib.hid (show verifyB p z r1 s1 = true by rw [← Hp.out]; exact sign_verifies hs1)
  obtain ⟨nN, HnN⟩ : ∃ n, Hid (NN = n) := ⟨_, Lib.hid rfl⟩
  have mnN : nN < M256 := by rw [← HnN.out]; decide
  have hPN := Lib.hid (show PrimeIs false nN by rw [← HnN.out]; exact rPrime_false)
  obtain ⟨t, Ht⟩ : ∃ t, Hid (nN - s0 = t) := ⟨_, Lib.hid rfl⟩
  have hlt : s0 < nN := by rw [← HnN.out]; exact (isSec_iff.1 c2).2
  have mt : t < M256 := by rw [← Ht.out]; omega
  have ht := Lib.hid (show nN = t + s0 by rw [← Ht.out]; omega)
  have hhalf := half_less c2 c3
  rw [HnN.out, Ht.out] at hhalf
  have hless := Lib.hid (show decide (t < s0) = false from decide_eq_false (by omega))
  have hvt := Lib.hid (show verifyB p z r0 t = false from verify_hi hhalf.1)
  have F100 := Lib.hid (show (!decide ((j0 : Int) = (j1 : Int))) = true by rw [decide_eq_false (by omega)]; rfl)
  clear hs0 hs1 c1 c2 c3 d1 d2 d3 hhalf hlt he0 he1 hj
  have Hz := Lib.hid hz
  clear hz
  replace ha := Lib.hid ha
  clear h0 h1
  have hM0 := mm_nil w
  (try unfold WV)
  go_enter Tryd.func8, Tryd.ntmps8
  go_wp2_with (first
    | ((with_reducible change wpList _ _ _ (Oper.mk (some 3) _ _ _ _ _ :: _) _ _); refine mmBox hM0 _ _ (wcells a) rfl rfl rfl ?_; intro w1 hM1; clear hM0; go_frame)
    | ((with_reducible change wpList _ _ _ (Oper.mk (some 4) _ _ _ _ _ :: _) _ _); refine mmBox hM1 _ _ (bcells f) rfl rfl rfl ?_; intro w2 hM2; clear hM1; go_frame)
    | ((with_reducible change wpList _ _ _ (Oper.mk (some 5) _ _ _ _ _ :: _) _ _); refine mmBox hM2 _ _ (#[.int .u16 (j0 : Int), .int .u16 (j1 : Int)]) rfl rfl rfl ?_; intro w3 hM3; clear hM2; go_frame)
    | (go_at_call 15; refine (signAlive_any _ (hG.below hM3.below) (hO.below hM3.below) (hB.below hM3.below) (hN.below hM3.below)).mono ?_; rintro e w4 ⟨rfl, hB4⟩; have hM4 := hM3.on hB4; clear hB4 hM3; (try unfold WV); go_frame)
    | ((with_reducible change wpList _ _ _ (Oper.mk (some 19) _ _ _ _ _ :: _) _ _); refine kLoadRow _ _ _ _ _ _ rfl rfl rfl (hM4.get 2 rfl) Tryd.underlying24 rfl (info_WideC _) ?_; go_frame)
    | (go_at_call 11; (with_reducible change Calls _ _ #[Value.agg (wcells a)] _ _); refine (sPublic_yes ma ha.out Hp.out _ (hG.below hM4.below) (hO.below hM4.below) (hB.below hM4.below) (hN.below hM4.below)).mono ?_; rintro e w5 ⟨rfl, hB5⟩; have hM5 := hM4.on hB5; clear hB5 hM4; (try unfold WV); go_frame)
    | ((with_reducible change wpList _ _ _ (Oper.mk (some 7) _ _ _ _ _ :: _) _ _); refine mmAlloc hM5 _ _ rfl rfl zero_Point ?_; intro w6 hM6; clear hM5; go_frame)
    | ((with_reducible change wpList _ _ _ (Oper.mk none (Op.store _ (Operand.tmp 7) (Operand.tmp 21)) _ _ _ _ :: _) _ _); refine mmStoreAt hM6 0 _ _ _ _ _ _ (ptc p) rfl rfl rfl rfl rfl (info_ptc _) (by simp only [pcells_size, ptc_size]) (ptc_one _) ?_; intro w7 hM7; dsimp only [List.set] at hM7; clear hM6; go_frame))
  refine region_sym (fun _ => 11) [.val (.agg (wcells a)), .val (.agg (bcells f)), .val (.pointer (some ⟨w2.heap.size, 0, none⟩)), .val (.int .u16 ((j0 : Int))), .val (.int .u64 ((j0 : Int))), .val (.int .u64 (((j0 + 1 : Nat) : Int))), .val (.agg (wcells k0)), .val (.tuple #[.agg (wcells2 r0 s0), .int .i64 (e0)]), .val (.tuple #[.agg (wcells2 r0 s0), .int .i64 (e0)]), .val (.agg (wcells2 r0 s0)), .val (.int .i64 (e0)), .fresh w7.heap.size 35 8, .hold w7.heap.size 35 (wcells2 r0 s0), .val (.int .i64 (e0))] [.val (.agg (wcells a)), .val (.agg (bcells f)), .val (.pointer (some ⟨w2.heap.size, 0, none⟩)), .val (.int .u16 ((j0 : Int))), .val (.int .u64 ((j0 : Int))), .val (.int .u64 (((j0 + 1 : Nat) : Int))), .val (.agg (wcells k0)), .val (.tuple #[.agg (wcells2 r0 s0), .int .i64 (e0)]), .val (.tuple #[.agg (wcells2 r0 s0), .int .i64 (e0)]), .val (.agg (wcells2 r0 s0)), .val (.int .i64 (e0)), .hold w7.heap.size 35 (wcells2 r0 s0), .val undef, .val (.int .i64 (e0))] (by kernel_rfl) (by kernel_rfl) rfl rfl (steps_all ⟨?_, ?_, ?_, ?_, ?_, ?_, ?_, ?_, ?_, ?_, ?_, ?_, ?_, ?_, trivial⟩) ?_
  · intro A W hsz hoth hbel hdep
    exact kLoadRow _ _ _ _ _ _ rfl rfl ((hoth 3 (free2_of (by kernel_rfl))).trans rfl) ((hM7.get 3 rfl).on hbel) Tryd.underlying24 rfl (info_WideC _) (symV hbel hsz rfl rfl (show 24 < 107 by decide) (Below.refl _ _) rfl)
  · intro A W hsz hoth hbel hdep
    exact kLoadRow _ _ _ _ _ _ rfl rfl ((hoth 4 (free2_of (by kernel_rfl))).trans rfl) ((hM7.get 2 rfl).on hbel) Tryd.underlying40 rfl (info_HashC _) (symV hbel hsz rfl rfl (show 25 < 107 by decide) (Below.refl _ _) rfl)
  · intro A W hsz hoth hbel hdep
    exact kIndexAddr1 _ _ _ _ _ _ _ 0 _ rfl rfl ((hoth 5 (free2_of (by kernel_rfl))).trans rfl) rfl Tryd.underlying58 info_u16 rfl (by decide) (symV hbel hsz rfl rfl (show 26 < 107 by decide) (Below.refl _ _) rfl)
  · intro A W hsz hoth hbel hdep
    exact kLoad1 _ _ _ _ _ _ _ _ rfl rfl (by have h := hdep ⟨2, .data⟩ (by simp) rfl; exact h) ((hM7.get 1 rfl).on hbel) Tryd.underlying50 rfl rfl (symV hbel hsz rfl rfl (show 27 < 107 by decide) (Below.refl _ _) rfl)
  · intro A W hsz hoth hbel hdep
    exact kConvU16 _ j0 hj0 rfl rfl (by have h := hdep ⟨3, .data⟩ (by simp) rfl; exact h)  (symV hbel hsz rfl rfl (show 28 < 107 by decide) (Below.refl _ _) rfl)
  · intro A W hsz hoth hbel hdep
    exact kAddU _ _ _ _ j0 1 rfl rfl (by have h := hdep ⟨4, .data⟩ (by simp) rfl; exact h) rfl (by omega) (symV hbel hsz rfl rfl (show 29 < 107 by decide) (Below.refl _ _) rfl)
  · intro A W hsz hoth hbel hdep
    refine kCall1 13 _ _ _ rfl rfl (by kernel_rfl) (by have h := hdep ⟨5, .data⟩ (by simp) rfl; exact h) ?_
    refine (wOf_lit k0 ((j0 + 1 : Nat) : Int) h64k0 Ek0.out W).mono ?_
    rintro e r ⟨rfl, hBc⟩
    exact ⟨_, rfl, (symV hbel hsz rfl rfl (show 30 < 107 by decide) hBc rfl)⟩
  · intro A W hsz hoth hbel hdep
    refine kCall3 12 _ _ _ _ _ _ _ rfl rfl (by kernel_rfl) (by have h := hdep ⟨0, .data⟩ (by simp) rfl; exact h) (by have h := hdep ⟨1, .data⟩ (by simp) rfl; exact h) (by have h := hdep ⟨6, .data⟩ (by simp) rfl; exact h) ?_
    refine (sSign_ans ma mk0 hf Hz.out H0.out W ((hG.below hM7.below).below hbel) ((hO.below hM7.below).below hbel) ((hB.below hM7.below).below hbel) ((hN.below hM7.below).below hbel)).mono ?_
    rintro e r ⟨rfl, hBc⟩
    exact ⟨_, rfl, (symV hbel hsz rfl rfl (show 31 < 107 by decide) hBc rfl)⟩
  · intro A W hsz hoth hbel hdep
    exact kMoveV _ _ rfl rfl (by have h := hdep ⟨7, .data⟩ (by simp) rfl; exact h) (symV hbel hsz rfl rfl (show 23 < 107 by decide) (Below.refl _ _) rfl)
  · intro A W hsz hoth hbel hdep
    exact kExtract _ _ _ (.agg (wcells2 r0 s0)) rfl rfl (by have h := hdep ⟨8, .data⟩ (by simp) rfl; exact h) rfl (symV hbel hsz rfl rfl (show 32 < 107 by decide) (Below.refl _ _) rfl)
  · intro A W hsz hoth hbel hdep
    exact kExtract _ _ _ (.int .i64 (e0)) rfl rfl (by have h := hdep ⟨8, .data⟩ (by simp) rfl; exact h) rfl (symV hbel hsz rfl rfl (show 33 < 107 by decide) (Below.refl _ _) rfl)
  · intro A W hsz hoth hbel hdep
    refine kAllocL _ _ rfl rfl zero_Sig ?_
    intro r hR hl hBc
    exact (symV hbel hsz rfl rfl (show 9 < 107 by decide) hBc ⟨_, _, rfl, hbel.size, wcells2_size _ _, hR⟩)
  · intro A W hsz hoth hbel hdep
    obtain ⟨g, cs, d8, hg, hcs, hR⟩ : ∃ g cs, A.tmps.getD 9 undef = .pointer (some ⟨g, 0, none⟩) ∧ w7.heap.size ≤ g ∧ cs.size = 8 ∧ Row W g 35 cs := (by have h := hdep ⟨11, .data⟩ (by simp) rfl; exact h)
    refine kStoreRow _ _ _ _ _ _ (wcells2 r0 s0) rfl rfl d8 (by have h := hdep ⟨9, .data⟩ (by simp) rfl; exact h) hR (info_SigC _ _) (by rw [wcells2_size, hcs]) (wcells2_one _ _) ?_
    intro r hR2 hW
    exact symW hbel rfl hW hg hR2 (by simp only [Singles, and_self, wcells2_size]) ⟨g, d8, hg, hR2⟩
  · intro A W hsz hoth hbel hdep
    exact kAssignV _ _ rfl rfl (by have h := hdep ⟨10, .data⟩ (by simp) rfl; exact h) (symV hbel hsz rfl rfl (show 10 < 107 by decide) (Below.refl _ _) rfl)
  intro w8 hB8
  dsimp only [AllV]
  intro g8_9 hg8_9 hR8_9
  dsimp only [putAll]
  go_frame
  have hM8 := hM7.on hB8
  replace hM8 := hM8.cons hR8_9 (Nat.le_trans hM7.size hg8_9) (fun p hp => by have := hM7.lt hp; omega)
  clear hB8 hM7 hg8_9 hR8_9
  go_wp2_with fail
  refine region_sym (fun _ => 11) [.val (.agg (wcells a)), .val (.agg (bcells f)), .val (.pointer (some ⟨w2.heap.size, 1, none⟩)), .val (.int .u16 ((j1 : Int))), .val (.int .u64 ((j1 : Int))), .val (.int .u64 (((j1 + 1 : Nat) : Int))), .val (.agg (wcells k1)), .val (.tuple #[.agg (wcells2 r1 s1), .int .i64 (e1)]), .val (.tuple #[.agg (wcells2 r1 s1), .int .i64 (e1)]), .val (.agg (wcells2 r1 s1)), .val (.int .i64 (e1)), .fresh w8.heap.size 35 8, .hold w8.heap.size 35 (wcells2 r1 s1), .val (.int .i64 (e1))] [.val (.agg (wcells a)), .val (.agg (bcells f)), .val (.pointer (some ⟨w2.heap.size, 1, none⟩)), .val (.int .u16 ((j1 : Int))), .val (.int .u64 ((j1 : Int))), .val (.int .u64 (((j1 + 1 : Nat) : Int))), .val (.agg (wcells k1)), .val (.tuple #[.agg (wcells2 r1 s1), .int .i64 (e1)]), .val (.tuple #[.agg (wcells2 r1 s1), .int .i64 (e1)]), .val (.agg (wcells2 r1 s1)), .val (.int .i64 (e1)), .hold w8.heap.size 35 (wcells2 r1 s1), .val undef, .val (.int .i64 (e1))] (by kernel_rfl) (by kernel_rfl) rfl rfl (steps_all ⟨?_, ?_, ?_, ?_, ?_, ?_, ?_, ?_, ?_, ?_, ?_, ?_, ?_, ?_, trivial⟩) ?_
  · intro A W hsz hoth hbel hdep
    exact kLoadRow _ _ _ _ _ _ rfl rfl ((hoth 3 (free2_of (by kernel_rfl))).trans rfl) ((hM8.get 4 rfl).on hbel) Tryd.underlying24 rfl (info_WideC _) (symV hbel hsz rfl rfl (show 35 < 107 by decide) (Below.refl _ _) rfl)
  · intro A W hsz hoth hbel hdep
    exact kLoadRow _ _ _ _ _ _ rfl rfl ((hoth 4 (free2_of (by kernel_rfl))).trans rfl) ((hM8.get 3 rfl).on hbel) Tryd.underlying40 rfl (info_HashC _) (symV hbel hsz rfl rfl (show 36 < 107 by decide) (Below.refl _ _) rfl)
  · intro A W hsz hoth hbel hdep
    exact kIndexAddr1 _ _ _ _ _ _ _ 1 _ rfl rfl ((hoth 5 (free2_of (by kernel_rfl))).trans rfl) rfl Tryd.underlying58 info_u16 rfl (by decide) (symV hbel hsz rfl rfl (show 37 < 107 by decide) (Below.refl _ _) rfl)
  · intro A W hsz hoth hbel hdep
    exact kLoad1 _ _ _ _ _ _ _ _ rfl rfl (by have h := hdep ⟨2, .data⟩ (by simp) rfl; exact h) ((hM8.get 2 rfl).on hbel) Tryd.underlying50 rfl rfl (symV hbel hsz rfl rfl (show 38 < 107 by decide) (Below.refl _ _) rfl)
  · intro A W hsz hoth hbel hdep
    exact kConvU16 _ j1 hj1 rfl rfl (by have h := hdep ⟨3, .data⟩ (by simp) rfl; exact h)  (symV hbel hsz rfl rfl (show 39 < 107 by decide) (Below.refl _ _) rfl)
  · intro A W hsz hoth hbel hdep
    exact kAddU _ _ _ _ j1 1 rfl rfl (by have h := hdep ⟨4, .data⟩ (by simp) rfl; exact h) rfl (by omega) (symV hbel hsz rfl rfl (show 40 < 107 by decide) (Below.refl _ _) rfl)
  · intro A W hsz hoth hbel hdep
    refine kCall1 13 _ _ _ rfl rfl (by kernel_rfl) (by have h := hdep ⟨5, .data⟩ (by simp) rfl; exact h) ?_
    refine (wOf_lit k1 ((j1 + 1 : Nat) : Int) h64k1 Ek1.out W).mono ?_
    rintro e r ⟨rfl, hBc⟩
    exact ⟨_, rfl, (symV hbel hsz rfl rfl (show 41 < 107 by decide) hBc rfl)⟩
  · intro A W hsz hoth hbel hdep
    refine kCall3 12 _ _ _ _ _ _ _ rfl rfl (by kernel_rfl) (by have h := hdep ⟨0, .data⟩ (by simp) rfl; exact h) (by have h := hdep ⟨1, .data⟩ (by simp) rfl; exact h) (by have h := hdep ⟨6, .data⟩ (by simp) rfl; exact h) ?_
    refine (sSign_ans ma mk1 hf Hz.out H1.out W ((hG.below hM8.below).below hbel) ((hO.below hM8.below).below hbel) ((hB.below hM8.below).below hbel) ((hN.below hM8.below).below hbel)).mono ?_
    rintro e r ⟨rfl, hBc⟩
    exact ⟨_, rfl, (symV hbel hsz rfl rfl (show 42 < 107 by decide) hBc rfl)⟩
  · intro A W hsz hoth hbel hdep
    exact kMoveV _ _ rfl rfl (by have h := hdep ⟨7, .data⟩ (by simp) rfl; exact h) (symV hbel hsz rfl rfl (show 34 < 107 by decide) (Below.refl _ _) rfl)
  · intro A W hsz hoth hbel hdep
    exact kExtract _ _ _ (.agg (wcells2 r1 s1)) rfl rfl (by have h := hdep ⟨8, .data⟩ (by simp) rfl; exact h) rfl (symV hbel hsz rfl rfl (show 43 < 107 by decide) (Below.refl _ _) rfl)
  · intro A W hsz hoth hbel hdep
    exact kExtract _ _ _ (.int .i64 (e1)) rfl rfl (by have h := hdep ⟨8, .data⟩ (by simp) rfl; exact h) rfl (symV hbel hsz rfl rfl (show 44 < 107 by decide) (Below.refl _ _) rfl)
  · intro A W hsz hoth hbel hdep
    refine kAllocL _ _ rfl rfl zero_Sig ?_
    intro r hR hl hBc
    exact (symV hbel hsz rfl rfl (show 11 < 107 by decide) hBc ⟨_, _, rfl, hbel.size, wcells2_size _ _, hR⟩)
  · intro A W hsz hoth hbel hdep
    obtain ⟨g, cs, d8, hg, hcs, hR⟩ : ∃ g cs, A.tmps.getD 11 undef = .pointer (some ⟨g, 0, none⟩) ∧ w8.heap.size ≤ g ∧ cs.size = 8 ∧ Row W g 35 cs := (by have h := hdep ⟨11, .data⟩ (by simp) rfl; exact h)
    refine kStoreRow _ _ _ _ _ _ (wcells2 r1 s1) rfl rfl d8 (by have h := hdep ⟨9, .data⟩ (by simp) rfl; exact h) hR (info_SigC _ _) (by rw [wcells2_size, hcs]) (wcells2_one _ _) ?_
    intro r hR2 hW
    exact symW hbel rfl hW hg hR2 (by simp only [Singles, and_self, wcells2_size]) ⟨g, d8, hg, hR2⟩
  · intro A W hsz hoth hbel hdep
    exact kAssignV _ _ rfl rfl (by have h := hdep ⟨10, .data⟩ (by simp) rfl; exact h) (symV hbel hsz rfl rfl (show 12 < 107 by decide) (Below.refl _ _) rfl)
  intro w9 hB9
  dsimp only [AllV]
  intro g9_11 hg9_11 hR9_11
  dsimp only [putAll]
  go_frame
  have hM9 := hM8.on hB9
  replace hM9 := hM9.cons hR9_11 (Nat.le_trans hM8.size hg9_11) (fun p hp => by have := hM8.lt hp; omega)
  clear hB9 hM8 hg9_11 hR9_11
  go_wp2_with (first
    | ((with_reducible change wpList _ _ _ (Oper.mk (some 46) _ _ _ _ _ :: _) _ _); refine kNeqI _ _ _ _ .i64 (0) (0) false rfl rfl rfl rfl (by decide) ?_; go_frame)
    | ((with_reducible change wpList _ _ _ (Oper.mk (some 49) _ _ _ _ _ :: _) _ _); refine kNeqI _ _ _ _ .i64 (e0) (0) false rfl rfl rfl rfl (F49.out) ?_; go_frame)
    | ((with_reducible change wpList _ _ _ (Oper.mk (some 53) _ _ _ _ _ :: _) _ _); refine kNeqI _ _ _ _ .i64 (e1) (0) false rfl rfl rfl rfl (F53.out) ?_; go_frame)
    | (go_at_call 10; (with_reducible change Calls _ _ #[Value.bool false] _ _); refine (hPN.out _).mono ?_; rintro e w10 ⟨x10, rfl, hN10, hB10⟩; have hM10 := hM9.on hB10; clear hB10 hM9; have hM11 := mm_nil w10; go_frame)
    | (go_at_call 9; (with_reducible change Calls _ _ #[x10] _ _); refine (dWide_num (hN10.below hM11.below)).mono ?_; rintro e w12 ⟨rfl, hB12⟩; have hM12 := hM11.on hB12; clear hB12 hM11; (try unfold WV); go_frame)
    | ((with_reducible change wpList _ _ _ (Oper.mk (some 13) _ _ _ _ _ :: _) _ _); refine mmAlloc hM12 _ _ rfl rfl zero_Wide ?_; intro w13 hM13; clear hM12; go_frame)
    | ((with_reducible change wpList _ _ _ (Oper.mk none (Op.store _ (Operand.tmp 13) (Operand.tmp 56)) _ _ _ _ :: _) _ _); refine mmStoreAt hM13 0 _ _ _ _ _ _ (wcells nN) rfl rfl rfl rfl rfl (info_WideC _) (by simp only [wcells_size]) (wcells_one _) ?_; intro w14 hM14; dsimp only [List.set] at hM14; clear hM13; go_frame)
    | ((with_reducible change wpList _ _ _ (Oper.mk (some 58) _ _ _ _ _ :: _) _ _); refine kLoadRow _ _ _ _ _ _ rfl rfl rfl (hM14.get 0 rfl) Tryd.underlying24 rfl (info_WideC _) ?_; go_frame)
    | ((with_reducible change wpList _ _ _ (Oper.mk (some 59) _ _ _ _ _ :: _) _ _); refine kFieldSig1 _ _ rfl rfl rfl ?_; go_frame)
    | ((with_reducible change wpList _ _ _ (Oper.mk (some 60) _ _ _ _ _ :: _) _ _); refine kLoadAs _ _ _ _ _ 4 _ _ _ rfl rfl rfl ((hM10.get 1 rfl).on hM14.below) Tryd.underlying24 rfl info_Wide (by rw [wcells2_size]; decide) (wcells2_at4 _ _) ?_; go_frame)
    | (go_at_call 23; (with_reducible change Calls _ _ #[Value.agg (wcells nN), Value.agg (wcells s0)] _ _); refine (wSub_fits mnN ms0 ht.out _).mono ?_; rintro e w15 ⟨rfl, hB15⟩; have hM15 := hM14.on hB15; clear hB15 hM14; (try unfold WV); go_frame)
    | ((with_reducible change wpList _ _ _ (Oper.mk (some 14) _ _ _ _ _ :: _) _ _); refine mmAlloc hM15 _ _ rfl rfl zero_Wide ?_; intro w16 hM16; clear hM15; go_frame)
    | ((with_reducible change wpList _ _ _ (Oper.mk none (Op.store _ (Operand.tmp 14) (Operand.tmp 62)) _ _ _ _ :: _) _ _); refine mmStoreAt hM16 0 _ _ _ _ _ _ (wcells t) rfl rfl rfl rfl rfl (info_WideC _) (by simp only [wcells_size]) (wcells_one _) ?_; intro w17 hM17; dsimp only [List.set] at hM17; clear hM16; go_frame)
    | ((with_reducible change wpList _ _ _ (Oper.mk (some 67) _ _ _ _ _ :: _) _ _); refine kLoadRow _ _ _ _ _ _ rfl rfl rfl (hM17.get 0 rfl) Tryd.underlying24 rfl (info_WideC _) ?_; go_frame)
    | ((with_reducible change wpList _ _ _ (Oper.mk (some 68) _ _ _ _ _ :: _) _ _); refine kFieldSig1 _ _ rfl rfl rfl ?_; go_frame)
    | ((with_reducible change wpList _ _ _ (Oper.mk (some 69) _ _ _ _ _ :: _) _ _); refine kLoadAs _ _ _ _ _ 4 _ _ _ rfl rfl rfl ((hM10.get 1 rfl).on hM17.below) Tryd.underlying24 rfl info_Wide (by rw [wcells2_size]; decide) (wcells2_at4 _ _) ?_; go_frame)
    | (go_at_call 24; (with_reducible change Calls _ _ #[Value.agg (wcells t), Value.agg (wcells s0)] _ _); refine (wLess_as mt ms0 hless.out _).mono ?_; rintro e w18 ⟨rfl, hB18⟩; have hM18 := hM17.on hB18; clear hB18 hM17; (try unfold WV); go_frame)
    | ((with_reducible change wpList _ _ _ (Oper.mk (some 74) _ _ _ _ _ :: _) _ _); refine kLoadRow _ _ _ _ _ _ rfl rfl rfl ((hM10.get 2 rfl).on hM18.below) Tryd.underlying30 rfl (info_ptc _) ?_; go_frame)
    | ((with_reducible change wpList _ _ _ (Oper.mk (some 75) _ _ _ _ _ :: _) _ _); refine kLoadRow _ _ _ _ _ _ rfl rfl rfl ((hM10.get 4 rfl).on hM18.below) Tryd.underlying40 rfl (info_HashC _) ?_; go_frame)
    | ((with_reducible change wpList _ _ _ (Oper.mk (some 76) _ _ _ _ _ :: _) _ _); refine kLoadRow _ _ _ _ _ _ rfl rfl rfl ((hM10.get 1 rfl).on hM18.below) Tryd.underlying35 rfl (info_SigC _ _) ?_; go_frame)
    | (go_at_call 20; (with_reducible change Calls _ _ #[Value.agg (ptc p), Value.agg (bcells f), Value.agg (wcells2 r0 s0)] _ _); refine (sVerify_as op mr0 ms0 hf Hz.out hv0.out _ ((hG.below hM10.below).below hM18.below) ((hO.below hM10.below).below hM18.below) ((hB.below hM10.below).below hM18.below) ((hN.below hM10.below).below hM18.below)).mono ?_; rintro e w19 ⟨rfl, hB19⟩; have hM19 := hM18.on hB19; clear hB19 hM18; (try unfold WV); go_frame)
    | ((with_reducible change wpList _ _ _ (Oper.mk (some 80) _ _ _ _ _ :: _) _ _); refine kLoadRow _ _ _ _ _ _ rfl rfl rfl ((hM10.get 2 rfl).on hM19.below) Tryd.underlying30 rfl (info_ptc _) ?_; go_frame)
    | ((with_reducible change wpList _ _ _ (Oper.mk (some 81) _ _ _ _ _ :: _) _ _); refine kLoadRow _ _ _ _ _ _ rfl rfl rfl ((hM10.get 4 rfl).on hM19.below) Tryd.underlying40 rfl (info_HashC _) ?_; go_frame)
    | ((with_reducible change wpList _ _ _ (Oper.mk (some 82) _ _ _ _ _ :: _) _ _); refine kLoadRow _ _ _ _ _ _ rfl rfl rfl ((hM10.get 0 rfl).on hM19.below) Tryd.underlying35 rfl (info_SigC _ _) ?_; go_frame)
    | (go_at_call 20; (with_reducible change Calls _ _ #[Value.agg (ptc p), Value.agg (bcells f), Value.agg (wcells2 r1 s1)] _ _); refine (sVerify_as op mr1 ms1 hf Hz.out hv1.out _ ((hG.below hM10.below).below hM19.below) ((hO.below hM10.below).below hM19.below) ((hB.below hM10.below).below hM19.below) ((hN.below hM10.below).below hM19.below)).mono ?_; rintro e w20 ⟨rfl, hB20⟩; have hM20 := hM19.on hB20; clear hB20 hM19; (try unfold WV); go_frame)
    | ((with_reducible change wpList _ _ _ (Oper.mk (some 86) _ _ _ _ _ :: _) _ _); refine kLoadRow _ _ _ _ _ _ rfl rfl rfl ((hM10.get 2 rfl).on hM20.below) Tryd.underlying30 rfl (info_ptc _) ?_; go_frame)
    | ((with_reducible change wpList _ _ _ (Oper.mk (some 87) _ _ _ _ _ :: _) _ _); refine kLoadRow _ _ _ _ _ _ rfl rfl rfl ((hM10.get 4 rfl).on hM20.below) Tryd.underlying40 rfl (info_HashC _) ?_; go_frame)
    | ((with_reducible change wpList _ _ _ (Oper.mk (some 88) _ _ _ _ _ :: _) _ _); refine kFieldSig0 _ _ rfl rfl rfl ?_; go_frame)
    | ((with_reducible change wpList _ _ _ (Oper.mk (some 89) _ _ _ _ _ :: _) _ _); refine kLoadAs _ _ _ _ _ 4 _ _ _ rfl rfl rfl ((hM10.get 1 rfl).on hM20.below) Tryd.underlying24 rfl info_Wide (by rw [wcells2_size]; decide) (wcells2_at0 _ _) ?_; go_frame)
    | ((with_reducible change wpList _ _ _ (Oper.mk (some 90) _ _ _ _ _ :: _) _ _); refine kLoadRow _ _ _ _ _ _ rfl rfl rfl (hM20.get 0 rfl) Tryd.underlying24 rfl (info_WideC _) ?_; go_frame)
    | ((with_reducible change wpList _ _ _ (Oper.mk (some 91) _ _ _ _ _ :: _) _ _); refine kBuildSig2 _ _ r0 t rfl rfl rfl rfl ?_; go_frame)
    | (go_at_call 20; (with_reducible change Calls _ _ #[Value.agg (ptc p), Value.agg (bcells f), Value.agg (wcells2 r0 t)] _ _); refine (sVerify_as op mr0 mt hf Hz.out hvt.out _ ((hG.below hM10.below).below hM20.below) ((hO.below hM10.below).below hM20.below) ((hB.below hM10.below).below hM20.below) ((hN.below hM10.below).below hM20.below)).mono ?_; rintro e w21 ⟨rfl, hB21⟩; have hM21 := hM20.on hB21; clear hB21 hM20; (try unfold WV); go_frame)
    | ((with_reducible change wpList _ _ _ (Oper.mk (some 96) _ _ _ _ _ :: _) _ _); refine kIndexAddr1 _ _ _ _ _ _ _ 0 _ rfl rfl rfl rfl Tryd.underlying58 info_u16 rfl (by decide) ?_; go_frame)
    | ((with_reducible change wpList _ _ _ (Oper.mk (some 97) _ _ _ _ _ :: _) _ _); refine kLoad1 _ _ _ _ _ _ _ _ rfl rfl rfl ((hM10.get 3 rfl).on hM21.below) Tryd.underlying50 rfl rfl ?_; go_frame)
    | ((with_reducible change wpList _ _ _ (Oper.mk (some 98) _ _ _ _ _ :: _) _ _); refine kIndexAddr1 _ _ _ _ _ _ _ 1 _ rfl rfl rfl rfl Tryd.underlying58 info_u16 rfl (by decide) ?_; go_frame)
    | ((with_reducible change wpList _ _ _ (Oper.mk (some 99) _ _ _ _ _ :: _) _ _); refine kLoad1 _ _ _ _ _ _ _ _ rfl rfl rfl ((hM10.get 3 rfl).on hM21.below) Tryd.underlying50 rfl rfl ?_; go_frame)
    | ((with_reducible change wpList _ _ _ (Oper.mk (some 100) _ _ _ _ _ :: _) _ _); refine kNeqI _ _ _ _ .u16 (j0 : Int) (j1 : Int) true rfl rfl rfl rfl (F100.out) ?_; go_frame))
  go_ret
  exact ⟨rfl, ((hM10.below).trans (hM21.below.mono (hM10.below).size))⟩
set_option maxRecDepth 100000 in
set_option maxHeartbeats 8000000 in
theorem SignHalf_4 {a j0 j1 : Nat} (ma : a < M256) {f : Nat → Nat} {z : Nat} (hf : ∀ i, f i < 256) (hz : zOf f = z) (hj0 : j0 < 65536) (hj1 : j1 < 65536) {r0 s0 r1 s1 : Nat} {e0 e1 : Int} (h0 : sgAns a z (j0 + 1) = (r0, s0, e0)) (h1 : sgAns a z (j1 + 1) = (r1, s1, e1)) (ha : isSec a = true) (he0 : e0 = 0) (he1 : e1 = 0) (hj : j0 = j1) (w : World) (hG : Glob 3 PP w) (hO : GlobP 2 0 0 true w) (hB : GlobPt 0 gPt w) (hN : Glob 1 NN w) : Calls Tryd.prog 8 #[WV a, .agg (bcells f), .agg #[.int .u16 (j0 : Int), .int .u16 (j1 : Int)]] w fun e w' => e = .returned (.bool true) ∧ Below w.heap.size w w' := by
  obtain ⟨k0, Hk0⟩ : ∃ n, Hid (j0 + 1 = n) := ⟨_, Lib.hid rfl⟩
  have h64k0 : k0 < 18446744073709551616 := by rw [← Hk0.out]; omega
  have mk0 : k0 < M256 := Nat.lt_trans h64k0 (by decide)
  have Ek0 := Lib.hid (show ((j0 + 1 : Nat) : Int) = (k0 : Int) by rw [Hk0.out])
  have H0 := Lib.hid (show sgAns a z k0 = (r0, s0, e0) by rw [← Hk0.out]; exact h0)
  obtain ⟨k1, Hk1⟩ : ∃ n, Hid (j1 + 1 = n) := ⟨_, Lib.hid rfl⟩
  have h64k1 : k1 < 18446744073709551616 := by rw [← Hk1.out]; omega
  have mk1 : k1 < M256 := Nat.lt_trans h64k1 (by decide)
  have Ek1 := Lib.hid (show ((j1 + 1 : Nat) : Int) = (k1 : Int) by rw [Hk1.out])
  have H1 := Lib.hid (show sgAns a z k1 = (r1, s1, e1) by rw [← Hk1.out]; exact h1)
  obtain ⟨p, Hp⟩ : ∃ p, Hid (Pt.times ivP gPt a = p) := ⟨_, Lib.hid rfl⟩
  have F49 := Lib.hid (show (!decide (e0 = 0)) = false by rw [decide_eq_true he0]; rfl)
  have F53 := Lib.hid (show (!decide (e1 = 0)) = false by rw [decide_eq_true he1]; rfl)
  have op : p.On := by rw [← Hp.out]; exact base_on _
  have hs0 := ans_zero h0 he0
  have hs1 := ans_zero h1 he1
  obtain ⟨c1, c2, c3⟩ := signOf_sec hs0
  obtain ⟨d1, d2, d3⟩ := signOf_sec hs1
  have mr0 := isSec_lt c1
  have ms0 := isSec_lt c2
  have mr1 := isSec_lt d1
  have ms1 := isSec_lt d2
  have hv0 := Lib.hid (show verifyB p z r0 s0 = true by rw [← Hp.out]; exact sign_verifies hs0)
  have hv1 := Lib.hid (show verifyB p z r1 s1 = true by rw [← Hp.out]; exact sign_verifies hs1)
  obtain ⟨nN, HnN⟩ : ∃ n, Hid (NN = n) := ⟨_, Lib.hid rfl⟩
  have mnN : nN < M256 := by rw [← HnN.out]; decide
  have hPN := Lib.hid (show PrimeIs false nN by rw [← HnN.out]; exact rPrime_false)
  obtain ⟨t, Ht⟩ : ∃ t, Hid (nN - s0 = t) := ⟨_, Lib.hid rfl⟩
  have hlt : s0 < nN := by rw [← HnN.out]; exact (isSec_iff.1 c2).2
  have mt : t < M256 := by rw [← Ht.out]; omega
  have ht := Lib.hid (show nN = t + s0 by rw [← Ht.out]; omega)
  have hhalf := half_less c2 c3
  rw [HnN.out, Ht.out] at hhalf
  have hless := Lib.hid (show decide (t < s0) = false from decide_eq_false (by omega))
  have hvt := Lib.hid (show verifyB p z r0 t = false from verify_hi hhalf.1)
  have F100 := Lib.hid (show (!decide ((j0 : Int) = (j1 : Int))) = false by rw [decide_eq_true (by omega)]; rfl)
  have F104 := Lib.hid (show r0 = r1 ∧ s0 = s1 by rw [hj, hs1] at hs0; simp only [Option.some.injEq, Prod.mk.injEq] at hs0; exact ⟨hs0.1.symm, hs0.2.symm⟩)
  clear hs0 hs1 c1 c2 c3 d1 d2 d3 hhalf hlt he0 he1 hj
  have Hz := Lib.hid hz
  clear hz
  replace ha := Lib.hid ha
  clear h0 h1
  have hM0 := mm_nil w
  (try unfold WV)
  go_enter Tryd.func8, Tryd.ntmps8
  go_wp2_with (first
    | ((with_reducible change wpList _ _ _ (Oper.mk (some 3) _ _ _ _ _ :: _) _ _); refine mmBox hM0 _ _ (wcells a) rfl rfl rfl ?_; intro w1 hM1; clear hM0; go_frame)
    | ((with_reducible change wpList _ _ _ (Oper.mk (some 4) _ _ _ _ _ :: _) _ _); refine mmBox hM1 _ _ (bcells f) rfl rfl rfl ?_; intro w2 hM2; clear hM1; go_frame)
    | ((with_reducible change wpList _ _ _ (Oper.mk (some 5) _ _ _ _ _ :: _) _ _); refine mmBox hM2 _ _ (#[.int .u16 (j0 : Int), .int .u16 (j1 : Int)]) rfl rfl rfl ?_; intro w3 hM3; clear hM2; go_frame)
    | (go_at_call 15; refine (signAlive_any _ (hG.below hM3.below) (hO.below hM3.below) (hB.below hM3.below) (hN.below hM3.below)).mono ?_; rintro e w4 ⟨rfl, hB4⟩; have hM4 := hM3.on hB4; clear hB4 hM3; (try unfold WV); go_frame)
    | ((with_reducible change wpList _ _ _ (Oper.mk (some 19) _ _ _ _ _ :: _) _ _); refine kLoadRow _ _ _ _ _ _ rfl rfl rfl (hM4.get 2 rfl) Tryd.underlying24 rfl (info_WideC _) ?_; go_frame)
    | (go_at_call 11; (with_reducible change Calls _ _ #[Value.agg (wcells a)] _ _); refine (sPublic_yes ma ha.out Hp.out _ (hG.below hM4.below) (hO.below hM4.below) (hB.below hM4.below) (hN.below hM4.below)).mono ?_; rintro e w5 ⟨rfl, hB5⟩; have hM5 := hM4.on hB5; clear hB5 hM4; (try unfold WV); go_frame)
    | ((with_reducible change wpList _ _ _ (Oper.mk (some 7) _ _ _ _ _ :: _) _ _); refine mmAlloc hM5 _ _ rfl rfl zero_Point ?_; intro w6 hM6; clear hM5; go_frame)
    | ((with_reducible change wpList _ _ _ (Oper.mk none (Op.store _ (Operand.tmp 7) (Operand.tmp 21)) _ _ _ _ :: _) _ _); refine mmStoreAt hM6 0 _ _ _ _ _ _ (ptc p) rfl rfl rfl rfl rfl (info_ptc _) (by simp only [pcells_size, ptc_size]) (ptc_one _) ?_; intro w7 hM7; dsimp only [List.set] at hM7; clear hM6; go_frame))
  refine region_sym (fun _ => 11) [.val (.agg (wcells a)), .val (.agg (bcells f)), .val (.pointer (some ⟨w2.heap.size, 0, none⟩)), .val (.int .u16 ((j0 : Int))), .val (.int .u64 ((j0 : Int))), .val (.int .u64 (((j0 + 1 : Nat) : Int))), .val (.agg (wcells k0)), .val (.tuple #[.agg (wcells2 r0 s0), .int .i64 (e0)]), .val (.tuple #[.agg (wcells2 r0 s0), .int .i64 (e0)]), .val (.agg (wcells2 r0 s0)), .val (.int .i64 (e0)), .fresh w7.heap.size 35 8, .hold w7.heap.size 35 (wcells2 r0 s0), .val (.int .i64 (e0))] [.val (.agg (wcells a)), .val (.agg (bcells f)), .val (.pointer (some ⟨w2.heap.size, 0, none⟩)), .val (.int .u16 ((j0 : Int))), .val (.int .u64 ((j0 : Int))), .val (.int .u64 (((j0 + 1 : Nat) : Int))), .val (.agg (wcells k0)), .val (.tuple #[.agg (wcells2 r0 s0), .int .i64 (e0)]), .val (.tuple #[.agg (wcells2 r0 s0), .int .i64 (e0)]), .val (.agg (wcells2 r0 s0)), .val (.int .i64 (e0)), .hold w7.heap.size 35 (wcells2 r0 s0), .val undef, .val (.int .i64 (e0))] (by kernel_rfl) (by kernel_rfl) rfl rfl (steps_all ⟨?_, ?_, ?_, ?_, ?_, ?_, ?_, ?_, ?_, ?_, ?_, ?_, ?_, ?_, trivial⟩) ?_
  · intro A W hsz hoth hbel hdep
    exact kLoadRow _ _ _ _ _ _ rfl rfl ((hoth 3 (free2_of (by kernel_rfl))).trans rfl) ((hM7.get 3 rfl).on hbel) Tryd.underlying24 rfl (info_WideC _) (symV hbel hsz rfl rfl (show 24 < 107 by decide) (Below.refl _ _) rfl)
  · intro A W hsz hoth hbel hdep
    exact kLoadRow _ _ _ _ _ _ rfl rfl ((hoth 4 (free2_of (by kernel_rfl))).trans rfl) ((hM7.get 2 rfl).on hbel) Tryd.underlying40 rfl (info_HashC _) (symV hbel hsz rfl rfl (show 25 < 107 by decide) (Below.refl _ _) rfl)
  · intro A W hsz hoth hbel hdep
    exact kIndexAddr1 _ _ _ _ _ _ _ 0 _ rfl rfl ((hoth 5 (free2_of (by kernel_rfl))).trans rfl) rfl Tryd.underlying58 info_u16 rfl (by decide) (symV hbel hsz rfl rfl (show 26 < 107 by decide) (Below.refl _ _) rfl)
  · intro A W hsz hoth hbel hdep
    exact kLoad1 _ _ _ _ _ _ _ _ rfl rfl (by have h := hdep ⟨2, .data⟩ (by simp) rfl; exact h) ((hM7.get 1 rfl).on hbel) Tryd.underlying50 rfl rfl (symV hbel hsz rfl rfl (show 27 < 107 by decide) (Below.refl _ _) rfl)
  · intro A W hsz hoth hbel hdep
    exact kConvU16 _ j0 hj0 rfl rfl (by have h := hdep ⟨3, .data⟩ (by simp) rfl; exact h)  (symV hbel hsz rfl rfl (show 28 < 107 by decide) (Below.refl _ _) rfl)
  · intro A W hsz hoth hbel hdep
    exact kAddU _ _ _ _ j0 1 rfl rfl (by have h := hdep ⟨4, .data⟩ (by simp) rfl; exact h) rfl (by omega) (symV hbel hsz rfl rfl (show 29 < 107 by decide) (Below.refl _ _) rfl)
  · intro A W hsz hoth hbel hdep
    refine kCall1 13 _ _ _ rfl rfl (by kernel_rfl) (by have h := hdep ⟨5, .data⟩ (by simp) rfl; exact h) ?_
    refine (wOf_lit k0 ((j0 + 1 : Nat) : Int) h64k0 Ek0.out W).mono ?_
    rintro e r ⟨rfl, hBc⟩
    exact ⟨_, rfl, (symV hbel hsz rfl rfl (show 30 < 107 by decide) hBc rfl)⟩
  · intro A W hsz hoth hbel hdep
    refine kCall3 12 _ _ _ _ _ _ _ rfl rfl (by kernel_rfl) (by have h := hdep ⟨0, .data⟩ (by simp) rfl; exact h) (by have h := hdep ⟨1, .data⟩ (by simp) rfl; exact h) (by have h := hdep ⟨6, .data⟩ (by simp) rfl; exact h) ?_
    refine (sSign_ans ma mk0 hf Hz.out H0.out W ((hG.below hM7.below).below hbel) ((hO.below hM7.below).below hbel) ((hB.below hM7.below).below hbel) ((hN.below hM7.below).below hbel)).mono ?_
    rintro e r ⟨rfl, hBc⟩
    exact ⟨_, rfl, (symV hbel hsz rfl rfl (show 31 < 107 by decide) hBc rfl)⟩
  · intro A W hsz hoth hbel hdep
    exact kMoveV _ _ rfl rfl (by have h := hdep ⟨7, .data⟩ (by simp) rfl; exact h) (symV hbel hsz rfl rfl (show 23 < 107 by decide) (Below.refl _ _) rfl)
  · intro A W hsz hoth hbel hdep
    exact kExtract _ _ _ (.agg (wcells2 r0 s0)) rfl rfl (by have h := hdep ⟨8, .data⟩ (by simp) rfl; exact h) rfl (symV hbel hsz rfl rfl (show 32 < 107 by decide) (Below.refl _ _) rfl)
  · intro A W hsz hoth hbel hdep
    exact kExtract _ _ _ (.int .i64 (e0)) rfl rfl (by have h := hdep ⟨8, .data⟩ (by simp) rfl; exact h) rfl (symV hbel hsz rfl rfl (show 33 < 107 by decide) (Below.refl _ _) rfl)
  · intro A W hsz hoth hbel hdep
    refine kAllocL _ _ rfl rfl zero_Sig ?_
    intro r hR hl hBc
    exact (symV hbel hsz rfl rfl (show 9 < 107 by decide) hBc ⟨_, _, rfl, hbel.size, wcells2_size _ _, hR⟩)
  · intro A W hsz hoth hbel hdep
    obtain ⟨g, cs, d8, hg, hcs, hR⟩ : ∃ g cs, A.tmps.getD 9 undef = .pointer (some ⟨g, 0, none⟩) ∧ w7.heap.size ≤ g ∧ cs.size = 8 ∧ Row W g 35 cs := (by have h := hdep ⟨11, .data⟩ (by simp) rfl; exact h)
    refine kStoreRow _ _ _ _ _ _ (wcells2 r0 s0) rfl rfl d8 (by have h := hdep ⟨9, .data⟩ (by simp) rfl; exact h) hR (info_SigC _ _) (by rw [wcells2_size, hcs]) (wcells2_one _ _) ?_
    intro r hR2 hW
    exact symW hbel rfl hW hg hR2 (by simp only [Singles, and_self, wcells2_size]) ⟨g, d8, hg, hR2⟩
  · intro A W hsz hoth hbel hdep
    exact kAssignV _ _ rfl rfl (by have h := hdep ⟨10, .data⟩ (by simp) rfl; exact h) (symV hbel hsz rfl rfl (show 10 < 107 by decide) (Below.refl _ _) rfl)
  intro w8 hB8
  dsimp only [AllV]
  intro g8_9 hg8_9 hR8_9
  dsimp only [putAll]
  go_frame
  have hM8 := hM7.on hB8
  replace hM8 := hM8.cons hR8_9 (Nat.le_trans hM7.size hg8_9) (fun p hp => by have := hM7.lt hp; omega)
  clear hB8 hM7 hg8_9 hR8_9
  go_wp2_with fail
  refine region_sym (fun _ => 11) [.val (.agg (wcells a)), .val (.agg (bcells f)), .val (.pointer (some ⟨w2.heap.size, 1, none⟩)), .val (.int .u16 ((j1 : Int))), .val (.int .u64 ((j1 : Int))), .val (.int .u64 (((j1 + 1 : Nat) : Int))), .val (.agg (wcells k1)), .val (.tuple #[.agg (wcells2 r1 s1), .int .i64 (e1)]), .val (.tuple #[.agg (wcells2 r1 s1), .int .i64 (e1)]), .val (.agg (wcells2 r1 s1)), .val (.int .i64 (e1)), .fresh w8.heap.size 35 8, .hold w8.heap.size 35 (wcells2 r1 s1), .val (.int .i64 (e1))] [.val (.agg (wcells a)), .val (.agg (bcells f)), .val (.pointer (some ⟨w2.heap.size, 1, none⟩)), .val (.int .u16 ((j1 : Int))), .val (.int .u64 ((j1 : Int))), .val (.int .u64 (((j1 + 1 : Nat) : Int))), .val (.agg (wcells k1)), .val (.tuple #[.agg (wcells2 r1 s1), .int .i64 (e1)]), .val (.tuple #[.agg (wcells2 r1 s1), .int .i64 (e1)]), .val (.agg (wcells2 r1 s1)), .val (.int .i64 (e1)), .hold w8.heap.size 35 (wcells2 r1 s1), .val undef, .val (.int .i64 (e1))] (by kernel_rfl) (by kernel_rfl) rfl rfl (steps_all ⟨?_, ?_, ?_, ?_, ?_, ?_, ?_, ?_, ?_, ?_, ?_, ?_, ?_, ?_, trivial⟩) ?_
  · intro A W hsz hoth hbel hdep
    exact kLoadRow _ _ _ _ _ _ rfl rfl ((hoth 3 (free2_of (by kernel_rfl))).trans rfl) ((hM8.get 4 rfl).on hbel) Tryd.underlying24 rfl (info_WideC _) (symV hbel hsz rfl rfl (show 35 < 107 by decide) (Below.refl _ _) rfl)
  · intro A W hsz hoth hbel hdep
    exact kLoadRow _ _ _ _ _ _ rfl rfl ((hoth 4 (free2_of (by kernel_rfl))).trans rfl) ((hM8.get 3 rfl).on hbel) Tryd.underlying40 rfl (info_HashC _) (symV hbel hsz rfl rfl (show 36 < 107 by decide) (Below.refl _ _) rfl)
  · intro A W hsz hoth hbel hdep
    exact kIndexAddr1 _ _ _ _ _ _ _ 1 _ rfl rfl ((hoth 5 (free2_of (by kernel_rfl))).trans rfl) rfl Tryd.underlying58 info_u16 rfl (by decide) (symV hbel hsz rfl rfl (show 37 < 107 by decide) (Below.refl _ _) rfl)
  · intro A W hsz hoth hbel hdep
    exact kLoad1 _ _ _ _ _ _ _ _ rfl rfl (by have h := hdep ⟨2, .data⟩ (by simp) rfl; exact h) ((hM8.get 2 rfl).on hbel) Tryd.underlying50 rfl rfl (symV hbel hsz rfl rfl (show 38 < 107 by decide) (Below.refl _ _) rfl)
  · intro A W hsz hoth hbel hdep
    exact kConvU16 _ j1 hj1 rfl rfl (by have h := hdep ⟨3, .data⟩ (by simp) rfl; exact h)  (symV hbel hsz rfl rfl (show 39 < 107 by decide) (Below.refl _ _) rfl)
  · intro A W hsz hoth hbel hdep
    exact kAddU _ _ _ _ j1 1 rfl rfl (by have h := hdep ⟨4, .data⟩ (by simp) rfl; exact h) rfl (by omega) (symV hbel hsz rfl rfl (show 40 < 107 by decide) (Below.refl _ _) rfl)
  · intro A W hsz hoth hbel hdep
    refine kCall1 13 _ _ _ rfl rfl (by kernel_rfl) (by have h := hdep ⟨5, .data⟩ (by simp) rfl; exact h) ?_
    refine (wOf_lit k1 ((j1 + 1 : Nat) : Int) h64k1 Ek1.out W).mono ?_
    rintro e r ⟨rfl, hBc⟩
    exact ⟨_, rfl, (symV hbel hsz rfl rfl (show 41 < 107 by decide) hBc rfl)⟩
  · intro A W hsz hoth hbel hdep
    refine kCall3 12 _ _ _ _ _ _ _ rfl rfl (by kernel_rfl) (by have h := hdep ⟨0, .data⟩ (by simp) rfl; exact h) (by have h := hdep ⟨1, .data⟩ (by simp) rfl; exact h) (by have h := hdep ⟨6, .data⟩ (by simp) rfl; exact h) ?_
    refine (sSign_ans ma mk1 hf Hz.out H1.out W ((hG.below hM8.below).below hbel) ((hO.below hM8.below).below hbel) ((hB.below hM8.below).below hbel) ((hN.below hM8.below).below hbel)).mono ?_
    rintro e r ⟨rfl, hBc⟩
    exact ⟨_, rfl, (symV hbel hsz rfl rfl (show 42 < 107 by decide) hBc rfl)⟩
  · intro A W hsz hoth hbel hdep
    exact kMoveV _ _ rfl rfl (by have h := hdep ⟨7, .data⟩ (by simp) rfl; exact h) (symV hbel hsz rfl rfl (show 34 < 107 by decide) (Below.refl _ _) rfl)
  · intro A W hsz hoth hbel hdep
    exact kExtract _ _ _ (.agg (wcells2 r1 s1)) rfl rfl (by have h := hdep ⟨8, .data⟩ (by simp) rfl; exact h) rfl (symV hbel hsz rfl rfl (show 43 < 107 by decide) (Below.refl _ _) rfl)
  · intro A W hsz hoth hbel hdep
    exact kExtract _ _ _ (.int .i64 (e1)) rfl rfl (by have h := hdep ⟨8, .data⟩ (by simp) rfl; exact h) rfl (symV hbel hsz rfl rfl (show 44 < 107 by decide) (Below.refl _ _) rfl)
  · intro A W hsz hoth hbel hdep
    refine kAllocL _ _ rfl rfl zero_Sig ?_
    intro r hR hl hBc
    exact (symV hbel hsz rfl rfl (show 11 < 107 by decide) hBc ⟨_, _, rfl, hbel.size, wcells2_size _ _, hR⟩)
  · intro A W hsz hoth hbel hdep
    obtain ⟨g, cs, d8, hg, hcs, hR⟩ : ∃ g cs, A.tmps.getD 11 undef = .pointer (some ⟨g, 0, none⟩) ∧ w8.heap.size ≤ g ∧ cs.size = 8 ∧ Row W g 35 cs := (by have h := hdep ⟨11, .data⟩ (by simp) rfl; exact h)
    refine kStoreRow _ _ _ _ _ _ (wcells2 r1 s1) rfl rfl d8 (by have h := hdep ⟨9, .data⟩ (by simp) rfl; exact h) hR (info_SigC _ _) (by rw [wcells2_size, hcs]) (wcells2_one _ _) ?_
    intro r hR2 hW
    exact symW hbel rfl hW hg hR2 (by simp only [Singles, and_self, wcells2_size]) ⟨g, d8, hg, hR2⟩
  · intro A W hsz hoth hbel hdep
    exact kAssignV _ _ rfl rfl (by have h := hdep ⟨10, .data⟩ (by simp) rfl; exact h) (symV hbel hsz rfl rfl (show 12 < 107 by decide) (Below.refl _ _) rfl)
  intro w9 hB9
  dsimp only [AllV]
  intro g9_11 hg9_11 hR9_11
  dsimp only [putAll]
  go_frame
  have hM9 := hM8.on hB9
  replace hM9 := hM9.cons hR9_11 (Nat.le_trans hM8.size hg9_11) (fun p hp => by have := hM8.lt hp; omega)
  clear hB9 hM8 hg9_11 hR9_11
  go_wp2_with (first
    | ((with_reducible change wpList _ _ _ (Oper.mk (some 46) _ _ _ _ _ :: _) _ _); refine kNeqI _ _ _ _ .i64 (0) (0) false rfl rfl rfl rfl (by decide) ?_; go_frame)
    | ((with_reducible change wpList _ _ _ (Oper.mk (some 49) _ _ _ _ _ :: _) _ _); refine kNeqI _ _ _ _ .i64 (e0) (0) false rfl rfl rfl rfl (F49.out) ?_; go_frame)
    | ((with_reducible change wpList _ _ _ (Oper.mk (some 53) _ _ _ _ _ :: _) _ _); refine kNeqI _ _ _ _ .i64 (e1) (0) false rfl rfl rfl rfl (F53.out) ?_; go_frame)
    | (go_at_call 10; (with_reducible change Calls _ _ #[Value.bool false] _ _); refine (hPN.out _).mono ?_; rintro e w10 ⟨x10, rfl, hN10, hB10⟩; have hM10 := hM9.on hB10; clear hB10 hM9; have hM11 := mm_nil w10; go_frame)
    | (go_at_call 9; (with_reducible change Calls _ _ #[x10] _ _); refine (dWide_num (hN10.below hM11.below)).mono ?_; rintro e w12 ⟨rfl, hB12⟩; have hM12 := hM11.on hB12; clear hB12 hM11; (try unfold WV); go_frame)
    | ((with_reducible change wpList _ _ _ (Oper.mk (some 13) _ _ _ _ _ :: _) _ _); refine mmAlloc hM12 _ _ rfl rfl zero_Wide ?_; intro w13 hM13; clear hM12; go_frame)
    | ((with_reducible change wpList _ _ _ (Oper.mk none (Op.store _ (Operand.tmp 13) (Operand.tmp 56)) _ _ _ _ :: _) _ _); refine mmStoreAt hM13 0 _ _ _ _ _ _ (wcells nN) rfl rfl rfl rfl rfl (info_WideC _) (by simp only [wcells_size]) (wcells_one _) ?_; intro w14 hM14; dsimp only [List.set] at hM14; clear hM13; go_frame)
    | ((with_reducible change wpList _ _ _ (Oper.mk (some 58) _ _ _ _ _ :: _) _ _); refine kLoadRow _ _ _ _ _ _ rfl rfl rfl (hM14.get 0 rfl) Tryd.underlying24 rfl (info_WideC _) ?_; go_frame)
    | ((with_reducible change wpList _ _ _ (Oper.mk (some 59) _ _ _ _ _ :: _) _ _); refine kFieldSig1 _ _ rfl rfl rfl ?_; go_frame)
    | ((with_reducible change wpList _ _ _ (Oper.mk (some 60) _ _ _ _ _ :: _) _ _); refine kLoadAs _ _ _ _ _ 4 _ _ _ rfl rfl rfl ((hM10.get 1 rfl).on hM14.below) Tryd.underlying24 rfl info_Wide (by rw [wcells2_size]; decide) (wcells2_at4 _ _) ?_; go_frame)
    | (go_at_call 23; (with_reducible change Calls _ _ #[Value.agg (wcells nN), Value.agg (wcells s0)] _ _); refine (wSub_fits mnN ms0 ht.out _).mono ?_; rintro e w15 ⟨rfl, hB15⟩; have hM15 := hM14.on hB15; clear hB15 hM14; (try unfold WV); go_frame)
    | ((with_reducible change wpList _ _ _ (Oper.mk (some 14) _ _ _ _ _ :: _) _ _); refine mmAlloc hM15 _ _ rfl rfl zero_Wide ?_; intro w16 hM16; clear hM15; go_frame)
    | ((with_reducible change wpList _ _ _ (Oper.mk none (Op.store _ (Operand.tmp 14) (Operand.tmp 62)) _ _ _ _ :: _) _ _); refine mmStoreAt hM16 0 _ _ _ _ _ _ (wcells t) rfl rfl rfl rfl rfl (info_WideC _) (by simp only [wcells_size]) (wcells_one _) ?_; intro w17 hM17; dsimp only [List.set] at hM17; clear hM16; go_frame)
    | ((with_reducible change wpList _ _ _ (Oper.mk (some 67) _ _ _ _ _ :: _) _ _); refine kLoadRow _ _ _ _ _ _ rfl rfl rfl (hM17.get 0 rfl) Tryd.underlying24 rfl (info_WideC _) ?_; go_frame)
    | ((with_reducible change wpList _ _ _ (Oper.mk (some 68) _ _ _ _ _ :: _) _ _); refine kFieldSig1 _ _ rfl rfl rfl ?_; go_frame)
    | ((with_reducible change wpList _ _ _ (Oper.mk (some 69) _ _ _ _ _ :: _) _ _); refine kLoadAs _ _ _ _ _ 4 _ _ _ rfl rfl rfl ((hM10.get 1 rfl).on hM17.below) Tryd.underlying24 rfl info_Wide (by rw [wcells2_size]; decide) (wcells2_at4 _ _) ?_; go_frame)
    | (go_at_call 24; (with_reducible change Calls _ _ #[Value.agg (wcells t), Value.agg (wcells s0)] _ _); refine (wLess_as mt ms0 hless.out _).mono ?_; rintro e w18 ⟨rfl, hB18⟩; have hM18 := hM17.on hB18; clear hB18 hM17; (try unfold WV); go_frame)
    | ((with_reducible change wpList _ _ _ (Oper.mk (some 74) _ _ _ _ _ :: _) _ _); refine kLoadRow _ _ _ _ _ _ rfl rfl rfl ((hM10.get 2 rfl).on hM18.below) Tryd.underlying30 rfl (info_ptc _) ?_; go_frame)
    | ((with_reducible change wpList _ _ _ (Oper.mk (some 75) _ _ _ _ _ :: _) _ _); refine kLoadRow _ _ _ _ _ _ rfl rfl rfl ((hM10.get 4 rfl).on hM18.below) Tryd.underlying40 rfl (info_HashC _) ?_; go_frame)
    | ((with_reducible change wpList _ _ _ (Oper.mk (some 76) _ _ _ _ _ :: _) _ _); refine kLoadRow _ _ _ _ _ _ rfl rfl rfl ((hM10.get 1 rfl).on hM18.below) Tryd.underlying35 rfl (info_SigC _ _) ?_; go_frame)
    | (go_at_call 20; (with_reducible change Calls _ _ #[Value.agg (ptc p), Value.agg (bcells f), Value.agg (wcells2 r0 s0)] _ _); refine (sVerify_as op mr0 ms0 hf Hz.out hv0.out _ ((hG.below hM10.below).below hM18.below) ((hO.below hM10.below).below hM18.below) ((hB.below hM10.below).below hM18.below) ((hN.below hM10.below).below hM18.below)).mono ?_; rintro e w19 ⟨rfl, hB19⟩; have hM19 := hM18.on hB19; clear hB19 hM18; (try unfold WV); go_frame)
    | ((with_reducible change wpList _ _ _ (Oper.mk (some 80) _ _ _ _ _ :: _) _ _); refine kLoadRow _ _ _ _ _ _ rfl rfl rfl ((hM10.get 2 rfl).on hM19.below) Tryd.underlying30 rfl (info_ptc _) ?_; go_frame)
    | ((with_reducible change wpList _ _ _ (Oper.mk (some 81) _ _ _ _ _ :: _) _ _); refine kLoadRow _ _ _ _ _ _ rfl rfl rfl ((hM10.get 4 rfl).on hM19.below) Tryd.underlying40 rfl (info_HashC _) ?_; go_frame)
    | ((with_reducible change wpList _ _ _ (Oper.mk (some 82) _ _ _ _ _ :: _) _ _); refine kLoadRow _ _ _ _ _ _ rfl rfl rfl ((hM10.get 0 rfl).on hM19.below) Tryd.underlying35 rfl (info_SigC _ _) ?_; go_frame)
    | (go_at_call 20; (with_reducible change Calls _ _ #[Value.agg (ptc p), Value.agg (bcells f), Value.agg (wcells2 r1 s1)] _ _); refine (sVerify_as op mr1 ms1 hf Hz.out hv1.out _ ((hG.below hM10.below).below hM19.below) ((hO.below hM10.below).below hM19.below) ((hB.below hM10.below).below hM19.below) ((hN.below hM10.below).below hM19.below)).mono ?_; rintro e w20 ⟨rfl, hB20⟩; have hM20 := hM19.on hB20; clear hB20 hM19; (try unfold WV); go_frame)
    | ((with_reducible change wpList _ _ _ (Oper.mk (some 86) _ _ _ _ _ :: _) _ _); refine kLoadRow _ _ _ _ _ _ rfl rfl rfl ((hM10.get 2 rfl).on hM20.below) Tryd.underlying30 rfl (info_ptc _) ?_; go_frame)
    | ((with_reducible change wpList _ _ _ (Oper.mk (some 87) _ _ _ _ _ :: _) _ _); refine kLoadRow _ _ _ _ _ _ rfl rfl rfl ((hM10.get 4 rfl).on hM20.below) Tryd.underlying40 rfl (info_HashC _) ?_; go_frame)
    | ((with_reducible change wpList _ _ _ (Oper.mk (some 88) _ _ _ _ _ :: _) _ _); refine kFieldSig0 _ _ rfl rfl rfl ?_; go_frame)
    | ((with_reducible change wpList _ _ _ (Oper.mk (some 89) _ _ _ _ _ :: _) _ _); refine kLoadAs _ _ _ _ _ 4 _ _ _ rfl rfl rfl ((hM10.get 1 rfl).on hM20.below) Tryd.underlying24 rfl info_Wide (by rw [wcells2_size]; decide) (wcells2_at0 _ _) ?_; go_frame)
    | ((with_reducible change wpList _ _ _ (Oper.mk (some 90) _ _ _ _ _ :: _) _ _); refine kLoadRow _ _ _ _ _ _ rfl rfl rfl (hM20.get 0 rfl) Tryd.underlying24 rfl (info_WideC _) ?_; go_frame)
    | ((with_reducible change wpList _ _ _ (Oper.mk (some 91) _ _ _ _ _ :: _) _ _); refine kBuildSig2 _ _ r0 t rfl rfl rfl rfl ?_; go_frame)
    | (go_at_call 20; (with_reducible change Calls _ _ #[Value.agg (ptc p), Value.agg (bcells f), Value.agg (wcells2 r0 t)] _ _); refine (sVerify_as op mr0 mt hf Hz.out hvt.out _ ((hG.below hM10.below).below hM20.below) ((hO.below hM10.below).below hM20.below) ((hB.below hM10.below).below hM20.below) ((hN.below hM10.below).below hM20.below)).mono ?_; rintro e w21 ⟨rfl, hB21⟩; have hM21 := hM20.on hB21; clear hB21 hM20; (try unfold WV); go_frame)
    | ((with_reducible change wpList _ _ _ (Oper.mk (some 96) _ _ _ _ _ :: _) _ _); refine kIndexAddr1 _ _ _ _ _ _ _ 0 _ rfl rfl rfl rfl Tryd.underlying58 info_u16 rfl (by decide) ?_; go_frame)
    | ((with_reducible change wpList _ _ _ (Oper.mk (some 97) _ _ _ _ _ :: _) _ _); refine kLoad1 _ _ _ _ _ _ _ _ rfl rfl rfl ((hM10.get 3 rfl).on hM21.below) Tryd.underlying50 rfl rfl ?_; go_frame)
    | ((with_reducible change wpList _ _ _ (Oper.mk (some 98) _ _ _ _ _ :: _) _ _); refine kIndexAddr1 _ _ _ _ _ _ _ 1 _ rfl rfl rfl rfl Tryd.underlying58 info_u16 rfl (by decide) ?_; go_frame)
    | ((with_reducible change wpList _ _ _ (Oper.mk (some 99) _ _ _ _ _ :: _) _ _); refine kLoad1 _ _ _ _ _ _ _ _ rfl rfl rfl ((hM10.get 3 rfl).on hM21.below) Tryd.underlying50 rfl rfl ?_; go_frame)
    | ((with_reducible change wpList _ _ _ (Oper.mk (some 100) _ _ _ _ _ :: _) _ _); refine kNeqI _ _ _ _ .u16 (j0 : Int) (j1 : Int) false rfl rfl rfl rfl (F100.out) ?_; go_frame)
    | ((with_reducible change wpList _ _ _ (Oper.mk (some 102) _ _ _ _ _ :: _) _ _); refine kLoadRow _ _ _ _ _ _ rfl rfl rfl ((hM10.get 1 rfl).on hM21.below) Tryd.underlying35 rfl (info_SigC _ _) ?_; go_frame)
    | ((with_reducible change wpList _ _ _ (Oper.mk (some 103) _ _ _ _ _ :: _) _ _); refine kLoadRow _ _ _ _ _ _ rfl rfl rfl ((hM10.get 0 rfl).on hM21.below) Tryd.underlying35 rfl (info_SigC _ _) ?_; go_frame)
    | ((with_reducible change wpList _ _ _ (Oper.mk (some 104) _ _ _ _ _ :: _) _ _); refine kEqlS _ _ _ r0 s0 r1 s1 true rfl rfl rfl rfl (eqS_yes F104.out) ?_; go_frame))
  go_ret
  exact ⟨rfl, ((hM10.below).trans (hM21.below.mono (hM10.below).size))⟩
theorem SignHalf_any {a j0 j1 : Nat} (ma : a < M256) {f : Nat → Nat} {z : Nat} (hf : ∀ i, f i < 256) (hz : zOf f = z) (hj0 : j0 < 65536) (hj1 : j1 < 65536) (w : World) (hG : Glob 3 PP w) (hO : GlobP 2 0 0 true w) (hB : GlobPt 0 gPt w) (hN : Glob 1 NN w) : Calls Tryd.prog 8 #[WV a, .agg (bcells f), .agg #[.int .u16 (j0 : Int), .int .u16 (j1 : Int)]] w fun e w' => e = .returned (.bool true) ∧ Below w.heap.size w w' := by
  have h0 : sgAns a z (j0 + 1) = ((sgAns a z (j0 + 1)).1, (sgAns a z (j0 + 1)).2.1, (sgAns a z (j0 + 1)).2.2) := rfl
  have h1 : sgAns a z (j1 + 1) = ((sgAns a z (j1 + 1)).1, (sgAns a z (j1 + 1)).2.1, (sgAns a z (j1 + 1)).2.2) := rfl
  cases ha : isSec a with
  | false => exact SignHalf_0 ma hf hz hj0 hj1 h0 h1 ha w hG hO hB hN
  | true =>
    by_cases he0 : (sgAns a z (j0 + 1)).2.2 = 0
    · by_cases he1 : (sgAns a z (j1 + 1)).2.2 = 0
      · by_cases hj : j0 = j1
        · exact SignHalf_4 ma hf hz hj0 hj1 h0 h1 ha he0 he1 hj w hG hO hB hN
        · exact SignHalf_3 ma hf hz hj0 hj1 h0 h1 ha he0 he1 hj w hG hO hB hN
      · exact SignHalf_2 ma hf hz hj0 hj1 h0 h1 ha he0 he1 w hG hO hB hN
    · exact SignHalf_1 ma hf hz hj0 hj1 h0 h1 ha he0 w hG hO hB hN
end Go.Proofs.YtfgffjmpjoipeaaDoor
