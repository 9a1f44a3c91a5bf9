/-
  The walk of the statement FieldFolds.
-/
import Derived.Test.YtajpdmcbdekpbaaDoorFRef4
namespace Go.Proofs.YtajpdmcbdekpbaaDoor
open Go Go.RowKit

theorem app_num {w : World} {v : Value} {a b base : Nat} (ma : a < M256) (mb : b < M256) (h : w.ownsRow base 23 1 v ((digsOf a 16).map VU ++ (digsOf b 16).map VU).length ((digsOf a 16).map VU ++ (digsOf b 16).map VU)) : Num w v (a + M256 * b) 32 := by
  refine ⟨digsOf a 16 ++ digsOf b 16, (digsOf_digs a 16).append (digsOf_digs b 16), ?_, ?_, by simp [digsOf_len]⟩
  · unfold Dig; rw [List.map_append]; exact isVals_own h
  · rw [dval_append, digsOf_16 a ma, digsOf_16 b mb, digsOf_len, P16_16]
set_option maxRecDepth 100000 in
set_option maxHeartbeats 8000000 in
theorem FieldFolds_true (a : Nat) (ma : a < M256) (b : Nat) (mb : b < M256) (w : World) (hG : Glob 0 PP w) :
    Calls Tryd.prog 5 #[.bool true, WV a, WV b] w fun e w' => e = .returned (.bool true) ∧ Below w.heap.size w w' := by
  obtain ⟨m, Hm⟩ : ∃ m, Hid (m = PP) := ⟨_, Lib.hid rfl⟩
  have hm : Modu m := by rw [Hm.out]; exact modu_P
  have hP : PrimeIs true m := by rw [Hm.out]; exact rPrime_true
  have hR : Glob 0 m w := by rw [Hm.out]; exact hG
  obtain ⟨ix, hix, hzx, hsx, hbx⟩ := w64Info
  obtain ⟨al, Hal⟩ : ∃ n, Hid (a + M256 * b = n) := ⟨_, Lib.hid rfl⟩
  obtain ⟨v19, Hv19⟩ : ∃ n, Hid ((a + b * M256) % m = n) := ⟨_, Lib.hid rfl⟩
  have mv19 : v19 < M256 := by rw [← Hv19.out]; exact hm.mod _
  obtain ⟨v22, Hv22⟩ : ∃ n, Hid (al % m = n) := ⟨_, Lib.hid rfl⟩
  have mv22 : v22 < M256 := by rw [← Hv22.out]; exact hm.mod _
  have F24 := Lib.hid (eqlW_yes (show v19 = v22 by rw [← Hv19.out, ← Hv22.out, ← Hal.out, Nat.mul_comm b]))
  have hM0 := mm_nil w
  (try unfold WV)
  go_enter Tryd.func5, Tryd.ntmps5
  go_wp2_with (first
    | ((with_reducible change wpList _ _ _ (Oper.mk (some 4) _ _ _ _ _ :: _) _ _); refine mmBox hM0 _ _ _ rfl rfl rfl ?_; intro w1 hM1; clear hM0; go_frame)
    | ((with_reducible change wpList _ _ _ (Oper.mk (some 5) _ _ _ _ _ :: _) _ _); refine mmBox hM1 _ _ _ rfl rfl rfl ?_; intro w2 hM2; clear hM1; go_frame)
    | (go_at_call 10; refine (fieldAlive_any _ (hG.below hM2.below)).mono ?_; rintro e w3 ⟨rfl, hB3⟩; have hM3 := hM2.on hB3; clear hB3 hM2; (try unfold WV); go_frame))
  refine region_mixP [(0, true), (2, true), (1, false), (3, false), (4, false)] (fun w' => Row w' (w.heap.size) 25 (wcells a) ∧ Row w' (w1.heap.size) 25 (wcells b)) (by kernel_rfl) (by kernel_rfl) rfl ?_
  intro wd hBd hsd
  have hMd := hM3.on hBd
  simp only [List.length_cons, List.length_nil, List.drop_succ_cons, List.drop_zero, List.map_cons, List.map_nil]
  dsimp only [List.filterMap, List.getElem?_cons_zero, List.getElem?_cons_succ]
  refine mixLoadRow _ _ _ _ _ _ ⟨hMd.get 1 rfl, hMd.get 0 rfl⟩ rfl rfl rfl (fun _ h => h.1) Tryd.underlying25 rfl (info_WideC _) ?_; go_frame
  refine mixLoadRow _ _ _ _ _ _ ⟨hMd.get 1 rfl, hMd.get 0 rfl⟩ rfl rfl rfl (fun _ h => h.2) Tryd.underlying25 rfl (info_WideC _) ?_; go_frame
  refine mixLoud ?_
  refine kCall1 29 _ _ _ rfl rfl (by kernel_rfl) rfl ?_
  refine (dOf_own a _).mono ?_
  rintro e wA ⟨xA, rfl, hOA, hBA⟩
  have hMA := hMd.on hBA
  refine ⟨_, rfl, mixOn ⟨⟨hMA.get 1 rfl, hMA.get 0 rfl⟩, ?_⟩⟩
  go_frame
  refine mixLoud ?_
  refine kCall1 29 _ _ _ rfl rfl (by kernel_rfl) rfl ?_
  refine (dOf_any b _).mono ?_
  rintro e wB ⟨xB, rfl, hDB, hBB⟩
  have hMB := hMA.on hBB
  refine ⟨_, rfl, mixOn ⟨⟨hMB.get 1 rfl, hMB.get 0 rfl⟩, ?_⟩⟩
  go_frame
  have hOA' := ownsRow_below hOA hBB
  have hsA := hBA.size
  have hsB := hBB.size
  have hl1 : ((digsOf a 16).map VU).length = 16 := by rw [List.length_map, digsOf_len]
  have hl2 : ((digsOf b 16).map VU).length = 16 := by rw [List.length_map, digsOf_len]
  refine mixLoud ?_
  refine kAppend _ _ _ _ rfl rfl wd.heap.size ix _ Tryd.underlying35 hix hzx hsx rfl _ _ _ _ rfl hOA' rfl hDB (vu_one _) (by rw [hl1, hl2]; decide) (by rw [hl1, hl2, hbx]; decide) (by omega) ?_
  intro xC wC hOC hGC
  have hBC : Below wd.heap.size wB wC := below_grown hOA' hGC (by omega)
  have hBall : Below wd.heap.size wd wC := (hBA.trans (hBB.mono hsA)).trans hBC
  have hMC := hMd.on hBall
  refine mixOn ⟨⟨hMC.get 1 rfl, hMC.get 0 rfl⟩, ?_⟩
  go_frame
  refine mixEnd ?_
  refine kAssignV _ _ rfl rfl rfl ?_; go_frame
  have hNC := app_num ma mb hOC
  rw [Hal.out] at hNC
  clear hMA hMB hMd hM3 hOC hOA hOA' hDB hGC hBC hBall hBA hBB hBd hsd hl1 hl2 hsA hsB
  have hM4 := mm_nil wC
  go_wp2_with fail
  refine region_sym (fun _ => 0) [.val (.bool true), .hold wC.heap.size 54 (wcells m), .val (.agg (wcells a)), .val (.agg (wcells b)), .val (.agg (wcells v19)), .val (xC), .val (.bool true), .prop (fun w v => NumT w v (v22)) (fun _ _ _ hb h => h.below hb), .val (.agg (wcells v22)), .val (.bool true), .val (.bool true)] [.val (.bool true), .hold wC.heap.size 54 (wcells m), .val (.agg (wcells a)), .val (.agg (wcells b)), .val (.agg (wcells v19)), .val (xC), .val (.bool true), .prop (fun w v => NumT w v (v22)) (fun _ _ _ hb h => h.below hb), .val (.agg (wcells v22)), .val (.bool true), .val (.bool true)] (by kernel_rfl) (by kernel_rfl) rfl rfl (steps_all ⟨?_, ?_, ?_, ?_, ?_, ?_, ?_, ?_, ?_, ?_, ?_, trivial⟩) ?_
  · intro A W hsz hoth hbel hdep
    exact kMoveV _ (.bool true) rfl rfl ((hoth 0 (free2_of (by kernel_rfl))).trans rfl) (symV hbel hsz rfl rfl (show 15 < 25 by decide) (Below.refl _ _) rfl)
  · intro A W hsz hoth hbel hdep
    refine kCall1 19 _ _ _ rfl rfl (by kernel_rfl) (by have h := hdep ⟨0, .data⟩ (by simp) rfl; exact h) ?_
    refine (ring_true m _ (((hR.below hMC.below).below hM4.below).below hbel)).mono ?_
    rintro e r ⟨rfl, hRn, hBc⟩
    exact ⟨_, rfl, (symV hbel hsz rfl rfl (show 16 < 25 by decide) hBc ⟨_, rfl, hbel.size, hRn⟩)⟩
  · intro A W hsz hoth hbel hdep
    exact kLoadRow _ _ _ _ _ _ rfl rfl ((hoth 4 (free2_of (by kernel_rfl))).trans rfl) (((hMC.get 1 rfl).on hM4.below).on hbel) Tryd.underlying25 rfl (info_WideC _) (symV hbel hsz rfl rfl (show 17 < 25 by decide) (Below.refl _ _) rfl)
  · intro A W hsz hoth hbel hdep
    exact kLoadRow _ _ _ _ _ _ rfl rfl ((hoth 5 (free2_of (by kernel_rfl))).trans rfl) (((hMC.get 0 rfl).on hM4.below).on hbel) Tryd.underlying25 rfl (info_WideC _) (symV hbel hsz rfl rfl (show 18 < 25 by decide) (Below.refl _ _) rfl)
  · intro A W hsz hoth hbel hdep
    obtain ⟨g, dg, hg, hRg⟩ : ∃ g, A.tmps.getD 16 undef = .pointer (some ⟨g, 0, none⟩) ∧ wC.heap.size ≤ g ∧ Row W g 54 (wcells m) := (by have h := hdep ⟨1, .data⟩ (by simp) rfl; exact h)
    refine kCall3 30 _ _ _ _ _ _ _ rfl rfl (by kernel_rfl) dg (by have h := hdep ⟨2, .data⟩ (by simp) rfl; exact h) (by have h := hdep ⟨3, .data⟩ (by simp) rfl; exact h) ?_
    refine (fFold_as hm (g) ma mb Hv19.out W hRg).mono ?_
    rintro e r ⟨rfl, hBc⟩
    exact ⟨_, rfl, (symV hbel hsz rfl rfl (show 19 < 25 by decide) hBc rfl)⟩
  · intro A W hsz hoth hbel hdep
    exact kMoveV _ (xC) rfl rfl ((hoth 7 (free2_of (by kernel_rfl))).trans rfl) (symV hbel hsz rfl rfl (show 20 < 25 by decide) (Below.refl _ _) rfl)
  · intro A W hsz hoth hbel hdep
    exact kMoveV _ (.bool true) rfl rfl ((hoth 0 (free2_of (by kernel_rfl))).trans rfl) (symV hbel hsz rfl rfl (show 21 < 25 by decide) (Below.refl _ _) rfl)
  · intro A W hsz hoth hbel hdep
    refine kCall2 31 _ _ _ _ _ rfl rfl (by kernel_rfl) (by have h := hdep ⟨5, .data⟩ (by simp) rfl; exact h) (by have h := hdep ⟨6, .data⟩ (by simp) rfl; exact h) ?_
    refine (rMod_as hm hP ((hNC.below hM4.below).below hbel) (by decide) Hv22.out).mono ?_
    rintro e r ⟨xx, rfl, hNx, hBc⟩
    exact ⟨_, rfl, (symV hbel hsz rfl rfl (show 22 < 25 by decide) hBc hNx)⟩
  · intro A W hsz hoth hbel hdep
    have hN22 := (show NumT W (A.tmps.getD 22 undef) (v22) from (by have h := hdep ⟨7, .data⟩ (by simp) rfl; exact h))
    refine kCall1 17 _ _ _ rfl rfl (by kernel_rfl) (rfl : A.eval (Operand.tmp 22) = A.tmps.getD 22 undef) ?_
    refine (dWide_numT hN22).mono ?_
    rintro e r ⟨rfl, hBc⟩
    exact ⟨_, rfl, (symV hbel hsz rfl rfl (show 23 < 25 by decide) hBc rfl)⟩
  · intro A W hsz hoth hbel hdep
    exact kEqlW _ _ _ (v19) (v22) true rfl rfl (by have h := hdep ⟨4, .data⟩ (by simp) rfl; exact h) (by have h := hdep ⟨8, .data⟩ (by simp) rfl; exact h) (F24.out) (symV hbel hsz rfl rfl (show 24 < 25 by decide) (Below.refl _ _) rfl)
  · intro A W hsz hoth hbel hdep
    exact kAssignV _ (.bool true) rfl rfl (by have h := hdep ⟨9, .data⟩ (by simp) rfl; exact h) (symV hbel hsz rfl rfl (show 6 < 25 by decide) (Below.refl _ _) rfl)
  intro w5 hB5
  dsimp only [AllV]
  intro g5_16 hg5_16 hR5_16
  intro x5_22 hN5_22
  dsimp only [putAll]
  go_frame
  have hM5 := hM4.on hB5
  clear hB5 hM4
  have hM6 := mm_nil w5
  go_wp2_with fail
  go_ret
  exact ⟨rfl, ((((hMC.below).trans (hM5.below.mono (hMC.below).size))).trans (hM6.below.mono (((hMC.below).trans (hM5.below.mono (hMC.below).size))).size))⟩
set_option maxRecDepth 100000 in
set_option maxHeartbeats 8000000 in
theorem FieldFolds_false (a : Nat) (ma : a < M256) (b : Nat) (mb : b < M256) (w : World) (hG : Glob 0 PP w) (hN : Glob 1 NN w) :
    Calls Tryd.prog 5 #[.bool false, WV a, WV b] w fun e w' => e = .returned (.bool true) ∧ Below w.heap.size w w' := by
  obtain ⟨m, Hm⟩ : ∃ m, Hid (m = NN) := ⟨_, Lib.hid rfl⟩
  have hm : Modu m := by rw [Hm.out]; exact modu_N
  have hP : PrimeIs false m := by rw [Hm.out]; exact rPrime_false
  have hR : Glob 1 m w := by rw [Hm.out]; exact hN
  obtain ⟨ix, hix, hzx, hsx, hbx⟩ := w64Info
  obtain ⟨al, Hal⟩ : ∃ n, Hid (a + M256 * b = n) := ⟨_, Lib.hid rfl⟩
  obtain ⟨v19, Hv19⟩ : ∃ n, Hid ((a + b * M256) % m = n) := ⟨_, Lib.hid rfl⟩
  have mv19 : v19 < M256 := by rw [← Hv19.out]; exact hm.mod _
  obtain ⟨v22, Hv22⟩ : ∃ n, Hid (al % m = n) := ⟨_, Lib.hid rfl⟩
  have mv22 : v22 < M256 := by rw [← Hv22.out]; exact hm.mod _
  have F24 := Lib.hid (eqlW_yes (show v19 = v22 by rw [← Hv19.out, ← Hv22.out, ← Hal.out, Nat.mul_comm b]))
  have hM0 := mm_nil w
  (try unfold WV)
  go_enter Tryd.func5, Tryd.ntmps5
  go_wp2_with (first
    | ((with_reducible change wpList _ _ _ (Oper.mk (some 4) _ _ _ _ _ :: _) _ _); refine mmBox hM0 _ _ _ rfl rfl rfl ?_; intro w1 hM1; clear hM0; go_frame)
    | ((with_reducible change wpList _ _ _ (Oper.mk (some 5) _ _ _ _ _ :: _) _ _); refine mmBox hM1 _ _ _ rfl rfl rfl ?_; intro w2 hM2; clear hM1; go_frame)
    | (go_at_call 10; refine (fieldAlive_any _ (hG.below hM2.below)).mono ?_; rintro e w3 ⟨rfl, hB3⟩; have hM3 := hM2.on hB3; clear hB3 hM2; (try unfold WV); go_frame))
  refine region_mixP [(0, true), (2, true), (1, false), (3, false), (4, false)] (fun w' => Row w' (w.heap.size) 25 (wcells a) ∧ Row w' (w1.heap.size) 25 (wcells b)) (by kernel_rfl) (by kernel_rfl) rfl ?_
  intro wd hBd hsd
  have hMd := hM3.on hBd
  simp only [List.length_cons, List.length_nil, List.drop_succ_cons, List.drop_zero, List.map_cons, List.map_nil]
  dsimp only [List.filterMap, List.getElem?_cons_zero, List.getElem?_cons_succ]
  refine mixLoadRow _ _ _ _ _ _ ⟨hMd.get 1 rfl, hMd.get 0 rfl⟩ rfl rfl rfl (fun _ h => h.1) Tryd.underlying25 rfl (info_WideC _) ?_; go_frame
  refine mixLoadRow _ _ _ _ _ _ ⟨hMd.get 1 rfl, hMd.get 0 rfl⟩ rfl rfl rfl (fun _ h => h.2) Tryd.underlying25 rfl (info_WideC _) ?_; go_frame
  refine mixLoud ?_
  refine kCall1 29 _ _ _ rfl rfl (by kernel_rfl) rfl ?_
  refine (dOf_own a _).mono ?_
  rintro e wA ⟨xA, rfl, hOA, hBA⟩
  have hMA := hMd.on hBA
  refine ⟨_, rfl, mixOn ⟨⟨hMA.get 1 rfl, hMA.get 0 rfl⟩, ?_⟩⟩
  go_frame
  refine mixLoud ?_
  refine kCall1 29 _ _ _ rfl rfl (by kernel_rfl) rfl ?_
  refine (dOf_any b _).mono ?_
  rintro e wB ⟨xB, rfl, hDB, hBB⟩
  have hMB := hMA.on hBB
  refine ⟨_, rfl, mixOn ⟨⟨hMB.get 1 rfl, hMB.get 0 rfl⟩, ?_⟩⟩
  go_frame
  have hOA' := ownsRow_below hOA hBB
  have hsA := hBA.size
  have hsB := hBB.size
  have hl1 : ((digsOf a 16).map VU).length = 16 := by rw [List.length_map, digsOf_len]
  have hl2 : ((digsOf b 16).map VU).length = 16 := by rw [List.length_map, digsOf_len]
  refine mixLoud ?_
  refine kAppend _ _ _ _ rfl rfl wd.heap.size ix _ Tryd.underlying35 hix hzx hsx rfl _ _ _ _ rfl hOA' rfl hDB (vu_one _) (by rw [hl1, hl2]; decide) (by rw [hl1, hl2, hbx]; decide) (by omega) ?_
  intro xC wC hOC hGC
  have hBC : Below wd.heap.size wB wC := below_grown hOA' hGC (by omega)
  have hBall : Below wd.heap.size wd wC := (hBA.trans (hBB.mono hsA)).trans hBC
  have hMC := hMd.on hBall
  refine mixOn ⟨⟨hMC.get 1 rfl, hMC.get 0 rfl⟩, ?_⟩
  go_frame
  refine mixEnd ?_
  refine kAssignV _ _ rfl rfl rfl ?_; go_frame
  have hNC := app_num ma mb hOC
  rw [Hal.out] at hNC
  clear hMA hMB hMd hM3 hOC hOA hOA' hDB hGC hBC hBall hBA hBB hBd hsd hl1 hl2 hsA hsB
  have hM4 := mm_nil wC
  go_wp2_with fail
  refine region_sym (fun _ => 0) [.val (.bool false), .hold wC.heap.size 54 (wcells m), .val (.agg (wcells a)), .val (.agg (wcells b)), .val (.agg (wcells v19)), .val (xC), .val (.bool false), .prop (fun w v => NumT w v (v22)) (fun _ _ _ hb h => h.below hb), .val (.agg (wcells v22)), .val (.bool true), .val (.bool true)] [.val (.bool false), .hold wC.heap.size 54 (wcells m), .val (.agg (wcells a)), .val (.agg (wcells b)), .val (.agg (wcells v19)), .val (xC), .val (.bool false), .prop (fun w v => NumT w v (v22)) (fun _ _ _ hb h => h.below hb), .val (.agg (wcells v22)), .val (.bool true), .val (.bool true)] (by kernel_rfl) (by kernel_rfl) rfl rfl (steps_all ⟨?_, ?_, ?_, ?_, ?_, ?_, ?_, ?_, ?_, ?_, ?_, trivial⟩) ?_
  · intro A W hsz hoth hbel hdep
    exact kMoveV _ (.bool false) rfl rfl ((hoth 0 (free2_of (by kernel_rfl))).trans rfl) (symV hbel hsz rfl rfl (show 15 < 25 by decide) (Below.refl _ _) rfl)
  · intro A W hsz hoth hbel hdep
    refine kCall1 19 _ _ _ rfl rfl (by kernel_rfl) (by have h := hdep ⟨0, .data⟩ (by simp) rfl; exact h) ?_
    refine (ring_false m _ (((hR.below hMC.below).below hM4.below).below hbel)).mono ?_
    rintro e r ⟨rfl, hRn, hBc⟩
    exact ⟨_, rfl, (symV hbel hsz rfl rfl (show 16 < 25 by decide) hBc ⟨_, rfl, hbel.size, hRn⟩)⟩
  · intro A W hsz hoth hbel hdep
    exact kLoadRow _ _ _ _ _ _ rfl rfl ((hoth 4 (free2_of (by kernel_rfl))).trans rfl) (((hMC.get 1 rfl).on hM4.below).on hbel) Tryd.underlying25 rfl (info_WideC _) (symV hbel hsz rfl rfl (show 17 < 25 by decide) (Below.refl _ _) rfl)
  · intro A W hsz hoth hbel hdep
    exact kLoadRow _ _ _ _ _ _ rfl rfl ((hoth 5 (free2_of (by kernel_rfl))).trans rfl) (((hMC.get 0 rfl).on hM4.below).on hbel) Tryd.underlying25 rfl (info_WideC _) (symV hbel hsz rfl rfl (show 18 < 25 by decide) (Below.refl _ _) rfl)
  · intro A W hsz hoth hbel hdep
    obtain ⟨g, dg, hg, hRg⟩ : ∃ g, A.tmps.getD 16 undef = .pointer (some ⟨g, 0, none⟩) ∧ wC.heap.size ≤ g ∧ Row W g 54 (wcells m) := (by have h := hdep ⟨1, .data⟩ (by simp) rfl; exact h)
    refine kCall3 30 _ _ _ _ _ _ _ rfl rfl (by kernel_rfl) dg (by have h := hdep ⟨2, .data⟩ (by simp) rfl; exact h) (by have h := hdep ⟨3, .data⟩ (by simp) rfl; exact h) ?_
    refine (fFold_as hm (g) ma mb Hv19.out W hRg).mono ?_
    rintro e r ⟨rfl, hBc⟩
    exact ⟨_, rfl, (symV hbel hsz rfl rfl (show 19 < 25 by decide) hBc rfl)⟩
  · intro A W hsz hoth hbel hdep
    exact kMoveV _ (xC) rfl rfl ((hoth 7 (free2_of (by kernel_rfl))).trans rfl) (symV hbel hsz rfl rfl (show 20 < 25 by decide) (Below.refl _ _) rfl)
  · intro A W hsz hoth hbel hdep
    exact kMoveV _ (.bool false) rfl rfl ((hoth 0 (free2_of (by kernel_rfl))).trans rfl) (symV hbel hsz rfl rfl (show 21 < 25 by decide) (Below.refl _ _) rfl)
  · intro A W hsz hoth hbel hdep
    refine kCall2 31 _ _ _ _ _ rfl rfl (by kernel_rfl) (by have h := hdep ⟨5, .data⟩ (by simp) rfl; exact h) (by have h := hdep ⟨6, .data⟩ (by simp) rfl; exact h) ?_
    refine (rMod_as hm hP ((hNC.below hM4.below).below hbel) (by decide) Hv22.out).mono ?_
    rintro e r ⟨xx, rfl, hNx, hBc⟩
    exact ⟨_, rfl, (symV hbel hsz rfl rfl (show 22 < 25 by decide) hBc hNx)⟩
  · intro A W hsz hoth hbel hdep
    have hN22 := (show NumT W (A.tmps.getD 22 undef) (v22) from (by have h := hdep ⟨7, .data⟩ (by simp) rfl; exact h))
    refine kCall1 17 _ _ _ rfl rfl (by kernel_rfl) (rfl : A.eval (Operand.tmp 22) = A.tmps.getD 22 undef) ?_
    refine (dWide_numT hN22).mono ?_
    rintro e r ⟨rfl, hBc⟩
    exact ⟨_, rfl, (symV hbel hsz rfl rfl (show 23 < 25 by decide) hBc rfl)⟩
  · intro A W hsz hoth hbel hdep
    exact kEqlW _ _ _ (v19) (v22) true rfl rfl (by have h := hdep ⟨4, .data⟩ (by simp) rfl; exact h) (by have h := hdep ⟨8, .data⟩ (by simp) rfl; exact h) (F24.out) (symV hbel hsz rfl rfl (show 24 < 25 by decide) (Below.refl _ _) rfl)
  · intro A W hsz hoth hbel hdep
    exact kAssignV _ (.bool true) rfl rfl (by have h := hdep ⟨9, .data⟩ (by simp) rfl; exact h) (symV hbel hsz rfl rfl (show 6 < 25 by decide) (Below.refl _ _) rfl)
  intro w5 hB5
  dsimp only [AllV]
  intro g5_16 hg5_16 hR5_16
  intro x5_22 hN5_22
  dsimp only [putAll]
  go_frame
  have hM5 := hM4.on hB5
  clear hB5 hM4
  have hM6 := mm_nil w5
  go_wp2_with fail
  go_ret
  exact ⟨rfl, ((((hMC.below).trans (hM5.below.mono (hMC.below).size))).trans (hM6.below.mono (((hMC.below).trans (hM5.below.mono (hMC.below).size))).size))⟩
end Go.Proofs.YtajpdmcbdekpbaaDoor
