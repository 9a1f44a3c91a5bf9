/-
  Package sign: the contract of Verify.
-/
import Derived.Test.YtfgffjmpjoipeaaDoorSgSign
namespace Go.Proofs.YtfgffjmpjoipeaaDoor
open Go Go.RowKit

open Cv
set_option maxRecDepth 100000 in
set_option maxHeartbeats 8000000 in
theorem sVerify_r {p : Pt PP} {r s : Nat} (mr : r < M256) {f : Nat → Nat} (hr : isSec r = false) (w : World) (hN : Glob 1 NN w) : Calls Tryd.prog 20 #[.agg (ptc p), .agg (bcells f), .agg (wcells2 r s)] w fun e w' => e = .returned (.bool false) ∧ Below w.heap.size w w' := by
  obtain ⟨m, Hm⟩ : ∃ m, Hid (m = NN) := ⟨_, Lib.hid rfl⟩
  have hm : Modu m := by rw [Hm.out]; exact modu_N
  rw [← Hm.out] at hN
  replace hr := Lib.hid hr
  have hM0 := mm_nil w
  (try unfold WV)
  go_enter Tryd.func20, Tryd.ntmps20
  go_wp2_with (first
    | ((with_reducible change wpList _ _ _ (Oper.mk (some 3) _ _ _ _ _ :: _) _ _); refine mmBox hM0 _ _ (ptc p) rfl rfl rfl ?_; intro w1 hM1; clear hM0; go_frame)
    | ((with_reducible change wpList _ _ _ (Oper.mk (some 4) _ _ _ _ _ :: _) _ _); refine mmBox hM1 _ _ (bcells f) rfl rfl rfl ?_; intro w2 hM2; clear hM1; go_frame)
    | ((with_reducible change wpList _ _ _ (Oper.mk (some 5) _ _ _ _ _ :: _) _ _); refine mmBox hM2 _ _ (wcells2 r s) rfl rfl rfl ?_; intro w3 hM3; clear hM2; go_frame)
    | ((with_reducible change wpList _ _ _ (Oper.mk (some 8) _ _ _ _ _ :: _) _ _); refine kFieldSig0 _ _ rfl rfl rfl ?_; go_frame)
    | ((with_reducible change wpList _ _ _ (Oper.mk (some 9) _ _ _ _ _ :: _) _ _); refine kLoadAs _ _ _ _ _ 4 _ _ _ rfl rfl rfl (hM3.get 0 rfl) Tryd.underlying24 rfl info_Wide (by rw [wcells2_size]; decide) (wcells2_at0 _ _) ?_; go_frame)
    | (go_at_call 26; (with_reducible change Calls _ _ #[Value.agg (wcells r)] _ _); refine (isSecret_nn mr hr.out Hm.out _ (hN.below hM3.below)).mono ?_; rintro e w4 ⟨rfl, hB4⟩; have hM4 := hM3.on hB4; clear hB4 hM3; (try unfold WV); go_frame))
  go_ret
  exact ⟨rfl, hM4.below⟩
set_option maxRecDepth 100000 in
set_option maxHeartbeats 8000000 in
theorem sVerify_s {p : Pt PP} {r s : Nat} (mr : r < M256) (ms : s < M256) {f : Nat → Nat} (hr : isSec r = true) (hs : isSec s = false) (w : World) (hN : Glob 1 NN w) : Calls Tryd.prog 20 #[.agg (ptc p), .agg (bcells f), .agg (wcells2 r s)] w fun e w' => e = .returned (.bool false) ∧ Below w.heap.size w w' := by
  obtain ⟨m, Hm⟩ : ∃ m, Hid (m = NN) := ⟨_, Lib.hid rfl⟩
  have hm : Modu m := by rw [Hm.out]; exact modu_N
  rw [← Hm.out] at hN
  replace hr := Lib.hid hr
  replace hs := Lib.hid hs
  have hM0 := mm_nil w
  (try unfold WV)
  go_enter Tryd.func20, Tryd.ntmps20
  go_wp2_with (first
    | ((with_reducible change wpList _ _ _ (Oper.mk (some 3) _ _ _ _ _ :: _) _ _); refine mmBox hM0 _ _ (ptc p) rfl rfl rfl ?_; intro w1 hM1; clear hM0; go_frame)
    | ((with_reducible change wpList _ _ _ (Oper.mk (some 4) _ _ _ _ _ :: _) _ _); refine mmBox hM1 _ _ (bcells f) rfl rfl rfl ?_; intro w2 hM2; clear hM1; go_frame)
    | ((with_reducible change wpList _ _ _ (Oper.mk (some 5) _ _ _ _ _ :: _) _ _); refine mmBox hM2 _ _ (wcells2 r s) rfl rfl rfl ?_; intro w3 hM3; clear hM2; go_frame)
    | ((with_reducible change wpList _ _ _ (Oper.mk (some 8) _ _ _ _ _ :: _) _ _); refine kFieldSig0 _ _ rfl rfl rfl ?_; go_frame)
    | ((with_reducible change wpList _ _ _ (Oper.mk (some 9) _ _ _ _ _ :: _) _ _); refine kLoadAs _ _ _ _ _ 4 _ _ _ rfl rfl rfl (hM3.get 0 rfl) Tryd.underlying24 rfl info_Wide (by rw [wcells2_size]; decide) (wcells2_at0 _ _) ?_; go_frame)
    | (go_at_call 26; (with_reducible change Calls _ _ #[Value.agg (wcells r)] _ _); refine (isSecret_nn mr hr.out Hm.out _ (hN.below hM3.below)).mono ?_; rintro e w4 ⟨rfl, hB4⟩; have hM4 := hM3.on hB4; clear hB4 hM3; (try unfold WV); go_frame)
    | ((with_reducible change wpList _ _ _ (Oper.mk (some 13) _ _ _ _ _ :: _) _ _); refine kFieldSig1 _ _ rfl rfl rfl ?_; go_frame)
    | ((with_reducible change wpList _ _ _ (Oper.mk (some 14) _ _ _ _ _ :: _) _ _); refine kLoadAs _ _ _ _ _ 4 _ _ _ rfl rfl rfl (hM4.get 0 rfl) Tryd.underlying24 rfl info_Wide (by rw [wcells2_size]; decide) (wcells2_at4 _ _) ?_; go_frame)
    | (go_at_call 26; (with_reducible change Calls _ _ #[Value.agg (wcells s)] _ _); refine (isSecret_nn ms hs.out Hm.out _ (hN.below hM4.below)).mono ?_; rintro e w5 ⟨rfl, hB5⟩; have hM5 := hM4.on hB5; clear hB5 hM4; (try unfold WV); go_frame))
  go_ret
  exact ⟨rfl, hM5.below⟩
set_option maxRecDepth 100000 in
set_option maxHeartbeats 8000000 in
theorem sVerify_h {p : Pt PP} {r s : Nat} (mr : r < M256) (ms : s < M256) {f : Nat → Nat} (hr : isSec r = true) (hs : isSec s = true) (hb : isHi s = true) (w : World) (hN : Glob 1 NN w) : Calls Tryd.prog 20 #[.agg (ptc p), .agg (bcells f), .agg (wcells2 r s)] w fun e w' => e = .returned (.bool false) ∧ Below w.heap.size w w' := by
  obtain ⟨m, Hm⟩ : ∃ m, Hid (m = NN) := ⟨_, Lib.hid rfl⟩
  have hm : Modu m := by rw [Hm.out]; exact modu_N
  rw [← Hm.out] at hN
  replace hr := Lib.hid hr
  replace hs := Lib.hid hs
  replace hb := Lib.hid hb
  have hM0 := mm_nil w
  (try unfold WV)
  go_enter Tryd.func20, Tryd.ntmps20
  go_wp2_with (first
    | ((with_reducible change wpList _ _ _ (Oper.mk (some 3) _ _ _ _ _ :: _) _ _); refine mmBox hM0 _ _ (ptc p) rfl rfl rfl ?_; intro w1 hM1; clear hM0; go_frame)
    | ((with_reducible change wpList _ _ _ (Oper.mk (some 4) _ _ _ _ _ :: _) _ _); refine mmBox hM1 _ _ (bcells f) rfl rfl rfl ?_; intro w2 hM2; clear hM1; go_frame)
    | ((with_reducible change wpList _ _ _ (Oper.mk (some 5) _ _ _ _ _ :: _) _ _); refine mmBox hM2 _ _ (wcells2 r s) rfl rfl rfl ?_; intro w3 hM3; clear hM2; go_frame)
    | ((with_reducible change wpList _ _ _ (Oper.mk (some 8) _ _ _ _ _ :: _) _ _); refine kFieldSig0 _ _ rfl rfl rfl ?_; go_frame)
    | ((with_reducible change wpList _ _ _ (Oper.mk (some 9) _ _ _ _ _ :: _) _ _); refine kLoadAs _ _ _ _ _ 4 _ _ _ rfl rfl rfl (hM3.get 0 rfl) Tryd.underlying24 rfl info_Wide (by rw [wcells2_size]; decide) (wcells2_at0 _ _) ?_; go_frame)
    | (go_at_call 26; (with_reducible change Calls _ _ #[Value.agg (wcells r)] _ _); refine (isSecret_nn mr hr.out Hm.out _ (hN.below hM3.below)).mono ?_; rintro e w4 ⟨rfl, hB4⟩; have hM4 := hM3.on hB4; clear hB4 hM3; (try unfold WV); go_frame)
    | ((with_reducible change wpList _ _ _ (Oper.mk (some 13) _ _ _ _ _ :: _) _ _); refine kFieldSig1 _ _ rfl rfl rfl ?_; go_frame)
    | ((with_reducible change wpList _ _ _ (Oper.mk (some 14) _ _ _ _ _ :: _) _ _); refine kLoadAs _ _ _ _ _ 4 _ _ _ rfl rfl rfl (hM4.get 0 rfl) Tryd.underlying24 rfl info_Wide (by rw [wcells2_size]; decide) (wcells2_at4 _ _) ?_; go_frame)
    | (go_at_call 26; (with_reducible change Calls _ _ #[Value.agg (wcells s)] _ _); refine (isSecret_nn ms hs.out Hm.out _ (hN.below hM4.below)).mono ?_; rintro e w5 ⟨rfl, hB5⟩; have hM5 := hM4.on hB5; clear hB5 hM4; (try unfold WV); go_frame)
    | ((with_reducible change wpList _ _ _ (Oper.mk (some 19) _ _ _ _ _ :: _) _ _); refine kFieldSig1 _ _ rfl rfl rfl ?_; go_frame)
    | ((with_reducible change wpList _ _ _ (Oper.mk (some 20) _ _ _ _ _ :: _) _ _); refine kLoadAs _ _ _ _ _ 4 _ _ _ rfl rfl rfl (hM5.get 0 rfl) Tryd.underlying24 rfl info_Wide (by rw [wcells2_size]; decide) (wcells2_at4 _ _) ?_; go_frame)
    | (go_at_call 35; (with_reducible change Calls _ _ #[Value.agg (wcells s)] _ _); refine (isHigh_nn ms hb.out Hm.out _ (hN.below hM5.below)).mono ?_; rintro e w6 ⟨rfl, hB6⟩; have hM6 := hM5.on hB6; clear hB6 hM5; (try unfold WV); go_frame))
  go_ret
  exact ⟨rfl, hM6.below⟩
set_option maxRecDepth 100000 in
set_option maxHeartbeats 8000000 in
theorem sVerify_o {p : Pt PP} {r s : Nat} (mr : r < M256) (ms : s < M256) {f : Nat → Nat} (hr : isSec r = true) (hs : isSec s = true) (hb : isHi s = false) (hp : pN p = true) (w : World) (hN : Glob 1 NN w) : Calls Tryd.prog 20 #[.agg (ptc p), .agg (bcells f), .agg (wcells2 r s)] w fun e w' => e = .returned (.bool false) ∧ Below w.heap.size w w' := by
  obtain ⟨m, Hm⟩ : ∃ m, Hid (m = NN) := ⟨_, Lib.hid rfl⟩
  have hm : Modu m := by rw [Hm.out]; exact modu_N
  rw [← Hm.out] at hN
  have F24 := Lib.hid (show (ptc p)[8]? = some (.bool true) by rw [pN_at, hp])
  replace hr := Lib.hid hr
  replace hs := Lib.hid hs
  replace hb := Lib.hid hb
  have hM0 := mm_nil w
  (try unfold WV)
  go_enter Tryd.func20, Tryd.ntmps20
  go_wp2_with (first
    | ((with_reducible change wpList _ _ _ (Oper.mk (some 3) _ _ _ _ _ :: _) _ _); refine mmBox hM0 _ _ (ptc p) rfl rfl rfl ?_; intro w1 hM1; clear hM0; go_frame)
    | ((with_reducible change wpList _ _ _ (Oper.mk (some 4) _ _ _ _ _ :: _) _ _); refine mmBox hM1 _ _ (bcells f) rfl rfl rfl ?_; intro w2 hM2; clear hM1; go_frame)
    | ((with_reducible change wpList _ _ _ (Oper.mk (some 5) _ _ _ _ _ :: _) _ _); refine mmBox hM2 _ _ (wcells2 r s) rfl rfl rfl ?_; intro w3 hM3; clear hM2; go_frame)
    | ((with_reducible change wpList _ _ _ (Oper.mk (some 8) _ _ _ _ _ :: _) _ _); refine kFieldSig0 _ _ rfl rfl rfl ?_; go_frame)
    | ((with_reducible change wpList _ _ _ (Oper.mk (some 9) _ _ _ _ _ :: _) _ _); refine kLoadAs _ _ _ _ _ 4 _ _ _ rfl rfl rfl (hM3.get 0 rfl) Tryd.underlying24 rfl info_Wide (by rw [wcells2_size]; decide) (wcells2_at0 _ _) ?_; go_frame)
    | (go_at_call 26; (with_reducible change Calls _ _ #[Value.agg (wcells r)] _ _); refine (isSecret_nn mr hr.out Hm.out _ (hN.below hM3.below)).mono ?_; rintro e w4 ⟨rfl, hB4⟩; have hM4 := hM3.on hB4; clear hB4 hM3; (try unfold WV); go_frame)
    | ((with_reducible change wpList _ _ _ (Oper.mk (some 13) _ _ _ _ _ :: _) _ _); refine kFieldSig1 _ _ rfl rfl rfl ?_; go_frame)
    | ((with_reducible change wpList _ _ _ (Oper.mk (some 14) _ _ _ _ _ :: _) _ _); refine kLoadAs _ _ _ _ _ 4 _ _ _ rfl rfl rfl (hM4.get 0 rfl) Tryd.underlying24 rfl info_Wide (by rw [wcells2_size]; decide) (wcells2_at4 _ _) ?_; go_frame)
    | (go_at_call 26; (with_reducible change Calls _ _ #[Value.agg (wcells s)] _ _); refine (isSecret_nn ms hs.out Hm.out _ (hN.below hM4.below)).mono ?_; rintro e w5 ⟨rfl, hB5⟩; have hM5 := hM4.on hB5; clear hB5 hM4; (try unfold WV); go_frame)
    | ((with_reducible change wpList _ _ _ (Oper.mk (some 19) _ _ _ _ _ :: _) _ _); refine kFieldSig1 _ _ rfl rfl rfl ?_; go_frame)
    | ((with_reducible change wpList _ _ _ (Oper.mk (some 20) _ _ _ _ _ :: _) _ _); refine kLoadAs _ _ _ _ _ 4 _ _ _ rfl rfl rfl (hM5.get 0 rfl) Tryd.underlying24 rfl info_Wide (by rw [wcells2_size]; decide) (wcells2_at4 _ _) ?_; go_frame)
    | (go_at_call 35; (with_reducible change Calls _ _ #[Value.agg (wcells s)] _ _); refine (isHigh_nn ms hb.out Hm.out _ (hN.below hM5.below)).mono ?_; rintro e w6 ⟨rfl, hB6⟩; have hM6 := hM5.on hB6; clear hB6 hM5; (try unfold WV); go_frame)
    | ((with_reducible change wpList _ _ _ (Oper.mk (some 23) _ _ _ _ _ :: _) _ _); refine kFieldPoint2 _ _ rfl rfl rfl ?_; go_frame)
    | ((with_reducible change wpList _ _ _ (Oper.mk (some 24) _ _ _ _ _ :: _) _ _); refine kLoad1 _ _ _ _ _ _ _ _ rfl rfl rfl (hM6.get 2 rfl) Tryd.underlying4 rfl (F24.out) ?_; go_frame))
  go_ret
  exact ⟨rfl, hM6.below⟩
set_option maxRecDepth 100000 in
set_option maxHeartbeats 8000000 in
theorem sVerify_n {p : Pt PP} (op : p.On) {r s : Nat} (mr : r < M256) (ms : s < M256) {f : Nat → Nat} {z : Nat} (hf : ∀ i, f i < 256) (hz : zOf f = z) (hr : isSec r = true) (hs : isSec s = true) (hb : isHi s = false) (hp : pN p = false) (hq : pN (sumOf p z r s) = true) (w : World) (hG : Glob 3 PP w) (hO : GlobP 2 0 0 true w) (hB : GlobPt 0 gPt w) (hN : Glob 1 NN w) : Calls Tryd.prog 20 #[.agg (ptc p), .agg (bcells f), .agg (wcells2 r s)] w fun e w' => e = .returned (.bool false) ∧ Below w.heap.size w w' := by
  obtain ⟨m, Hm⟩ : ∃ m, Hid (m = NN) := ⟨_, Lib.hid rfl⟩
  have hm : Modu m := by rw [Hm.out]; exact modu_N
  rw [← Hm.out] at hN
  have Hz := Lib.hid hz
  have mz : z < M256 := by rw [← hz]; exact zOf_lt hf
  clear hz
  have F24 := Lib.hid (show (ptc p)[8]? = some (.bool false) by rw [pN_at, hp])
  replace hr := Lib.hid hr
  replace hs := Lib.hid hs
  replace hb := Lib.hid hb
  obtain ⟨k1, Hk1⟩ : ∃ n, Hid (z * invN s % NN = n) := ⟨_, Lib.hid rfl⟩
  obtain ⟨k2, Hk2⟩ : ∃ n, Hid (r * invN s % NN = n) := ⟨_, Lib.hid rfl⟩
  have mk1 : k1 < M256 := by rw [← Hk1.out]; exact Nat.lt_trans (Nat.mod_lt _ NN_pos) (by decide)
  have mk2 : k2 < M256 := by rw [← Hk2.out]; exact Nat.lt_trans (Nat.mod_lt _ NN_pos) (by decide)
  obtain ⟨q, Hq⟩ : ∃ q, Hid (sumOf p z r s = q) := ⟨_, Lib.hid rfl⟩
  rw [Hq.out] at hq
  have hboth := Lib.hid (show both ivP gPt p k1 k2 = q by rw [← Hq.out, ← Hk1.out, ← Hk2.out]; rfl)
  have F43 := Lib.hid (show (ptc q)[8]? = some (.bool true) by rw [pN_at, hq])
  clear hp hq
  have hM0 := mm_nil w
  (try unfold WV)
  go_enter Tryd.func20, Tryd.ntmps20
  go_wp2_with (first
    | ((with_reducible change wpList _ _ _ (Oper.mk (some 3) _ _ _ _ _ :: _) _ _); refine mmBox hM0 _ _ (ptc p) rfl rfl rfl ?_; intro w1 hM1; clear hM0; go_frame)
    | ((with_reducible change wpList _ _ _ (Oper.mk (some 4) _ _ _ _ _ :: _) _ _); refine mmBox hM1 _ _ (bcells f) rfl rfl rfl ?_; intro w2 hM2; clear hM1; go_frame)
    | ((with_reducible change wpList _ _ _ (Oper.mk (some 5) _ _ _ _ _ :: _) _ _); refine mmBox hM2 _ _ (wcells2 r s) rfl rfl rfl ?_; intro w3 hM3; clear hM2; go_frame)
    | ((with_reducible change wpList _ _ _ (Oper.mk (some 8) _ _ _ _ _ :: _) _ _); refine kFieldSig0 _ _ rfl rfl rfl ?_; go_frame)
    | ((with_reducible change wpList _ _ _ (Oper.mk (some 9) _ _ _ _ _ :: _) _ _); refine kLoadAs _ _ _ _ _ 4 _ _ _ rfl rfl rfl (hM3.get 0 rfl) Tryd.underlying24 rfl info_Wide (by rw [wcells2_size]; decide) (wcells2_at0 _ _) ?_; go_frame)
    | (go_at_call 26; (with_reducible change Calls _ _ #[Value.agg (wcells r)] _ _); refine (isSecret_nn mr hr.out Hm.out _ (hN.below hM3.below)).mono ?_; rintro e w4 ⟨rfl, hB4⟩; have hM4 := hM3.on hB4; clear hB4 hM3; (try unfold WV); go_frame)
    | ((with_reducible change wpList _ _ _ (Oper.mk (some 13) _ _ _ _ _ :: _) _ _); refine kFieldSig1 _ _ rfl rfl rfl ?_; go_frame)
    | ((with_reducible change wpList _ _ _ (Oper.mk (some 14) _ _ _ _ _ :: _) _ _); refine kLoadAs _ _ _ _ _ 4 _ _ _ rfl rfl rfl (hM4.get 0 rfl) Tryd.underlying24 rfl info_Wide (by rw [wcells2_size]; decide) (wcells2_at4 _ _) ?_; go_frame)
    | (go_at_call 26; (with_reducible change Calls _ _ #[Value.agg (wcells s)] _ _); refine (isSecret_nn ms hs.out Hm.out _ (hN.below hM4.below)).mono ?_; rintro e w5 ⟨rfl, hB5⟩; have hM5 := hM4.on hB5; clear hB5 hM4; (try unfold WV); go_frame)
    | ((with_reducible change wpList _ _ _ (Oper.mk (some 19) _ _ _ _ _ :: _) _ _); refine kFieldSig1 _ _ rfl rfl rfl ?_; go_frame)
    | ((with_reducible change wpList _ _ _ (Oper.mk (some 20) _ _ _ _ _ :: _) _ _); refine kLoadAs _ _ _ _ _ 4 _ _ _ rfl rfl rfl (hM5.get 0 rfl) Tryd.underlying24 rfl info_Wide (by rw [wcells2_size]; decide) (wcells2_at4 _ _) ?_; go_frame)
    | (go_at_call 35; (with_reducible change Calls _ _ #[Value.agg (wcells s)] _ _); refine (isHigh_nn ms hb.out Hm.out _ (hN.below hM5.below)).mono ?_; rintro e w6 ⟨rfl, hB6⟩; have hM6 := hM5.on hB6; clear hB6 hM5; (try unfold WV); go_frame)
    | ((with_reducible change wpList _ _ _ (Oper.mk (some 23) _ _ _ _ _ :: _) _ _); refine kFieldPoint2 _ _ rfl rfl rfl ?_; go_frame)
    | ((with_reducible change wpList _ _ _ (Oper.mk (some 24) _ _ _ _ _ :: _) _ _); refine kLoad1 _ _ _ _ _ _ _ _ rfl rfl rfl (hM6.get 2 rfl) Tryd.underlying4 rfl (F24.out) ?_; go_frame)
    | ((with_reducible change wpList _ _ _ (Oper.mk (some 26) _ _ _ _ _ :: _) _ _); refine kLoadRow _ _ _ _ _ _ rfl rfl rfl (hM6.get 2 rfl) Tryd.underlying30 rfl (info_ptc _) ?_; go_frame)
    | (go_at_call 50; (with_reducible change Calls _ _ #[Value.agg (ptc p)] _ _); refine (cOn_pt op _ (hG.below hM6.below) (hO.below hM6.below)).mono ?_; rintro e w7 ⟨rfl, hB7⟩; have hM7 := hM6.on hB7; clear hB7 hM6; (try unfold WV); go_frame))
  refine region_symT 13 _ [12] [7] [.val (.agg (bcells f)), .val (.agg (wcells z)), .val (.pointer (some ⟨w2.heap.size, 4, none⟩)), .val (.agg (wcells s)), .val (.agg (wcells k1)), .val (.pointer (some ⟨w2.heap.size, 0, none⟩)), .val (.agg (wcells r)), .val (.pointer (some ⟨w2.heap.size, 4, none⟩)), .val (.agg (wcells s)), .val (.agg (wcells k2)), .val (.agg (ptc p)), .val (.agg (ptc q)), .hold w7.heap.size 30 (pcells 0 0 false)] rfl (by kernel_rfl) (by kernel_rfl) (by kernel_rfl) (by kernel_rfl) rfl (by intro s hs; simp only [List.mem_cons, List.not_mem_nil, or_false] at hs; rcases hs with rfl <;> rfl) (steps_all ⟨?_, ?_, ?_, ?_, ?_, ?_, ?_, ?_, ?_, ?_, ?_, ?_, ?_, trivial⟩) ?_
  · exact fun A W sz ot hbel ap dp => kLoadRow _ _ _ _ _ _ rfl rfl (sO ot 4) ((hM7.get 1 rfl).on hbel) Tryd.underlying40 rfl (info_HashC _) (sE ap sz rfl)
  · exact fun A W sz ot hbel ap dp => sCall1 33 rfl (sD dp 0 .data) (sC (wFrom_z hf Hz.out W) ap sz (fun _ => rfl))
  · exact fun A W sz ot hbel ap dp => kFieldSig1 _ _ rfl rfl (sO ot 5) (sE ap sz rfl)
  · exact fun A W sz ot hbel ap dp => kLoadAs _ _ _ _ _ 4 _ _ _ rfl rfl (sD dp 2 .data) ((hM7.get 0 rfl).on hbel) Tryd.underlying24 rfl info_Wide (by rw [wcells2_size]; decide) (wcells2_at4 _ _) (sE ap sz rfl)
  · exact fun A W sz ot hbel ap dp => sCall2 31 rfl (sD dp 1 .data) (sD dp 3 .data) (sC (sBy_nn mz hs.out Hk1.out Hm.out W ((hN.below hM7.below).below hbel)) ap sz (fun _ => rfl))
  · exact fun A W sz ot hbel ap dp => kFieldSig0 _ _ rfl rfl (sO ot 5) (sE ap sz rfl)
  · exact fun A W sz ot hbel ap dp => kLoadAs _ _ _ _ _ 4 _ _ _ rfl rfl (sD dp 5 .data) ((hM7.get 0 rfl).on hbel) Tryd.underlying24 rfl info_Wide (by rw [wcells2_size]; decide) (wcells2_at0 _ _) (sE ap sz rfl)
  · exact fun A W sz ot hbel ap dp => kFieldSig1 _ _ rfl rfl (sO ot 5) (sE ap sz rfl)
  · exact fun A W sz ot hbel ap dp => kLoadAs _ _ _ _ _ 4 _ _ _ rfl rfl (sD dp 7 .data) ((hM7.get 0 rfl).on hbel) Tryd.underlying24 rfl info_Wide (by rw [wcells2_size]; decide) (wcells2_at4 _ _) (sE ap sz rfl)
  · exact fun A W sz ot hbel ap dp => sCall2 31 rfl (sD dp 6 .data) (sD dp 8 .data) (sC (sBy_nn mr hs.out Hk2.out Hm.out W ((hN.below hM7.below).below hbel)) ap sz (fun _ => rfl))
  · exact fun A W sz ot hbel ap dp => kLoadRow _ _ _ _ _ _ rfl rfl (sO ot 3) ((hM7.get 2 rfl).on hbel) Tryd.underlying30 rfl (info_ptc _) (sE ap sz rfl)
  · exact fun A W sz ot hbel ap dp => sCall3 51 rfl (sD dp 4 .data) (sD dp 9 .data) (sD dp 10 .data) (sC (cBoth_q mk1 mk2 op hboth.out W ((hG.below hM7.below).below hbel) ((hO.below hM7.below).below hbel) ((hB.below hM7.below).below hbel)) ap sz (fun _ => rfl))
  · intro A W sz ot hbel ap dp
    refine kAllocL _ _ rfl rfl zero_Point ?_
    intro r hR hl hBc
    exact (sA ap sz hl hBc ⟨_, rfl, hbel.size, hR⟩ rfl)
  intro w8 hB8
  dsimp only [AllV]
  intro g8_7 hg8_7 hR8_7
  intro hap
  dsimp only [putAll, List.take, List.drop]
  go_frame
  have hM8 := hM7.on hB8
  replace hM8 := hM8.cons hR8_7 (Nat.le_trans hM7.size hg8_7) (fun p hp => by have := hM7.lt hp; omega)
  clear hB8 hM7 hap hg8_7 hR8_7
  go_wp2_with (first
    | ((with_reducible change wpList _ _ _ (Oper.mk none (Op.store _ (Operand.tmp 7) (Operand.tmp 41)) _ _ _ _ :: _) _ _); refine mmStoreAt hM8 0 _ _ _ _ _ _ (ptc q) rfl rfl rfl rfl rfl (info_ptc _) (by simp only [pcells_size, ptc_size]) (ptc_one _) ?_; intro w9 hM9; dsimp only [List.set] at hM9; clear hM8; go_frame))
  refine region_symT 11 _ [] [] [.val (.pointer (some ⟨g8_7, 8, none⟩)), .val (.bool true), .val (.bool false), .val (.bool false), .val (undef), .val (undef), .val (undef), .val (undef), .val (undef), .val (.bool false), .val (.bool false)] rfl (by kernel_rfl) (by kernel_rfl) (by kernel_rfl) (by kernel_rfl) rfl (by intro s hs; cases hs) (steps_all ⟨?_, ?_, ?_, ?_, ?_, ?_, ?_, ?_, ?_, ?_, ?_, trivial⟩) ?_
  · exact fun A W sz ot hbel ap dp => kFieldPoint2 _ _ rfl rfl (sO ot 7) (sE ap sz rfl)
  · exact fun A W sz ot hbel ap dp => kLoad1 _ _ _ _ _ _ _ _ rfl rfl (sD dp 0 .data) ((hM9.get 0 rfl).on hbel) Tryd.underlying4 rfl (F43.out) (sE ap sz rfl)
  · exact fun A W sz ot hbel ap dp => kNot _ _ true rfl rfl (sD dp 1 .data) (sE ap sz rfl)
  · exact fun A W sz ot hbel ap dp => kMoveV _ _ rfl rfl (sD dp 2 .data) (sE ap sz rfl)
  · exact fun A W sz ot hbel ap dp => wpList_skip (unwanted_of rfl rfl (sD dp 3 .guard) (.inl rfl)) (sE ap sz rfl)
  · exact fun A W sz ot hbel ap dp => wpList_skip (unwanted_of rfl rfl (sD dp 3 .chain) (.inl rfl)) (sE ap sz rfl)
  · exact fun A W sz ot hbel ap dp => wpList_skip (unwanted_of rfl rfl (sD dp 3 .guard) (.inl rfl)) (sE ap sz rfl)
  · exact fun A W sz ot hbel ap dp => wpList_skip (unwanted_of rfl rfl (sD dp 3 .guard) (.inl rfl)) (sE ap sz rfl)
  · exact fun A W sz ot hbel ap dp => wpList_skip (unwanted_of rfl rfl (sD dp 3 .guard) (.inl rfl)) (sE ap sz rfl)
  · exact fun A W sz ot hbel ap dp => kPick _ _ _ false (.bool false) rfl rfl (sD dp 3 .data) rfl (sE ap sz rfl)
  · exact fun A W sz ot hbel ap dp => kAssignV _ _ rfl rfl (sD dp 9 .data) (sE ap sz rfl)
  intro w10 hB10
  dsimp only [AllV]
  intro hap
  dsimp only [putAll, List.take, List.drop]
  go_frame
  have hM10 := hM9.on hB10
  clear hB10 hM9 hap
  go_wp2_with fail
  go_ret
  exact ⟨rfl, hM10.below⟩
set_option maxRecDepth 100000 in
set_option maxHeartbeats 8000000 in
theorem sVerify_x {p : Pt PP} (op : p.On) {r s : Nat} (mr : r < M256) (ms : s < M256) {f : Nat → Nat} {z : Nat} (hf : ∀ i, f i < 256) (hz : zOf f = z) (hr : isSec r = true) (hs : isSec s = true) (hb : isHi s = false) (hp : pN p = false) (hq : pN (sumOf p z r s) = false) (w : World) (hG : Glob 3 PP w) (hO : GlobP 2 0 0 true w) (hB : GlobPt 0 gPt w) (hN : Glob 1 NN w) : Calls Tryd.prog 20 #[.agg (ptc p), .agg (bcells f), .agg (wcells2 r s)] w fun e w' => e = .returned (.bool (decide (pX (sumOf p z r s) % NN = r))) ∧ Below w.heap.size w w' := by
  obtain ⟨m, Hm⟩ : ∃ m, Hid (m = NN) := ⟨_, Lib.hid rfl⟩
  have hm : Modu m := by rw [Hm.out]; exact modu_N
  rw [← Hm.out] at hN
  have Hz := Lib.hid hz
  have mz : z < M256 := by rw [← hz]; exact zOf_lt hf
  clear hz
  have F24 := Lib.hid (show (ptc p)[8]? = some (.bool false) by rw [pN_at, hp])
  replace hr := Lib.hid hr
  replace hs := Lib.hid hs
  replace hb := Lib.hid hb
  obtain ⟨k1, Hk1⟩ : ∃ n, Hid (z * invN s % NN = n) := ⟨_, Lib.hid rfl⟩
  obtain ⟨k2, Hk2⟩ : ∃ n, Hid (r * invN s % NN = n) := ⟨_, Lib.hid rfl⟩
  have mk1 : k1 < M256 := by rw [← Hk1.out]; exact Nat.lt_trans (Nat.mod_lt _ NN_pos) (by decide)
  have mk2 : k2 < M256 := by rw [← Hk2.out]; exact Nat.lt_trans (Nat.mod_lt _ NN_pos) (by decide)
  obtain ⟨q, Hq⟩ : ∃ q, Hid (sumOf p z r s = q) := ⟨_, Lib.hid rfl⟩
  rw [Hq.out] at hq ⊢
  have hboth := Lib.hid (show both ivP gPt p k1 k2 = q by rw [← Hq.out, ← Hk1.out, ← Hk2.out]; rfl)
  have F43 := Lib.hid (show (ptc q)[8]? = some (.bool false) by rw [pN_at, hq])
  obtain ⟨x, Hx⟩ : ∃ x, Hid (pX q % NN = x) := ⟨_, Lib.hid rfl⟩
  have mx : x < M256 := by rw [← Hx.out]; exact Nat.lt_trans (Nat.mod_lt _ NN_pos) (by decide)
  rw [Hx.out]
  have F50 := Lib.hid (show decide (x % M256 = r % M256) = decide (x = r) by rw [Nat.mod_eq_of_lt mx, Nat.mod_eq_of_lt mr])
  clear hp hq
  have hM0 := mm_nil w
  (try unfold WV)
  go_enter Tryd.func20, Tryd.ntmps20
  go_wp2_with (first
    | ((with_reducible change wpList _ _ _ (Oper.mk (some 3) _ _ _ _ _ :: _) _ _); refine mmBox hM0 _ _ (ptc p) rfl rfl rfl ?_; intro w1 hM1; clear hM0; go_frame)
    | ((with_reducible change wpList _ _ _ (Oper.mk (some 4) _ _ _ _ _ :: _) _ _); refine mmBox hM1 _ _ (bcells f) rfl rfl rfl ?_; intro w2 hM2; clear hM1; go_frame)
    | ((with_reducible change wpList _ _ _ (Oper.mk (some 5) _ _ _ _ _ :: _) _ _); refine mmBox hM2 _ _ (wcells2 r s) rfl rfl rfl ?_; intro w3 hM3; clear hM2; go_frame)
    | ((with_reducible change wpList _ _ _ (Oper.mk (some 8) _ _ _ _ _ :: _) _ _); refine kFieldSig0 _ _ rfl rfl rfl ?_; go_frame)
    | ((with_reducible change wpList _ _ _ (Oper.mk (some 9) _ _ _ _ _ :: _) _ _); refine kLoadAs _ _ _ _ _ 4 _ _ _ rfl rfl rfl (hM3.get 0 rfl) Tryd.underlying24 rfl info_Wide (by rw [wcells2_size]; decide) (wcells2_at0 _ _) ?_; go_frame)
    | (go_at_call 26; (with_reducible change Calls _ _ #[Value.agg (wcells r)] _ _); refine (isSecret_nn mr hr.out Hm.out _ (hN.below hM3.below)).mono ?_; rintro e w4 ⟨rfl, hB4⟩; have hM4 := hM3.on hB4; clear hB4 hM3; (try unfold WV); go_frame)
    | ((with_reducible change wpList _ _ _ (Oper.mk (some 13) _ _ _ _ _ :: _) _ _); refine kFieldSig1 _ _ rfl rfl rfl ?_; go_frame)
    | ((with_reducible change wpList _ _ _ (Oper.mk (some 14) _ _ _ _ _ :: _) _ _); refine kLoadAs _ _ _ _ _ 4 _ _ _ rfl rfl rfl (hM4.get 0 rfl) Tryd.underlying24 rfl info_Wide (by rw [wcells2_size]; decide) (wcells2_at4 _ _) ?_; go_frame)
    | (go_at_call 26; (with_reducible change Calls _ _ #[Value.agg (wcells s)] _ _); refine (isSecret_nn ms hs.out Hm.out _ (hN.below hM4.below)).mono ?_; rintro e w5 ⟨rfl, hB5⟩; have hM5 := hM4.on hB5; clear hB5 hM4; (try unfold WV); go_frame)
    | ((with_reducible change wpList _ _ _ (Oper.mk (some 19) _ _ _ _ _ :: _) _ _); refine kFieldSig1 _ _ rfl rfl rfl ?_; go_frame)
    | ((with_reducible change wpList _ _ _ (Oper.mk (some 20) _ _ _ _ _ :: _) _ _); refine kLoadAs _ _ _ _ _ 4 _ _ _ rfl rfl rfl (hM5.get 0 rfl) Tryd.underlying24 rfl info_Wide (by rw [wcells2_size]; decide) (wcells2_at4 _ _) ?_; go_frame)
    | (go_at_call 35; (with_reducible change Calls _ _ #[Value.agg (wcells s)] _ _); refine (isHigh_nn ms hb.out Hm.out _ (hN.below hM5.below)).mono ?_; rintro e w6 ⟨rfl, hB6⟩; have hM6 := hM5.on hB6; clear hB6 hM5; (try unfold WV); go_frame)
    | ((with_reducible change wpList _ _ _ (Oper.mk (some 23) _ _ _ _ _ :: _) _ _); refine kFieldPoint2 _ _ rfl rfl rfl ?_; go_frame)
    | ((with_reducible change wpList _ _ _ (Oper.mk (some 24) _ _ _ _ _ :: _) _ _); refine kLoad1 _ _ _ _ _ _ _ _ rfl rfl rfl (hM6.get 2 rfl) Tryd.underlying4 rfl (F24.out) ?_; go_frame)
    | ((with_reducible change wpList _ _ _ (Oper.mk (some 26) _ _ _ _ _ :: _) _ _); refine kLoadRow _ _ _ _ _ _ rfl rfl rfl (hM6.get 2 rfl) Tryd.underlying30 rfl (info_ptc _) ?_; go_frame)
    | (go_at_call 50; (with_reducible change Calls _ _ #[Value.agg (ptc p)] _ _); refine (cOn_pt op _ (hG.below hM6.below) (hO.below hM6.below)).mono ?_; rintro e w7 ⟨rfl, hB7⟩; have hM7 := hM6.on hB7; clear hB7 hM6; (try unfold WV); go_frame))
  refine region_symT 13 _ [12] [7] [.val (.agg (bcells f)), .val (.agg (wcells z)), .val (.pointer (some ⟨w2.heap.size, 4, none⟩)), .val (.agg (wcells s)), .val (.agg (wcells k1)), .val (.pointer (some ⟨w2.heap.size, 0, none⟩)), .val (.agg (wcells r)), .val (.pointer (some ⟨w2.heap.size, 4, none⟩)), .val (.agg (wcells s)), .val (.agg (wcells k2)), .val (.agg (ptc p)), .val (.agg (ptc q)), .hold w7.heap.size 30 (pcells 0 0 false)] rfl (by kernel_rfl) (by kernel_rfl) (by kernel_rfl) (by kernel_rfl) rfl (by intro s hs; simp only [List.mem_cons, List.not_mem_nil, or_false] at hs; rcases hs with rfl <;> rfl) (steps_all ⟨?_, ?_, ?_, ?_, ?_, ?_, ?_, ?_, ?_, ?_, ?_, ?_, ?_, trivial⟩) ?_
  · exact fun A W sz ot hbel ap dp => kLoadRow _ _ _ _ _ _ rfl rfl (sO ot 4) ((hM7.get 1 rfl).on hbel) Tryd.underlying40 rfl (info_HashC _) (sE ap sz rfl)
  · exact fun A W sz ot hbel ap dp => sCall1 33 rfl (sD dp 0 .data) (sC (wFrom_z hf Hz.out W) ap sz (fun _ => rfl))
  · exact fun A W sz ot hbel ap dp => kFieldSig1 _ _ rfl rfl (sO ot 5) (sE ap sz rfl)
  · exact fun A W sz ot hbel ap dp => kLoadAs _ _ _ _ _ 4 _ _ _ rfl rfl (sD dp 2 .data) ((hM7.get 0 rfl).on hbel) Tryd.underlying24 rfl info_Wide (by rw [wcells2_size]; decide) (wcells2_at4 _ _) (sE ap sz rfl)
  · exact fun A W sz ot hbel ap dp => sCall2 31 rfl (sD dp 1 .data) (sD dp 3 .data) (sC (sBy_nn mz hs.out Hk1.out Hm.out W ((hN.below hM7.below).below hbel)) ap sz (fun _ => rfl))
  · exact fun A W sz ot hbel ap dp => kFieldSig0 _ _ rfl rfl (sO ot 5) (sE ap sz rfl)
  · exact fun A W sz ot hbel ap dp => kLoadAs _ _ _ _ _ 4 _ _ _ rfl rfl (sD dp 5 .data) ((hM7.get 0 rfl).on hbel) Tryd.underlying24 rfl info_Wide (by rw [wcells2_size]; decide) (wcells2_at0 _ _) (sE ap sz rfl)
  · exact fun A W sz ot hbel ap dp => kFieldSig1 _ _ rfl rfl (sO ot 5) (sE ap sz rfl)
  · exact fun A W sz ot hbel ap dp => kLoadAs _ _ _ _ _ 4 _ _ _ rfl rfl (sD dp 7 .data) ((hM7.get 0 rfl).on hbel) Tryd.underlying24 rfl info_Wide (by rw [wcells2_size]; decide) (wcells2_at4 _ _) (sE ap sz rfl)
  · exact fun A W sz ot hbel ap dp => sCall2 31 rfl (sD dp 6 .data) (sD dp 8 .data) (sC (sBy_nn mr hs.out Hk2.out Hm.out W ((hN.below hM7.below).below hbel)) ap sz (fun _ => rfl))
  · exact fun A W sz ot hbel ap dp => kLoadRow _ _ _ _ _ _ rfl rfl (sO ot 3) ((hM7.get 2 rfl).on hbel) Tryd.underlying30 rfl (info_ptc _) (sE ap sz rfl)
  · exact fun A W sz ot hbel ap dp => sCall3 51 rfl (sD dp 4 .data) (sD dp 9 .data) (sD dp 10 .data) (sC (cBoth_q mk1 mk2 op hboth.out W ((hG.below hM7.below).below hbel) ((hO.below hM7.below).below hbel) ((hB.below hM7.below).below hbel)) ap sz (fun _ => rfl))
  · intro A W sz ot hbel ap dp
    refine kAllocL _ _ rfl rfl zero_Point ?_
    intro r hR hl hBc
    exact (sA ap sz hl hBc ⟨_, rfl, hbel.size, hR⟩ rfl)
  intro w8 hB8
  dsimp only [AllV]
  intro g8_7 hg8_7 hR8_7
  intro hap
  dsimp only [putAll, List.take, List.drop]
  go_frame
  have hM8 := hM7.on hB8
  replace hM8 := hM8.cons hR8_7 (Nat.le_trans hM7.size hg8_7) (fun p hp => by have := hM7.lt hp; omega)
  clear hB8 hM7 hap hg8_7 hR8_7
  go_wp2_with (first
    | ((with_reducible change wpList _ _ _ (Oper.mk none (Op.store _ (Operand.tmp 7) (Operand.tmp 41)) _ _ _ _ :: _) _ _); refine mmStoreAt hM8 0 _ _ _ _ _ _ (ptc q) rfl rfl rfl rfl rfl (info_ptc _) (by simp only [pcells_size, ptc_size]) (ptc_one _) ?_; intro w9 hM9; dsimp only [List.set] at hM9; clear hM8; go_frame))
  refine region_symT 11 _ [] [] [.val (.pointer (some ⟨g8_7, 8, none⟩)), .val (.bool false), .val (.bool true), .val (.bool true), .val (.agg (ptc q)), .val (.agg (wcells x)), .val (.pointer (some ⟨w2.heap.size, 0, none⟩)), .val (.agg (wcells r)), .val (.bool ((decide (x = r)))), .val (.bool ((decide (x = r)))), .val (.bool ((decide (x = r))))] rfl (by kernel_rfl) (by kernel_rfl) (by kernel_rfl) (by kernel_rfl) rfl (by intro s hs; cases hs) (steps_all ⟨?_, ?_, ?_, ?_, ?_, ?_, ?_, ?_, ?_, ?_, ?_, trivial⟩) ?_
  · exact fun A W sz ot hbel ap dp => kFieldPoint2 _ _ rfl rfl (sO ot 7) (sE ap sz rfl)
  · exact fun A W sz ot hbel ap dp => kLoad1 _ _ _ _ _ _ _ _ rfl rfl (sD dp 0 .data) ((hM9.get 0 rfl).on hbel) Tryd.underlying4 rfl (F43.out) (sE ap sz rfl)
  · exact fun A W sz ot hbel ap dp => kNot _ _ false rfl rfl (sD dp 1 .data) (sE ap sz rfl)
  · exact fun A W sz ot hbel ap dp => kMoveV _ _ rfl rfl (sD dp 2 .data) (sE ap sz rfl)
  · exact fun A W sz ot hbel ap dp => kLoadRow _ _ _ _ _ _ rfl (wanted_of rfl rfl (sD dp 3 .guard)) (sO ot 7) ((hM9.get 0 rfl).on hbel) Tryd.underlying30 rfl (info_ptc _) (sE ap sz rfl)
  · exact fun A W sz ot hbel ap dp => sCall1 30 rfl (sD dp 4 .data) (sC (foldX_nn Hx.out Hm.out W ((hN.below hM9.below).below hbel)) ap sz (fun _ => rfl)) (wanted_of rfl rfl (sD dp 3 .chain))
  · exact fun A W sz ot hbel ap dp => kFieldSig0 _ _ rfl (wanted_of rfl rfl (sD dp 3 .guard)) (sO ot 5) (sE ap sz rfl)
  · exact fun A W sz ot hbel ap dp => kLoadAs _ _ _ _ _ 4 _ _ _ rfl (wanted_of rfl rfl (sD dp 3 .guard)) (sD dp 6 .data) ((hM9.get 1 rfl).on hbel) Tryd.underlying24 rfl info_Wide (by rw [wcells2_size]; decide) (wcells2_at0 _ _) (sE ap sz rfl)
  · exact fun A W sz ot hbel ap dp => kEqlW _ _ _ (x) (r) (decide (x = r)) rfl (wanted_of rfl rfl (sD dp 3 .guard)) (sD dp 5 .data) (sD dp 7 .data) (F50.out) (sE ap sz rfl)
  · exact fun A W sz ot hbel ap dp => kPick _ _ _ true (.bool ((decide (x = r)))) rfl rfl (sD dp 3 .data) (sD dp 8 .data) (sE ap sz rfl)
  · exact fun A W sz ot hbel ap dp => kAssignV _ _ rfl rfl (sD dp 9 .data) (sE ap sz rfl)
  intro w10 hB10
  dsimp only [AllV]
  intro hap
  dsimp only [putAll, List.take, List.drop]
  go_frame
  have hM10 := hM9.on hB10
  clear hB10 hM9 hap
  go_wp2_with fail
  go_ret
  exact ⟨rfl, hM10.below⟩
theorem sVerify_as {b : Bool} {p : Pt PP} (op : p.On) {r s : Nat} (mr : r < M256) (ms : s < M256) {f : Nat → Nat} {z : Nat} (hf : ∀ i, f i < 256) (hz : zOf f = z) (h : verifyB p z r s = b) (w : World) (hG : Glob 3 PP w) (hO : GlobP 2 0 0 true w) (hB : GlobPt 0 gPt w) (hN : Glob 1 NN w) : Calls Tryd.prog 20 #[.agg (ptc p), .agg (bcells f), .agg (wcells2 r s)] w fun e w' => e = .returned (.bool b) ∧ Below w.heap.size w w' := by
  subst h
  unfold verifyB
  cases hr : isSec r with
  | false => simpa only [hr, Bool.false_and] using sVerify_r mr hr w hN
  | true =>
    cases hs : isSec s with
    | false => simpa only [hr, hs, Bool.false_and, Bool.and_false] using sVerify_s mr ms hr hs w hN
    | true =>
      cases hb : isHi s with
      | true => simpa only [hr, hs, hb, Bool.not_true, Bool.false_and, Bool.and_false] using sVerify_h mr ms hr hs hb w hN
      | false =>
        cases hp : pN p with
        | true => simpa only [hr, hs, hb, hp, Bool.not_true, Bool.false_and, Bool.and_false] using sVerify_o mr ms hr hs hb hp w hN
        | false =>
          cases hq : pN (sumOf p z r s) with
          | true => simpa only [hr, hs, hb, hp, hq, Bool.not_true, Bool.false_and, Bool.and_false] using sVerify_n op mr ms hf hz hr hs hb hp hq w hG hO hB hN
          | false => simpa only [hr, hs, hb, hp, hq, Bool.not_false, Bool.true_and, Bool.and_true, Bool.and_self] using sVerify_x op mr ms hf hz hr hs hb hp hq w hG hO hB hN
end Go.Proofs.YtfgffjmpjoipeaaDoor
