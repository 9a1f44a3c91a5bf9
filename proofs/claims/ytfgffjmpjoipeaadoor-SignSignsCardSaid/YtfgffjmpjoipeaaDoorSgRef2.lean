/-
  The reference of layer 5: Verify.
-/
import Derived.Test.YtfgffjmpjoipeaaDoorSgRef1
namespace Go.Proofs.YtfgffjmpjoipeaaDoor
open Go Go.RowKit

open Cv
theorem sum_same {m z r s zm u k1 k2 : Nat} {p : Pt PP} (Hm : m = NN) (hz : z % m = zm) (hu : s ^ (m - 2) % m = u) (h1 : zm * u % m = k1) (h2 : r * u % m = k2) : Pt.add ivP (Pt.times ivP gPt k1) (Pt.times ivP p k2) = sumOf p z r s := by
  subst Hm; rw [← h1, ← h2, ← hz, Nat.mod_mul_mod, ← hu]; rfl
set_option maxRecDepth 100000 in
set_option maxHeartbeats 8000000 in
theorem gVerify_r {p : Pt PP} {r s : Nat} (mr : r < M256) {f : Nat → Nat} (hr : isSec r = false) (w : World) : Calls Tryd.prog 21 #[.agg (ptc p), .agg (bcells f), .agg (wcells2 r s)] w fun e w' => e = .returned (.bool false) ∧ Below w.heap.size w w' := by
  obtain ⟨m, Hm⟩ : ∃ m, Hid (m = NN) := ⟨_, Lib.hid rfl⟩
  have hP : PrimeIs false m := by rw [Hm.out]; exact rPrime_false
  replace hr := Lib.hid hr
  have hM0 := mm_nil w
  (try unfold WV)
  go_enter Tryd.func21, Tryd.ntmps21
  go_wp2_with (first
    | ((with_reducible change wpList _ _ _ (Oper.mk (some 3) _ _ _ _ _ :: _) _ _); refine mmBox hM0 _ _ (ptc p) rfl rfl rfl ?_; intro w1 hM1; clear hM0; go_frame)
    | ((with_reducible change wpList _ _ _ (Oper.mk (some 4) _ _ _ _ _ :: _) _ _); refine mmBox hM1 _ _ (bcells f) rfl rfl rfl ?_; intro w2 hM2; clear hM1; go_frame)
    | ((with_reducible change wpList _ _ _ (Oper.mk (some 5) _ _ _ _ _ :: _) _ _); refine mmBox hM2 _ _ (wcells2 r s) rfl rfl rfl ?_; intro w3 hM3; clear hM2; go_frame)
    | ((with_reducible change wpList _ _ _ (Oper.mk (some 11) _ _ _ _ _ :: _) _ _); refine kFieldSig0 _ _ rfl rfl rfl ?_; go_frame)
    | ((with_reducible change wpList _ _ _ (Oper.mk (some 12) _ _ _ _ _ :: _) _ _); refine kLoadAs _ _ _ _ _ 4 _ _ _ rfl rfl rfl (hM3.get 0 rfl) Tryd.underlying24 rfl info_Wide (by rw [wcells2_size]; decide) (wcells2_at0 _ _) ?_; go_frame)
    | (go_at_call 18; (with_reducible change Calls _ _ #[Value.agg (wcells r)] _ _); refine (gSecret_as Hm.out hP mr hr.out _).mono ?_; rintro e w4 ⟨rfl, hB4⟩; have hM4 := hM3.on hB4; clear hB4 hM3; (try unfold WV); go_frame))
  go_ret
  exact ⟨rfl, hM4.below⟩
set_option maxRecDepth 100000 in
set_option maxHeartbeats 8000000 in
theorem gVerify_s {p : Pt PP} {r s : Nat} (mr : r < M256) (ms : s < M256) {f : Nat → Nat} (hr : isSec r = true) (hs : isSec s = false) (w : World) : Calls Tryd.prog 21 #[.agg (ptc p), .agg (bcells f), .agg (wcells2 r s)] w fun e w' => e = .returned (.bool false) ∧ Below w.heap.size w w' := by
  obtain ⟨m, Hm⟩ : ∃ m, Hid (m = NN) := ⟨_, Lib.hid rfl⟩
  have hP : PrimeIs false m := by rw [Hm.out]; exact rPrime_false
  replace hr := Lib.hid hr
  replace hs := Lib.hid hs
  have hM0 := mm_nil w
  (try unfold WV)
  go_enter Tryd.func21, Tryd.ntmps21
  go_wp2_with (first
    | ((with_reducible change wpList _ _ _ (Oper.mk (some 3) _ _ _ _ _ :: _) _ _); refine mmBox hM0 _ _ (ptc p) rfl rfl rfl ?_; intro w1 hM1; clear hM0; go_frame)
    | ((with_reducible change wpList _ _ _ (Oper.mk (some 4) _ _ _ _ _ :: _) _ _); refine mmBox hM1 _ _ (bcells f) rfl rfl rfl ?_; intro w2 hM2; clear hM1; go_frame)
    | ((with_reducible change wpList _ _ _ (Oper.mk (some 5) _ _ _ _ _ :: _) _ _); refine mmBox hM2 _ _ (wcells2 r s) rfl rfl rfl ?_; intro w3 hM3; clear hM2; go_frame)
    | ((with_reducible change wpList _ _ _ (Oper.mk (some 11) _ _ _ _ _ :: _) _ _); refine kFieldSig0 _ _ rfl rfl rfl ?_; go_frame)
    | ((with_reducible change wpList _ _ _ (Oper.mk (some 12) _ _ _ _ _ :: _) _ _); refine kLoadAs _ _ _ _ _ 4 _ _ _ rfl rfl rfl (hM3.get 0 rfl) Tryd.underlying24 rfl info_Wide (by rw [wcells2_size]; decide) (wcells2_at0 _ _) ?_; go_frame)
    | (go_at_call 18; (with_reducible change Calls _ _ #[Value.agg (wcells r)] _ _); refine (gSecret_as Hm.out hP mr hr.out _).mono ?_; rintro e w4 ⟨rfl, hB4⟩; have hM4 := hM3.on hB4; clear hB4 hM3; (try unfold WV); go_frame)
    | ((with_reducible change wpList _ _ _ (Oper.mk (some 16) _ _ _ _ _ :: _) _ _); refine kFieldSig1 _ _ rfl rfl rfl ?_; go_frame)
    | ((with_reducible change wpList _ _ _ (Oper.mk (some 17) _ _ _ _ _ :: _) _ _); refine kLoadAs _ _ _ _ _ 4 _ _ _ rfl rfl rfl (hM4.get 0 rfl) Tryd.underlying24 rfl info_Wide (by rw [wcells2_size]; decide) (wcells2_at4 _ _) ?_; go_frame)
    | (go_at_call 18; (with_reducible change Calls _ _ #[Value.agg (wcells s)] _ _); refine (gSecret_as Hm.out hP ms hs.out _).mono ?_; rintro e w5 ⟨rfl, hB5⟩; have hM5 := hM4.on hB5; clear hB5 hM4; (try unfold WV); go_frame))
  go_ret
  exact ⟨rfl, hM5.below⟩
set_option maxRecDepth 100000 in
set_option maxHeartbeats 8000000 in
theorem gVerify_h {p : Pt PP} {r s : Nat} (mr : r < M256) (ms : s < M256) {f : Nat → Nat} (hr : isSec r = true) (hs : isSec s = true) (hb : isHi s = true) (w : World) : Calls Tryd.prog 21 #[.agg (ptc p), .agg (bcells f), .agg (wcells2 r s)] w fun e w' => e = .returned (.bool false) ∧ Below w.heap.size w w' := by
  obtain ⟨m, Hm⟩ : ∃ m, Hid (m = NN) := ⟨_, Lib.hid rfl⟩
  have hP : PrimeIs false m := by rw [Hm.out]; exact rPrime_false
  replace hr := Lib.hid hr
  replace hs := Lib.hid hs
  replace hb := Lib.hid hb
  have hM0 := mm_nil w
  (try unfold WV)
  go_enter Tryd.func21, Tryd.ntmps21
  go_wp2_with (first
    | ((with_reducible change wpList _ _ _ (Oper.mk (some 3) _ _ _ _ _ :: _) _ _); refine mmBox hM0 _ _ (ptc p) rfl rfl rfl ?_; intro w1 hM1; clear hM0; go_frame)
    | ((with_reducible change wpList _ _ _ (Oper.mk (some 4) _ _ _ _ _ :: _) _ _); refine mmBox hM1 _ _ (bcells f) rfl rfl rfl ?_; intro w2 hM2; clear hM1; go_frame)
    | ((with_reducible change wpList _ _ _ (Oper.mk (some 5) _ _ _ _ _ :: _) _ _); refine mmBox hM2 _ _ (wcells2 r s) rfl rfl rfl ?_; intro w3 hM3; clear hM2; go_frame)
    | ((with_reducible change wpList _ _ _ (Oper.mk (some 11) _ _ _ _ _ :: _) _ _); refine kFieldSig0 _ _ rfl rfl rfl ?_; go_frame)
    | ((with_reducible change wpList _ _ _ (Oper.mk (some 12) _ _ _ _ _ :: _) _ _); refine kLoadAs _ _ _ _ _ 4 _ _ _ rfl rfl rfl (hM3.get 0 rfl) Tryd.underlying24 rfl info_Wide (by rw [wcells2_size]; decide) (wcells2_at0 _ _) ?_; go_frame)
    | (go_at_call 18; (with_reducible change Calls _ _ #[Value.agg (wcells r)] _ _); refine (gSecret_as Hm.out hP mr hr.out _).mono ?_; rintro e w4 ⟨rfl, hB4⟩; have hM4 := hM3.on hB4; clear hB4 hM3; (try unfold WV); go_frame)
    | ((with_reducible change wpList _ _ _ (Oper.mk (some 16) _ _ _ _ _ :: _) _ _); refine kFieldSig1 _ _ rfl rfl rfl ?_; go_frame)
    | ((with_reducible change wpList _ _ _ (Oper.mk (some 17) _ _ _ _ _ :: _) _ _); refine kLoadAs _ _ _ _ _ 4 _ _ _ rfl rfl rfl (hM4.get 0 rfl) Tryd.underlying24 rfl info_Wide (by rw [wcells2_size]; decide) (wcells2_at4 _ _) ?_; go_frame)
    | (go_at_call 18; (with_reducible change Calls _ _ #[Value.agg (wcells s)] _ _); refine (gSecret_as Hm.out hP ms hs.out _).mono ?_; rintro e w5 ⟨rfl, hB5⟩; have hM5 := hM4.on hB5; clear hB5 hM4; (try unfold WV); go_frame)
    | ((with_reducible change wpList _ _ _ (Oper.mk (some 22) _ _ _ _ _ :: _) _ _); refine kFieldSig1 _ _ rfl rfl rfl ?_; go_frame)
    | ((with_reducible change wpList _ _ _ (Oper.mk (some 23) _ _ _ _ _ :: _) _ _); refine kLoadAs _ _ _ _ _ 4 _ _ _ rfl rfl rfl (hM5.get 0 rfl) Tryd.underlying24 rfl info_Wide (by rw [wcells2_size]; decide) (wcells2_at4 _ _) ?_; go_frame)
    | (go_at_call 41; (with_reducible change Calls _ _ #[Value.agg (wcells s)] _ _); refine (dOf_num s ms _).mono ?_; rintro e w6 ⟨x6, rfl, hN6, hB6⟩; have hM6 := hM5.on hB6; clear hB6 hM5; have hM7 := mm_nil w6; go_frame)
    | (go_at_call 43; (with_reducible change Calls _ _ #[x6] _ _); refine (gHigh_as Hm.out hP (hN6.below hM7.below) hb.out).mono ?_; rintro e w8 ⟨rfl, hB8⟩; have hM8 := hM7.on hB8; clear hB8 hM7; (try unfold WV); go_frame))
  go_ret
  exact ⟨rfl, ((hM6.below).trans (hM8.below.mono (hM6.below).size))⟩
set_option maxRecDepth 100000 in
set_option maxHeartbeats 8000000 in
theorem gVerify_o {p : Pt PP} {r s : Nat} (mr : r < M256) (ms : s < M256) {f : Nat → Nat} (hr : isSec r = true) (hs : isSec s = true) (hb : isHi s = false) (hp : pN p = true) (w : World) : Calls Tryd.prog 21 #[.agg (ptc p), .agg (bcells f), .agg (wcells2 r s)] w fun e w' => e = .returned (.bool false) ∧ Below w.heap.size w w' := by
  obtain ⟨m, Hm⟩ : ∃ m, Hid (m = NN) := ⟨_, Lib.hid rfl⟩
  have hP : PrimeIs false m := by rw [Hm.out]; exact rPrime_false
  have F29 := Lib.hid (show (ptc p)[8]? = some (.bool true) by rw [pN_at, hp])
  replace hr := Lib.hid hr
  replace hs := Lib.hid hs
  replace hb := Lib.hid hb
  clear hp
  have hM0 := mm_nil w
  (try unfold WV)
  go_enter Tryd.func21, Tryd.ntmps21
  go_wp2_with (first
    | ((with_reducible change wpList _ _ _ (Oper.mk (some 3) _ _ _ _ _ :: _) _ _); refine mmBox hM0 _ _ (ptc p) rfl rfl rfl ?_; intro w1 hM1; clear hM0; go_frame)
    | ((with_reducible change wpList _ _ _ (Oper.mk (some 4) _ _ _ _ _ :: _) _ _); refine mmBox hM1 _ _ (bcells f) rfl rfl rfl ?_; intro w2 hM2; clear hM1; go_frame)
    | ((with_reducible change wpList _ _ _ (Oper.mk (some 5) _ _ _ _ _ :: _) _ _); refine mmBox hM2 _ _ (wcells2 r s) rfl rfl rfl ?_; intro w3 hM3; clear hM2; go_frame)
    | ((with_reducible change wpList _ _ _ (Oper.mk (some 11) _ _ _ _ _ :: _) _ _); refine kFieldSig0 _ _ rfl rfl rfl ?_; go_frame)
    | ((with_reducible change wpList _ _ _ (Oper.mk (some 12) _ _ _ _ _ :: _) _ _); refine kLoadAs _ _ _ _ _ 4 _ _ _ rfl rfl rfl (hM3.get 0 rfl) Tryd.underlying24 rfl info_Wide (by rw [wcells2_size]; decide) (wcells2_at0 _ _) ?_; go_frame)
    | (go_at_call 18; (with_reducible change Calls _ _ #[Value.agg (wcells r)] _ _); refine (gSecret_as Hm.out hP mr hr.out _).mono ?_; rintro e w4 ⟨rfl, hB4⟩; have hM4 := hM3.on hB4; clear hB4 hM3; (try unfold WV); go_frame)
    | ((with_reducible change wpList _ _ _ (Oper.mk (some 16) _ _ _ _ _ :: _) _ _); refine kFieldSig1 _ _ rfl rfl rfl ?_; go_frame)
    | ((with_reducible change wpList _ _ _ (Oper.mk (some 17) _ _ _ _ _ :: _) _ _); refine kLoadAs _ _ _ _ _ 4 _ _ _ rfl rfl rfl (hM4.get 0 rfl) Tryd.underlying24 rfl info_Wide (by rw [wcells2_size]; decide) (wcells2_at4 _ _) ?_; go_frame)
    | (go_at_call 18; (with_reducible change Calls _ _ #[Value.agg (wcells s)] _ _); refine (gSecret_as Hm.out hP ms hs.out _).mono ?_; rintro e w5 ⟨rfl, hB5⟩; have hM5 := hM4.on hB5; clear hB5 hM4; (try unfold WV); go_frame)
    | ((with_reducible change wpList _ _ _ (Oper.mk (some 22) _ _ _ _ _ :: _) _ _); refine kFieldSig1 _ _ rfl rfl rfl ?_; go_frame)
    | ((with_reducible change wpList _ _ _ (Oper.mk (some 23) _ _ _ _ _ :: _) _ _); refine kLoadAs _ _ _ _ _ 4 _ _ _ rfl rfl rfl (hM5.get 0 rfl) Tryd.underlying24 rfl info_Wide (by rw [wcells2_size]; decide) (wcells2_at4 _ _) ?_; go_frame)
    | (go_at_call 41; (with_reducible change Calls _ _ #[Value.agg (wcells s)] _ _); refine (dOf_num s ms _).mono ?_; rintro e w6 ⟨x6, rfl, hN6, hB6⟩; have hM6 := hM5.on hB6; clear hB6 hM5; have hM7 := mm_nil w6; go_frame)
    | (go_at_call 43; (with_reducible change Calls _ _ #[x6] _ _); refine (gHigh_as Hm.out hP (hN6.below hM7.below) hb.out).mono ?_; rintro e w8 ⟨rfl, hB8⟩; have hM8 := hM7.on hB8; clear hB8 hM7; (try unfold WV); go_frame)
    | ((with_reducible change wpList _ _ _ (Oper.mk (some 28) _ _ _ _ _ :: _) _ _); refine kFieldPoint2 _ _ rfl rfl rfl ?_; go_frame)
    | ((with_reducible change wpList _ _ _ (Oper.mk (some 29) _ _ _ _ _ :: _) _ _); refine kLoad1 _ _ _ _ _ _ _ _ rfl rfl rfl ((hM6.get 2 rfl).on hM8.below) Tryd.underlying4 rfl (F29.out) ?_; go_frame))
  go_ret
  exact ⟨rfl, ((hM6.below).trans (hM8.below.mono (hM6.below).size))⟩
set_option maxRecDepth 100000 in
set_option maxHeartbeats 8000000 in
theorem gVerify_n {p : Pt PP} (op : p.On) {r s : Nat} (mr : r < M256) (ms : s < M256) {f : Nat → Nat} {z : Nat} (hf : ∀ i, f i < 256) (hz : zOf f = z) (hr : isSec r = true) (hs : isSec s = true) (hb : isHi s = false) (hp : pN p = false) (hq : pN (sumOf p z r s) = true) (w : World) : Calls Tryd.prog 21 #[.agg (ptc p), .agg (bcells f), .agg (wcells2 r s)] w fun e w' => e = .returned (.bool false) ∧ Below w.heap.size w w' := by
  obtain ⟨m, Hm⟩ : ∃ m, Hid (m = NN) := ⟨_, Lib.hid rfl⟩
  have hm : Modu m := by rw [Hm.out]; exact modu_N
  have hP : PrimeIs false m := by rw [Hm.out]; exact rPrime_false
  have Hz := Lib.hid hz
  obtain ⟨zm, Hzm⟩ : ∃ n, Hid (z % m = n) := ⟨_, Lib.hid rfl⟩
  have mzm : zm < M256 := by rw [← Hzm.out]; exact hm.mod _
  clear hz
  have F29 := Lib.hid (show (ptc p)[8]? = some (.bool false) by rw [pN_at, hp])
  replace hr := Lib.hid hr
  replace hs := Lib.hid hs
  replace hb := Lib.hid hb
  obtain ⟨u, Hu⟩ : ∃ n, Hid (s ^ (m - 2) % m = n) := ⟨_, Lib.hid rfl⟩
  have mu : u < M256 := by rw [← Hu.out]; exact hm.mod _
  obtain ⟨k1, Hk1⟩ : ∃ n, Hid (zm * u % m = n) := ⟨_, Lib.hid rfl⟩
  obtain ⟨k2, Hk2⟩ : ∃ n, Hid (r * u % m = n) := ⟨_, Lib.hid rfl⟩
  have mk1 : k1 < M256 := by rw [← Hk1.out]; exact hm.mod _
  have mk2 : k2 < M256 := by rw [← Hk2.out]; exact hm.mod _
  obtain ⟨a1, Ha1⟩ : ∃ q, Hid (Pt.times ivP gPt k1 = q) := ⟨_, Lib.hid rfl⟩
  obtain ⟨a2, Ha2⟩ : ∃ q, Hid (Pt.times ivP p k2 = q) := ⟨_, Lib.hid rfl⟩
  have oa1 : a1.On := by rw [← Ha1.out]; exact base_on _
  have oa2 : a2.On := by rw [← Ha2.out]; exact goodP.times_on op _
  obtain ⟨q, Hq⟩ : ∃ q, Hid (sumOf p z r s = q) := ⟨_, Lib.hid rfl⟩
  have hsum := Lib.hid (show Pt.add ivP a1 a2 = q by rw [← Hq.out, ← Ha1.out, ← Ha2.out]; exact sum_same Hm.out Hzm.out Hu.out Hk1.out Hk2.out)
  rw [Hq.out] at hq
  have F59 := Lib.hid (show (ptc q)[8]? = some (.bool true) by rw [pN_at, hq])
  clear hp hq
  have hM0 := mm_nil w
  (try unfold WV)
  go_enter Tryd.func21, Tryd.ntmps21
  go_wp2_with (first
    | ((with_reducible change wpList _ _ _ (Oper.mk (some 3) _ _ _ _ _ :: _) _ _); refine mmBox hM0 _ _ (ptc p) rfl rfl rfl ?_; intro w1 hM1; clear hM0; go_frame)
    | ((with_reducible change wpList _ _ _ (Oper.mk (some 4) _ _ _ _ _ :: _) _ _); refine mmBox hM1 _ _ (bcells f) rfl rfl rfl ?_; intro w2 hM2; clear hM1; go_frame)
    | ((with_reducible change wpList _ _ _ (Oper.mk (some 5) _ _ _ _ _ :: _) _ _); refine mmBox hM2 _ _ (wcells2 r s) rfl rfl rfl ?_; intro w3 hM3; clear hM2; go_frame)
    | ((with_reducible change wpList _ _ _ (Oper.mk (some 11) _ _ _ _ _ :: _) _ _); refine kFieldSig0 _ _ rfl rfl rfl ?_; go_frame)
    | ((with_reducible change wpList _ _ _ (Oper.mk (some 12) _ _ _ _ _ :: _) _ _); refine kLoadAs _ _ _ _ _ 4 _ _ _ rfl rfl rfl (hM3.get 0 rfl) Tryd.underlying24 rfl info_Wide (by rw [wcells2_size]; decide) (wcells2_at0 _ _) ?_; go_frame)
    | (go_at_call 18; (with_reducible change Calls _ _ #[Value.agg (wcells r)] _ _); refine (gSecret_as Hm.out hP mr hr.out _).mono ?_; rintro e w4 ⟨rfl, hB4⟩; have hM4 := hM3.on hB4; clear hB4 hM3; (try unfold WV); go_frame)
    | ((with_reducible change wpList _ _ _ (Oper.mk (some 16) _ _ _ _ _ :: _) _ _); refine kFieldSig1 _ _ rfl rfl rfl ?_; go_frame)
    | ((with_reducible change wpList _ _ _ (Oper.mk (some 17) _ _ _ _ _ :: _) _ _); refine kLoadAs _ _ _ _ _ 4 _ _ _ rfl rfl rfl (hM4.get 0 rfl) Tryd.underlying24 rfl info_Wide (by rw [wcells2_size]; decide) (wcells2_at4 _ _) ?_; go_frame)
    | (go_at_call 18; (with_reducible change Calls _ _ #[Value.agg (wcells s)] _ _); refine (gSecret_as Hm.out hP ms hs.out _).mono ?_; rintro e w5 ⟨rfl, hB5⟩; have hM5 := hM4.on hB5; clear hB5 hM4; (try unfold WV); go_frame)
    | ((with_reducible change wpList _ _ _ (Oper.mk (some 22) _ _ _ _ _ :: _) _ _); refine kFieldSig1 _ _ rfl rfl rfl ?_; go_frame)
    | ((with_reducible change wpList _ _ _ (Oper.mk (some 23) _ _ _ _ _ :: _) _ _); refine kLoadAs _ _ _ _ _ 4 _ _ _ rfl rfl rfl (hM5.get 0 rfl) Tryd.underlying24 rfl info_Wide (by rw [wcells2_size]; decide) (wcells2_at4 _ _) ?_; go_frame)
    | (go_at_call 41; (with_reducible change Calls _ _ #[Value.agg (wcells s)] _ _); refine (dOf_num s ms _).mono ?_; rintro e w6 ⟨x6, rfl, hN6, hB6⟩; have hM6 := hM5.on hB6; clear hB6 hM5; have hM7 := mm_nil w6; go_frame)
    | (go_at_call 43; (with_reducible change Calls _ _ #[x6] _ _); refine (gHigh_as Hm.out hP (hN6.below hM7.below) hb.out).mono ?_; rintro e w8 ⟨rfl, hB8⟩; have hM8 := hM7.on hB8; clear hB8 hM7; (try unfold WV); go_frame)
    | ((with_reducible change wpList _ _ _ (Oper.mk (some 28) _ _ _ _ _ :: _) _ _); refine kFieldPoint2 _ _ rfl rfl rfl ?_; go_frame)
    | ((with_reducible change wpList _ _ _ (Oper.mk (some 29) _ _ _ _ _ :: _) _ _); refine kLoad1 _ _ _ _ _ _ _ _ rfl rfl rfl ((hM6.get 2 rfl).on hM8.below) Tryd.underlying4 rfl (F29.out) ?_; go_frame)
    | ((with_reducible change wpList _ _ _ (Oper.mk (some 32) _ _ _ _ _ :: _) _ _); refine kLoadRow _ _ _ _ _ _ rfl rfl rfl ((hM6.get 2 rfl).on hM8.below) Tryd.underlying30 rfl (info_ptc _) ?_; go_frame)
    | (go_at_call 52; (with_reducible change Calls _ _ #[Value.agg (ptc p)] _ _); refine (eOn_pt op _).mono ?_; rintro e w9 ⟨rfl, hB9⟩; have hM9 := hM8.on hB9; clear hB9 hM8; (try unfold WV); go_frame)
    | ((with_reducible change wpList _ _ _ (Oper.mk (some 36) _ _ _ _ _ :: _) _ _); refine kFieldSig1 _ _ rfl rfl rfl ?_; go_frame)
    | ((with_reducible change wpList _ _ _ (Oper.mk (some 37) _ _ _ _ _ :: _) _ _); refine kLoadAs _ _ _ _ _ 4 _ _ _ rfl rfl rfl ((hM6.get 0 rfl).on hM9.below) Tryd.underlying24 rfl info_Wide (by rw [wcells2_size]; decide) (wcells2_at4 _ _) ?_; go_frame)
    | (go_at_call 41; (with_reducible change Calls _ _ #[Value.agg (wcells s)] _ _); refine (dOf_num s ms _).mono ?_; rintro e w10 ⟨x10, rfl, hN10, hB10⟩; have hM10 := hM9.on hB10; clear hB10 hM9; have hM11 := mm_nil w10; go_frame)
    | (go_at_call 42; (with_reducible change Calls _ _ #[x10, Value.bool false] _ _); refine (rInv_as hm hP (hN10.below hM11.below) Hu.out).mono ?_; rintro e w12 ⟨x12, rfl, hN12, hB12⟩; have hM12 := hM11.on hB12; clear hB12 hM11; have hM13 := mm_nil w12; go_frame)
    | ((with_reducible change wpList _ _ _ (Oper.mk (some 40) _ _ _ _ _ :: _) _ _); refine kLoadRow _ _ _ _ _ _ rfl rfl rfl ((((hM6.get 1 rfl).on hM10.below).on hM12.below).on hM13.below) Tryd.underlying40 rfl (info_HashC _) ?_; go_frame)
    | (go_at_call 39; (with_reducible change Calls _ _ #[Value.agg (bcells f)] _ _); refine (gNumber_as hm hP hf Hz.out Hzm.out _).mono ?_; rintro e w14 ⟨x14, rfl, hN14, hB14⟩; have hM14 := hM13.on hB14; clear hB14 hM13; have hM15 := mm_nil w14; go_frame)
    | (go_at_call 40; (with_reducible change Calls _ _ #[x14, x12, Value.bool false] _ _); refine (rMul_as hm hP ((hN14.below hM15.below).n16 mzm) (((hN12.below hM14.below).below hM15.below).n16 mu) Hk1.out).mono ?_; rintro e w16 ⟨x16, rfl, hN16, hB16⟩; have hM16 := hM15.on hB16; clear hB16 hM15; have hM17 := mm_nil w16; go_frame)
    | (go_at_call 9; (with_reducible change Calls _ _ #[x16] _ _); refine (dWide_numT (hN16.below hM17.below)).mono ?_; rintro e w18 ⟨rfl, hB18⟩; have hM18 := hM17.on hB18; clear hB18 hM17; (try unfold WV); go_frame)
    | (go_at_call 16; refine (eBase_any _).mono ?_; rintro e w19 ⟨rfl, hB19⟩; have hM19 := hM18.on hB19; clear hB19 hM18; (try unfold WV); go_frame)
    | (go_at_call 19; (with_reducible change Calls _ _ #[Value.agg (wcells k1), Value.agg (ptc gPt)] _ _); refine (eTimes_q mk1 gPt_on Ha1.out _).mono ?_; rintro e w20 ⟨rfl, hB20⟩; have hM20 := hM19.on hB20; clear hB20 hM19; (try unfold WV); go_frame)
    | ((with_reducible change wpList _ _ _ (Oper.mk (some 8) _ _ _ _ _ :: _) _ _); refine mmAlloc hM20 _ _ rfl rfl zero_Point ?_; intro w21 hM21; clear hM20; go_frame)
    | ((with_reducible change wpList _ _ _ (Oper.mk none (Op.store _ (Operand.tmp 8) (Operand.tmp 46)) _ _ _ _ :: _) _ _); refine mmStoreAt hM21 0 _ _ _ _ _ _ (ptc a1) rfl rfl rfl rfl rfl (info_ptc _) (by simp only [pcells_size, ptc_size]) (ptc_one _) ?_; intro w22 hM22; dsimp only [List.set] at hM22; clear hM21; go_frame))
  refine region_symT 9 _ [8] [9] [.val (.pointer (some ⟨w2.heap.size, 0, none⟩)), .val (.agg (wcells r)), .prop (fun w v => Num w v (r) 16) (fun _ _ _ hb h => h.below hb), .val (x12), .prop (fun w v => NumT w v (k2)) (fun _ _ _ hb h => h.below hb), .val (.agg (wcells k2)), .val (.agg (ptc p)), .val (.agg (ptc a2)), .hold w22.heap.size 30 (pcells 0 0 false)] rfl (by kernel_rfl) (by kernel_rfl) (by kernel_rfl) (by kernel_rfl) rfl (by intro s hs; simp only [List.mem_cons, List.not_mem_nil, or_false] at hs; rcases hs with rfl <;> rfl) (steps_all ⟨?_, ?_, ?_, ?_, ?_, ?_, ?_, ?_, ?_, trivial⟩) ?_
  · exact fun A W sz ot hbel ap dp => kFieldSig0 _ _ rfl rfl (sO ot 5) (sE ap sz rfl)
  · exact fun A W sz ot hbel ap dp => kLoadAs _ _ _ _ _ 4 _ _ _ rfl rfl (sD dp 0 .data) (((((((hM6.get 0 rfl).on hM10.below).on hM12.below).on hM14.below).on hM16.below).on hM22.below).on hbel) Tryd.underlying24 rfl info_Wide (by rw [wcells2_size]; decide) (wcells2_at0 _ _) (sE ap sz rfl)
  · intro A W sz ot hbel ap dp
    refine kCall1 41 _ _ _ rfl rfl (by kernel_rfl) (sD dp 1 .data) ?_
    refine (dOf_num r mr W).mono ?_
    rintro e r ⟨xx, rfl, hNx, hBc⟩
    exact ⟨_, rfl, (sV ap sz hBc hNx)⟩
  · exact fun A W sz ot hbel ap dp => kMoveV _ _ rfl rfl (sO ot 7) (sE ap sz rfl)
  · intro A W sz ot hbel ap dp
    have hN49 := (show Num W (A.tmps.getD 49 undef) (r) 16 from (sD dp 2 .data))
    refine kCall3 40 _ _ _ _ _ _ _ rfl rfl (by kernel_rfl) (rfl : A.eval (Operand.tmp 49) = A.tmps.getD 49 undef) (sD dp 3 .data) rfl ?_
    refine (rMul_as hm hP hN49 (((((hN12.below hM14.below).below hM16.below).below hM22.below).below hbel).n16 mu) Hk2.out).mono ?_
    rintro e r ⟨xx, rfl, hNx, hBc⟩
    exact ⟨_, rfl, (sV ap sz hBc hNx)⟩
  · intro A W sz ot hbel ap dp
    have hN51 := (show NumT W (A.tmps.getD 51 undef) (k2) from (sD dp 4 .data))
    exact sCall1 9 rfl (rfl : A.eval (Operand.tmp 51) = A.tmps.getD 51 undef) (sC (dWide_numT hN51) ap sz (fun _ => rfl))
  · exact fun A W sz ot hbel ap dp => kLoadRow _ _ _ _ _ _ rfl rfl (sO ot 3) (((((((hM6.get 2 rfl).on hM10.below).on hM12.below).on hM14.below).on hM16.below).on hM22.below).on hbel) Tryd.underlying30 rfl (info_ptc _) (sE ap sz rfl)
  · exact fun A W sz ot hbel ap dp => sCall2 19 rfl (sD dp 5 .data) (sD dp 6 .data) (sC (eTimes_q mk2 op Ha2.out W) ap sz (fun _ => rfl))
  · intro A W sz ot hbel ap dp
    refine kAllocL _ _ rfl rfl zero_Point ?_
    intro r hR hl hBc
    exact (sA ap sz hl hBc ⟨_, rfl, hbel.size, hR⟩ rfl)
  intro w23 hB23
  dsimp only [AllV]
  intro x23_49 hN23_49
  intro x23_51 hN23_51
  intro g23_9 hg23_9 hR23_9
  intro hap
  dsimp only [putAll, List.take, List.drop]
  go_frame
  have hM23 := hM22.on hB23
  replace hM23 := hM23.cons hR23_9 (Nat.le_trans hM22.size hg23_9) (fun p hp => by have := hM22.lt hp; omega)
  clear hB23 hM22 hap hg23_9 hR23_9
  have hM24 := mm_nil w23
  go_wp2_with (first
    | ((with_reducible change wpList _ _ _ (Oper.mk none (Op.store _ (Operand.tmp 9) (Operand.tmp 54)) _ _ _ _ :: _) _ _); have hJ := (Mm.join (Mm.join (Mm.join (Mm.join (Mm.join (Mm.join hM6 hM10) hM12) hM14) hM16) hM23) hM24); dsimp only [List.append, List.cons_append, List.nil_append] at hJ; refine mmStoreAt hJ 0 _ _ _ _ _ _ (ptc a2) rfl rfl rfl rfl rfl (info_ptc _) (by simp only [pcells_size, ptc_size]) (ptc_one _) ?_; intro w25 hM25; dsimp only [List.set] at hM25; clear hJ; go_frame)
    | ((with_reducible change wpList _ _ _ (Oper.mk (some 55) _ _ _ _ _ :: _) _ _); refine kLoadRow _ _ _ _ _ _ rfl rfl rfl (hM25.get 1 rfl) Tryd.underlying30 rfl (info_ptc _) ?_; go_frame)
    | ((with_reducible change wpList _ _ _ (Oper.mk (some 56) _ _ _ _ _ :: _) _ _); refine kLoadRow _ _ _ _ _ _ rfl rfl rfl (hM25.get 0 rfl) Tryd.underlying30 rfl (info_ptc _) ?_; go_frame)
    | (go_at_call 53; (with_reducible change Calls _ _ #[Value.agg (ptc a1), Value.agg (ptc a2)] _ _); refine (eAdd_q oa1 oa2 hsum.out _).mono ?_; rintro e w26 ⟨rfl, hB26⟩; have hM26 := hM25.on hB26; clear hB26 hM25; (try unfold WV); go_frame)
    | ((with_reducible change wpList _ _ _ (Oper.mk (some 10) _ _ _ _ _ :: _) _ _); refine mmAlloc hM26 _ _ rfl rfl zero_Point ?_; intro w27 hM27; clear hM26; go_frame)
    | ((with_reducible change wpList _ _ _ (Oper.mk none (Op.store _ (Operand.tmp 10) (Operand.tmp 57)) _ _ _ _ :: _) _ _); refine mmStoreAt hM27 0 _ _ _ _ _ _ (ptc q) rfl rfl rfl rfl rfl (info_ptc _) (by simp only [pcells_size, ptc_size]) (ptc_one _) ?_; intro w28 hM28; dsimp only [List.set] at hM28; clear hM27; go_frame))
  refine region_symT 13 _ [] [] [.val (.pointer (some ⟨w26.heap.size, 8, none⟩)), .val (.bool true), .val (.bool false), .val (.bool false), .val (undef), .val (undef), .val (undef), .val (undef), .val (undef), .val (undef), .val (undef), .val (.bool false), .val (.bool false)] rfl (by kernel_rfl) (by kernel_rfl) (by kernel_rfl) (by kernel_rfl) rfl (by intro s hs; cases hs) (steps_all ⟨?_, ?_, ?_, ?_, ?_, ?_, ?_, ?_, ?_, ?_, ?_, ?_, ?_, trivial⟩) ?_
  · exact fun A W sz ot hbel ap dp => kFieldPoint2 _ _ rfl rfl (sO ot 10) (sE ap sz rfl)
  · exact fun A W sz ot hbel ap dp => kLoad1 _ _ _ _ _ _ _ _ rfl rfl (sD dp 0 .data) ((hM28.get 0 rfl).on hbel) Tryd.underlying4 rfl (F59.out) (sE ap sz rfl)
  · exact fun A W sz ot hbel ap dp => kNot _ _ true rfl rfl (sD dp 1 .data) (sE ap sz rfl)
  · exact fun A W sz ot hbel ap dp => kMoveV _ _ rfl rfl (sD dp 2 .data) (sE ap sz rfl)
  · exact fun A W sz ot hbel ap dp => wpList_skip (unwanted_of rfl rfl (sD dp 3 .guard) (.inl rfl)) (sE ap sz rfl)
  · exact fun A W sz ot hbel ap dp => wpList_skip (unwanted_of rfl rfl (sD dp 3 .guard) (.inl rfl)) (sE ap sz rfl)
  · exact fun A W sz ot hbel ap dp => wpList_skip (unwanted_of rfl rfl (sD dp 3 .chain) (.inl rfl)) (sE ap sz rfl)
  · exact fun A W sz ot hbel ap dp => wpList_skip (unwanted_of rfl rfl (sD dp 3 .guard) (.inl rfl)) (sE ap sz rfl)
  · exact fun A W sz ot hbel ap dp => wpList_skip (unwanted_of rfl rfl (sD dp 3 .guard) (.inl rfl)) (sE ap sz rfl)
  · exact fun A W sz ot hbel ap dp => wpList_skip (unwanted_of rfl rfl (sD dp 3 .guard) (.inl rfl)) (sE ap sz rfl)
  · exact fun A W sz ot hbel ap dp => wpList_skip (unwanted_of rfl rfl (sD dp 3 .guard) (.inl rfl)) (sE ap sz rfl)
  · exact fun A W sz ot hbel ap dp => kPick _ _ _ false (.bool false) rfl rfl (sD dp 3 .data) rfl (sE ap sz rfl)
  · exact fun A W sz ot hbel ap dp => kAssignV _ _ rfl rfl (sD dp 11 .data) (sE ap sz rfl)
  intro w29 hB29
  dsimp only [AllV]
  intro hap
  dsimp only [putAll, List.take, List.drop]
  go_frame
  have hM29 := hM28.on hB29
  clear hB29 hM28 hap
  go_wp2_with fail
  go_ret
  exact ⟨rfl, hM29.below⟩
set_option maxRecDepth 100000 in
set_option maxHeartbeats 8000000 in
theorem gVerify_x {p : Pt PP} (op : p.On) {r s : Nat} (mr : r < M256) (ms : s < M256) {f : Nat → Nat} {z : Nat} (hf : ∀ i, f i < 256) (hz : zOf f = z) (hr : isSec r = true) (hs : isSec s = true) (hb : isHi s = false) (hp : pN p = false) (hq : pN (sumOf p z r s) = false) (w : World) : Calls Tryd.prog 21 #[.agg (ptc p), .agg (bcells f), .agg (wcells2 r s)] w fun e w' => e = .returned (.bool (decide (pX (sumOf p z r s) % NN = r))) ∧ Below w.heap.size w w' := by
  obtain ⟨m, Hm⟩ : ∃ m, Hid (m = NN) := ⟨_, Lib.hid rfl⟩
  have hm : Modu m := by rw [Hm.out]; exact modu_N
  have hP : PrimeIs false m := by rw [Hm.out]; exact rPrime_false
  have Hz := Lib.hid hz
  obtain ⟨zm, Hzm⟩ : ∃ n, Hid (z % m = n) := ⟨_, Lib.hid rfl⟩
  have mzm : zm < M256 := by rw [← Hzm.out]; exact hm.mod _
  clear hz
  have F29 := Lib.hid (show (ptc p)[8]? = some (.bool false) by rw [pN_at, hp])
  replace hr := Lib.hid hr
  replace hs := Lib.hid hs
  replace hb := Lib.hid hb
  obtain ⟨u, Hu⟩ : ∃ n, Hid (s ^ (m - 2) % m = n) := ⟨_, Lib.hid rfl⟩
  have mu : u < M256 := by rw [← Hu.out]; exact hm.mod _
  obtain ⟨k1, Hk1⟩ : ∃ n, Hid (zm * u % m = n) := ⟨_, Lib.hid rfl⟩
  obtain ⟨k2, Hk2⟩ : ∃ n, Hid (r * u % m = n) := ⟨_, Lib.hid rfl⟩
  have mk1 : k1 < M256 := by rw [← Hk1.out]; exact hm.mod _
  have mk2 : k2 < M256 := by rw [← Hk2.out]; exact hm.mod _
  obtain ⟨a1, Ha1⟩ : ∃ q, Hid (Pt.times ivP gPt k1 = q) := ⟨_, Lib.hid rfl⟩
  obtain ⟨a2, Ha2⟩ : ∃ q, Hid (Pt.times ivP p k2 = q) := ⟨_, Lib.hid rfl⟩
  have oa1 : a1.On := by rw [← Ha1.out]; exact base_on _
  have oa2 : a2.On := by rw [← Ha2.out]; exact goodP.times_on op _
  obtain ⟨q, Hq⟩ : ∃ q, Hid (sumOf p z r s = q) := ⟨_, Lib.hid rfl⟩
  have hsum := Lib.hid (show Pt.add ivP a1 a2 = q by rw [← Hq.out, ← Ha1.out, ← Ha2.out]; exact sum_same Hm.out Hzm.out Hu.out Hk1.out Hk2.out)
  rw [Hq.out] at hq ⊢
  have F59 := Lib.hid (show (ptc q)[8]? = some (.bool false) by rw [pN_at, hq])
  obtain ⟨xq, Hxq⟩ : ∃ x, Hid (pX q = x) := ⟨_, Lib.hid rfl⟩
  have mxq : xq < M256 := by rw [← Hxq.out]; exact pX_lt q
  obtain ⟨x, Hx⟩ : ∃ x, Hid (xq % m = x) := ⟨_, Lib.hid rfl⟩
  have mx : x < M256 := by rw [← Hx.out]; exact hm.mod _
  rw [Hxq.out, ← Hm.out, Hx.out]
  have F68 := Lib.hid (show decide (x % M256 = r % M256) = decide (x = r) by rw [Nat.mod_eq_of_lt mx, Nat.mod_eq_of_lt mr])
  clear hp hq
  have hM0 := mm_nil w
  (try unfold WV)
  go_enter Tryd.func21, Tryd.ntmps21
  go_wp2_with (first
    | ((with_reducible change wpList _ _ _ (Oper.mk (some 3) _ _ _ _ _ :: _) _ _); refine mmBox hM0 _ _ (ptc p) rfl rfl rfl ?_; intro w1 hM1; clear hM0; go_frame)
    | ((with_reducible change wpList _ _ _ (Oper.mk (some 4) _ _ _ _ _ :: _) _ _); refine mmBox hM1 _ _ (bcells f) rfl rfl rfl ?_; intro w2 hM2; clear hM1; go_frame)
    | ((with_reducible change wpList _ _ _ (Oper.mk (some 5) _ _ _ _ _ :: _) _ _); refine mmBox hM2 _ _ (wcells2 r s) rfl rfl rfl ?_; intro w3 hM3; clear hM2; go_frame)
    | ((with_reducible change wpList _ _ _ (Oper.mk (some 11) _ _ _ _ _ :: _) _ _); refine kFieldSig0 _ _ rfl rfl rfl ?_; go_frame)
    | ((with_reducible change wpList _ _ _ (Oper.mk (some 12) _ _ _ _ _ :: _) _ _); refine kLoadAs _ _ _ _ _ 4 _ _ _ rfl rfl rfl (hM3.get 0 rfl) Tryd.underlying24 rfl info_Wide (by rw [wcells2_size]; decide) (wcells2_at0 _ _) ?_; go_frame)
    | (go_at_call 18; (with_reducible change Calls _ _ #[Value.agg (wcells r)] _ _); refine (gSecret_as Hm.out hP mr hr.out _).mono ?_; rintro e w4 ⟨rfl, hB4⟩; have hM4 := hM3.on hB4; clear hB4 hM3; (try unfold WV); go_frame)
    | ((with_reducible change wpList _ _ _ (Oper.mk (some 16) _ _ _ _ _ :: _) _ _); refine kFieldSig1 _ _ rfl rfl rfl ?_; go_frame)
    | ((with_reducible change wpList _ _ _ (Oper.mk (some 17) _ _ _ _ _ :: _) _ _); refine kLoadAs _ _ _ _ _ 4 _ _ _ rfl rfl rfl (hM4.get 0 rfl) Tryd.underlying24 rfl info_Wide (by rw [wcells2_size]; decide) (wcells2_at4 _ _) ?_; go_frame)
    | (go_at_call 18; (with_reducible change Calls _ _ #[Value.agg (wcells s)] _ _); refine (gSecret_as Hm.out hP ms hs.out _).mono ?_; rintro e w5 ⟨rfl, hB5⟩; have hM5 := hM4.on hB5; clear hB5 hM4; (try unfold WV); go_frame)
    | ((with_reducible change wpList _ _ _ (Oper.mk (some 22) _ _ _ _ _ :: _) _ _); refine kFieldSig1 _ _ rfl rfl rfl ?_; go_frame)
    | ((with_reducible change wpList _ _ _ (Oper.mk (some 23) _ _ _ _ _ :: _) _ _); refine kLoadAs _ _ _ _ _ 4 _ _ _ rfl rfl rfl (hM5.get 0 rfl) Tryd.underlying24 rfl info_Wide (by rw [wcells2_size]; decide) (wcells2_at4 _ _) ?_; go_frame)
    | (go_at_call 41; (with_reducible change Calls _ _ #[Value.agg (wcells s)] _ _); refine (dOf_num s ms _).mono ?_; rintro e w6 ⟨x6, rfl, hN6, hB6⟩; have hM6 := hM5.on hB6; clear hB6 hM5; have hM7 := mm_nil w6; go_frame)
    | (go_at_call 43; (with_reducible change Calls _ _ #[x6] _ _); refine (gHigh_as Hm.out hP (hN6.below hM7.below) hb.out).mono ?_; rintro e w8 ⟨rfl, hB8⟩; have hM8 := hM7.on hB8; clear hB8 hM7; (try unfold WV); go_frame)
    | ((with_reducible change wpList _ _ _ (Oper.mk (some 28) _ _ _ _ _ :: _) _ _); refine kFieldPoint2 _ _ rfl rfl rfl ?_; go_frame)
    | ((with_reducible change wpList _ _ _ (Oper.mk (some 29) _ _ _ _ _ :: _) _ _); refine kLoad1 _ _ _ _ _ _ _ _ rfl rfl rfl ((hM6.get 2 rfl).on hM8.below) Tryd.underlying4 rfl (F29.out) ?_; go_frame)
    | ((with_reducible change wpList _ _ _ (Oper.mk (some 32) _ _ _ _ _ :: _) _ _); refine kLoadRow _ _ _ _ _ _ rfl rfl rfl ((hM6.get 2 rfl).on hM8.below) Tryd.underlying30 rfl (info_ptc _) ?_; go_frame)
    | (go_at_call 52; (with_reducible change Calls _ _ #[Value.agg (ptc p)] _ _); refine (eOn_pt op _).mono ?_; rintro e w9 ⟨rfl, hB9⟩; have hM9 := hM8.on hB9; clear hB9 hM8; (try unfold WV); go_frame)
    | ((with_reducible change wpList _ _ _ (Oper.mk (some 36) _ _ _ _ _ :: _) _ _); refine kFieldSig1 _ _ rfl rfl rfl ?_; go_frame)
    | ((with_reducible change wpList _ _ _ (Oper.mk (some 37) _ _ _ _ _ :: _) _ _); refine kLoadAs _ _ _ _ _ 4 _ _ _ rfl rfl rfl ((hM6.get 0 rfl).on hM9.below) Tryd.underlying24 rfl info_Wide (by rw [wcells2_size]; decide) (wcells2_at4 _ _) ?_; go_frame)
    | (go_at_call 41; (with_reducible change Calls _ _ #[Value.agg (wcells s)] _ _); refine (dOf_num s ms _).mono ?_; rintro e w10 ⟨x10, rfl, hN10, hB10⟩; have hM10 := hM9.on hB10; clear hB10 hM9; have hM11 := mm_nil w10; go_frame)
    | (go_at_call 42; (with_reducible change Calls _ _ #[x10, Value.bool false] _ _); refine (rInv_as hm hP (hN10.below hM11.below) Hu.out).mono ?_; rintro e w12 ⟨x12, rfl, hN12, hB12⟩; have hM12 := hM11.on hB12; clear hB12 hM11; have hM13 := mm_nil w12; go_frame)
    | ((with_reducible change wpList _ _ _ (Oper.mk (some 40) _ _ _ _ _ :: _) _ _); refine kLoadRow _ _ _ _ _ _ rfl rfl rfl ((((hM6.get 1 rfl).on hM10.below).on hM12.below).on hM13.below) Tryd.underlying40 rfl (info_HashC _) ?_; go_frame)
    | (go_at_call 39; (with_reducible change Calls _ _ #[Value.agg (bcells f)] _ _); refine (gNumber_as hm hP hf Hz.out Hzm.out _).mono ?_; rintro e w14 ⟨x14, rfl, hN14, hB14⟩; have hM14 := hM13.on hB14; clear hB14 hM13; have hM15 := mm_nil w14; go_frame)
    | (go_at_call 40; (with_reducible change Calls _ _ #[x14, x12, Value.bool false] _ _); refine (rMul_as hm hP ((hN14.below hM15.below).n16 mzm) (((hN12.below hM14.below).below hM15.below).n16 mu) Hk1.out).mono ?_; rintro e w16 ⟨x16, rfl, hN16, hB16⟩; have hM16 := hM15.on hB16; clear hB16 hM15; have hM17 := mm_nil w16; go_frame)
    | (go_at_call 9; (with_reducible change Calls _ _ #[x16] _ _); refine (dWide_numT (hN16.below hM17.below)).mono ?_; rintro e w18 ⟨rfl, hB18⟩; have hM18 := hM17.on hB18; clear hB18 hM17; (try unfold WV); go_frame)
    | (go_at_call 16; refine (eBase_any _).mono ?_; rintro e w19 ⟨rfl, hB19⟩; have hM19 := hM18.on hB19; clear hB19 hM18; (try unfold WV); go_frame)
    | (go_at_call 19; (with_reducible change Calls _ _ #[Value.agg (wcells k1), Value.agg (ptc gPt)] _ _); refine (eTimes_q mk1 gPt_on Ha1.out _).mono ?_; rintro e w20 ⟨rfl, hB20⟩; have hM20 := hM19.on hB20; clear hB20 hM19; (try unfold WV); go_frame)
    | ((with_reducible change wpList _ _ _ (Oper.mk (some 8) _ _ _ _ _ :: _) _ _); refine mmAlloc hM20 _ _ rfl rfl zero_Point ?_; intro w21 hM21; clear hM20; go_frame)
    | ((with_reducible change wpList _ _ _ (Oper.mk none (Op.store _ (Operand.tmp 8) (Operand.tmp 46)) _ _ _ _ :: _) _ _); refine mmStoreAt hM21 0 _ _ _ _ _ _ (ptc a1) rfl rfl rfl rfl rfl (info_ptc _) (by simp only [pcells_size, ptc_size]) (ptc_one _) ?_; intro w22 hM22; dsimp only [List.set] at hM22; clear hM21; go_frame))
  refine region_symT 9 _ [8] [9] [.val (.pointer (some ⟨w2.heap.size, 0, none⟩)), .val (.agg (wcells r)), .prop (fun w v => Num w v (r) 16) (fun _ _ _ hb h => h.below hb), .val (x12), .prop (fun w v => NumT w v (k2)) (fun _ _ _ hb h => h.below hb), .val (.agg (wcells k2)), .val (.agg (ptc p)), .val (.agg (ptc a2)), .hold w22.heap.size 30 (pcells 0 0 false)] rfl (by kernel_rfl) (by kernel_rfl) (by kernel_rfl) (by kernel_rfl) rfl (by intro s hs; simp only [List.mem_cons, List.not_mem_nil, or_false] at hs; rcases hs with rfl <;> rfl) (steps_all ⟨?_, ?_, ?_, ?_, ?_, ?_, ?_, ?_, ?_, trivial⟩) ?_
  · exact fun A W sz ot hbel ap dp => kFieldSig0 _ _ rfl rfl (sO ot 5) (sE ap sz rfl)
  · exact fun A W sz ot hbel ap dp => kLoadAs _ _ _ _ _ 4 _ _ _ rfl rfl (sD dp 0 .data) (((((((hM6.get 0 rfl).on hM10.below).on hM12.below).on hM14.below).on hM16.below).on hM22.below).on hbel) Tryd.underlying24 rfl info_Wide (by rw [wcells2_size]; decide) (wcells2_at0 _ _) (sE ap sz rfl)
  · intro A W sz ot hbel ap dp
    refine kCall1 41 _ _ _ rfl rfl (by kernel_rfl) (sD dp 1 .data) ?_
    refine (dOf_num r mr W).mono ?_
    rintro e r ⟨xx, rfl, hNx, hBc⟩
    exact ⟨_, rfl, (sV ap sz hBc hNx)⟩
  · exact fun A W sz ot hbel ap dp => kMoveV _ _ rfl rfl (sO ot 7) (sE ap sz rfl)
  · intro A W sz ot hbel ap dp
    have hN49 := (show Num W (A.tmps.getD 49 undef) (r) 16 from (sD dp 2 .data))
    refine kCall3 40 _ _ _ _ _ _ _ rfl rfl (by kernel_rfl) (rfl : A.eval (Operand.tmp 49) = A.tmps.getD 49 undef) (sD dp 3 .data) rfl ?_
    refine (rMul_as hm hP hN49 (((((hN12.below hM14.below).below hM16.below).below hM22.below).below hbel).n16 mu) Hk2.out).mono ?_
    rintro e r ⟨xx, rfl, hNx, hBc⟩
    exact ⟨_, rfl, (sV ap sz hBc hNx)⟩
  · intro A W sz ot hbel ap dp
    have hN51 := (show NumT W (A.tmps.getD 51 undef) (k2) from (sD dp 4 .data))
    exact sCall1 9 rfl (rfl : A.eval (Operand.tmp 51) = A.tmps.getD 51 undef) (sC (dWide_numT hN51) ap sz (fun _ => rfl))
  · exact fun A W sz ot hbel ap dp => kLoadRow _ _ _ _ _ _ rfl rfl (sO ot 3) (((((((hM6.get 2 rfl).on hM10.below).on hM12.below).on hM14.below).on hM16.below).on hM22.below).on hbel) Tryd.underlying30 rfl (info_ptc _) (sE ap sz rfl)
  · exact fun A W sz ot hbel ap dp => sCall2 19 rfl (sD dp 5 .data) (sD dp 6 .data) (sC (eTimes_q mk2 op Ha2.out W) ap sz (fun _ => rfl))
  · intro A W sz ot hbel ap dp
    refine kAllocL _ _ rfl rfl zero_Point ?_
    intro r hR hl hBc
    exact (sA ap sz hl hBc ⟨_, rfl, hbel.size, hR⟩ rfl)
  intro w23 hB23
  dsimp only [AllV]
  intro x23_49 hN23_49
  intro x23_51 hN23_51
  intro g23_9 hg23_9 hR23_9
  intro hap
  dsimp only [putAll, List.take, List.drop]
  go_frame
  have hM23 := hM22.on hB23
  replace hM23 := hM23.cons hR23_9 (Nat.le_trans hM22.size hg23_9) (fun p hp => by have := hM22.lt hp; omega)
  clear hB23 hM22 hap hg23_9 hR23_9
  have hM24 := mm_nil w23
  go_wp2_with (first
    | ((with_reducible change wpList _ _ _ (Oper.mk none (Op.store _ (Operand.tmp 9) (Operand.tmp 54)) _ _ _ _ :: _) _ _); have hJ := (Mm.join (Mm.join (Mm.join (Mm.join (Mm.join (Mm.join hM6 hM10) hM12) hM14) hM16) hM23) hM24); dsimp only [List.append, List.cons_append, List.nil_append] at hJ; refine mmStoreAt hJ 0 _ _ _ _ _ _ (ptc a2) rfl rfl rfl rfl rfl (info_ptc _) (by simp only [pcells_size, ptc_size]) (ptc_one _) ?_; intro w25 hM25; dsimp only [List.set] at hM25; clear hJ; go_frame)
    | ((with_reducible change wpList _ _ _ (Oper.mk (some 55) _ _ _ _ _ :: _) _ _); refine kLoadRow _ _ _ _ _ _ rfl rfl rfl (hM25.get 1 rfl) Tryd.underlying30 rfl (info_ptc _) ?_; go_frame)
    | ((with_reducible change wpList _ _ _ (Oper.mk (some 56) _ _ _ _ _ :: _) _ _); refine kLoadRow _ _ _ _ _ _ rfl rfl rfl (hM25.get 0 rfl) Tryd.underlying30 rfl (info_ptc _) ?_; go_frame)
    | (go_at_call 53; (with_reducible change Calls _ _ #[Value.agg (ptc a1), Value.agg (ptc a2)] _ _); refine (eAdd_q oa1 oa2 hsum.out _).mono ?_; rintro e w26 ⟨rfl, hB26⟩; have hM26 := hM25.on hB26; clear hB26 hM25; (try unfold WV); go_frame)
    | ((with_reducible change wpList _ _ _ (Oper.mk (some 10) _ _ _ _ _ :: _) _ _); refine mmAlloc hM26 _ _ rfl rfl zero_Point ?_; intro w27 hM27; clear hM26; go_frame)
    | ((with_reducible change wpList _ _ _ (Oper.mk none (Op.store _ (Operand.tmp 10) (Operand.tmp 57)) _ _ _ _ :: _) _ _); refine mmStoreAt hM27 0 _ _ _ _ _ _ (ptc q) rfl rfl rfl rfl rfl (info_ptc _) (by simp only [pcells_size, ptc_size]) (ptc_one _) ?_; intro w28 hM28; dsimp only [List.set] at hM28; clear hM27; go_frame))
  refine region_symT 13 _ [] [] [.val (.pointer (some ⟨w26.heap.size, 8, none⟩)), .val (.bool false), .val (.bool true), .val (.bool true), .val (.pointer (some ⟨w26.heap.size, 0, none⟩)), .val (.agg (wcells xq)), .prop (fun w v => NumT w v (x)) (fun _ _ _ hb h => h.below hb), .val (.agg (wcells x)), .val (.pointer (some ⟨w2.heap.size, 0, none⟩)), .val (.agg (wcells r)), .val (.bool ((decide (x = r)))), .val (.bool ((decide (x = r)))), .val (.bool ((decide (x = r))))] rfl (by kernel_rfl) (by kernel_rfl) (by kernel_rfl) (by kernel_rfl) rfl (by intro s hs; cases hs) (steps_all ⟨?_, ?_, ?_, ?_, ?_, ?_, ?_, ?_, ?_, ?_, ?_, ?_, ?_, trivial⟩) ?_
  · exact fun A W sz ot hbel ap dp => kFieldPoint2 _ _ rfl rfl (sO ot 10) (sE ap sz rfl)
  · exact fun A W sz ot hbel ap dp => kLoad1 _ _ _ _ _ _ _ _ rfl rfl (sD dp 0 .data) ((hM28.get 0 rfl).on hbel) Tryd.underlying4 rfl (F59.out) (sE ap sz rfl)
  · exact fun A W sz ot hbel ap dp => kNot _ _ false rfl rfl (sD dp 1 .data) (sE ap sz rfl)
  · exact fun A W sz ot hbel ap dp => kMoveV _ _ rfl rfl (sD dp 2 .data) (sE ap sz rfl)
  · exact fun A W sz ot hbel ap dp => kFieldPoint0 _ _ rfl (wanted_of rfl rfl (sD dp 3 .guard)) (sO ot 10) (sE ap sz rfl)
  · exact fun A W sz ot hbel ap dp => kLoadAs _ _ _ _ _ 4 _ _ _ rfl (wanted_of rfl rfl (sD dp 3 .guard)) (sD dp 4 .data) ((hM28.get 0 rfl).on hbel) Tryd.underlying24 rfl info_Wide (by rw [ptc_size]; decide) (ptc_x Hxq.out) (sE ap sz rfl)
  · intro A W sz ot hbel ap dp
    refine kCall2 37 _ _ _ _ _ rfl (wanted_of rfl rfl (sD dp 3 .chain)) (by kernel_rfl) (sD dp 5 .data) rfl ?_
    refine (rOf_as hm hP mxq Hx.out W).mono ?_
    rintro e r ⟨xx, rfl, hNx, hBc⟩
    exact ⟨_, rfl, (sV ap sz hBc hNx)⟩
  · intro A W sz ot hbel ap dp
    have hN64 := (show NumT W (A.tmps.getD 64 undef) (x) from (sD dp 6 .data))
    exact sCall1 9 rfl (rfl : A.eval (Operand.tmp 64) = A.tmps.getD 64 undef) (sC (dWide_numT hN64) ap sz (fun _ => rfl)) (wanted_of rfl rfl (sD dp 3 .guard))
  · exact fun A W sz ot hbel ap dp => kFieldSig0 _ _ rfl (wanted_of rfl rfl (sD dp 3 .guard)) (sO ot 5) (sE ap sz rfl)
  · exact fun A W sz ot hbel ap dp => kLoadAs _ _ _ _ _ 4 _ _ _ rfl (wanted_of rfl rfl (sD dp 3 .guard)) (sD dp 8 .data) ((hM28.get 3 rfl).on hbel) Tryd.underlying24 rfl info_Wide (by rw [wcells2_size]; decide) (wcells2_at0 _ _) (sE ap sz rfl)
  · exact fun A W sz ot hbel ap dp => kEqlW _ _ _ (x) (r) (decide (x = r)) rfl (wanted_of rfl rfl (sD dp 3 .guard)) (sD dp 7 .data) (sD dp 9 .data) (F68.out) (sE ap sz rfl)
  · exact fun A W sz ot hbel ap dp => kPick _ _ _ true (.bool ((decide (x = r)))) rfl rfl (sD dp 3 .data) (sD dp 10 .data) (sE ap sz rfl)
  · exact fun A W sz ot hbel ap dp => kAssignV _ _ rfl rfl (sD dp 11 .data) (sE ap sz rfl)
  intro w29 hB29
  dsimp only [AllV]
  intro x29_64 hN29_64
  intro hap
  dsimp only [putAll, List.take, List.drop]
  go_frame
  have hM29 := hM28.on hB29
  clear hB29 hM28 hap
  have hM30 := mm_nil w29
  go_wp2_with fail
  go_ret
  exact ⟨rfl, ((hM29.below).trans (hM30.below.mono (hM29.below).size))⟩
theorem gVerify_as {b : Bool} {p : Pt PP} (op : p.On) {r s : Nat} (mr : r < M256) (ms : s < M256) {f : Nat → Nat} {z : Nat} (hf : ∀ i, f i < 256) (hz : zOf f = z) (h : verifyB p z r s = b) (w : World) : Calls Tryd.prog 21 #[.agg (ptc p), .agg (bcells f), .agg (wcells2 r s)] w fun e w' => e = .returned (.bool b) ∧ Below w.heap.size w w' := by
  subst h
  unfold verifyB
  cases hr : isSec r with
  | false => simpa only [hr, Bool.false_and] using gVerify_r mr hr w
  | true =>
    cases hs : isSec s with
    | false => simpa only [hr, hs, Bool.false_and, Bool.and_false] using gVerify_s mr ms hr hs w
    | true =>
      cases hb : isHi s with
      | true => simpa only [hr, hs, hb, Bool.not_true, Bool.false_and, Bool.and_false] using gVerify_h mr ms hr hs hb w
      | false =>
        cases hp : pN p with
        | true => simpa only [hr, hs, hb, hp, Bool.not_true, Bool.false_and, Bool.and_false] using gVerify_o mr ms hr hs hb hp w
        | false =>
          cases hq : pN (sumOf p z r s) with
          | true => simpa only [hr, hs, hb, hp, hq, Bool.not_true, Bool.false_and, Bool.and_false] using gVerify_n op mr ms hf hz hr hs hb hp hq w
          | false => simpa only [hr, hs, hb, hp, hq, Bool.not_false, Bool.true_and, Bool.and_true, Bool.and_self] using gVerify_x op mr ms hf hz hr hs hb hp hq w
end Go.Proofs.YtfgffjmpjoipeaaDoor
