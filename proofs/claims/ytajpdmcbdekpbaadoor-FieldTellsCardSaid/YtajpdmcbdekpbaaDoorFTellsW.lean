/-
  The walk of the statement FieldTells.
-/
import Derived.Test.YtajpdmcbdekpbaaDoorFRef4
namespace Go.Proofs.YtajpdmcbdekpbaaDoor
open Go Go.RowKit

set_option maxRecDepth 100000 in
set_option maxHeartbeats 8000000 in
theorem FieldTells_true (a : Nat) (ma : a < M256) (b : Nat) (mb : b < M256) (w : World) (hG : Glob 0 PP w) :
    Calls Tryd.prog 4 #[.bool true, WV a, WV b] w fun e w' => e = .returned (.bool true) ∧ Below w.heap.size w w' := by
  obtain ⟨m, Hm⟩ : ∃ m, Hid (m = PP) := ⟨_, Lib.hid rfl⟩
  have hm : Modu m := by rw [Hm.out]; exact modu_P
  have hP : PrimeIs true m := by rw [Hm.out]; exact rPrime_true
  have hR : Glob 0 m w := by rw [Hm.out]; exact hG
  obtain ⟨v16, Hv16⟩ : ∃ n, Hid (a % m = n) := ⟨_, Lib.hid rfl⟩
  have mv16 : v16 < M256 := by rw [← Hv16.out]; exact hm.mod _
  obtain ⟨v19, Hv19⟩ : ∃ n, Hid (b % m = n) := ⟨_, Lib.hid rfl⟩
  have mv19 : v19 < M256 := by rw [← Hv19.out]; exact hm.mod _
  obtain ⟨v23, Hv23⟩ : ∃ n, Hid ((a + b) % m = n) := ⟨_, Lib.hid rfl⟩
  have mv23 : v23 < M256 := by rw [← Hv23.out]; exact hm.mod _
  obtain ⟨v27, Hv27⟩ : ∃ n, Hid ((v16 + v19) % m = n) := ⟨_, Lib.hid rfl⟩
  have mv27 : v27 < M256 := by rw [← Hv27.out]; exact hm.mod _
  obtain ⟨v34, Hv34⟩ : ∃ n, Hid ((a % m + m - b % m) % m = n) := ⟨_, Lib.hid rfl⟩
  have mv34 : v34 < M256 := by rw [← Hv34.out]; exact hm.mod _
  obtain ⟨v38, Hv38⟩ : ∃ n, Hid ((v16 + m - v19) % m = n) := ⟨_, Lib.hid rfl⟩
  have mv38 : v38 < M256 := by rw [← Hv38.out]; exact hm.mod _
  obtain ⟨v46, Hv46⟩ : ∃ n, Hid (a * b % m = n) := ⟨_, Lib.hid rfl⟩
  have mv46 : v46 < M256 := by rw [← Hv46.out]; exact hm.mod _
  obtain ⟨v50, Hv50⟩ : ∃ n, Hid (v16 * v19 % m = n) := ⟨_, Lib.hid rfl⟩
  have mv50 : v50 < M256 := by rw [← Hv50.out]; exact hm.mod _
  obtain ⟨bb, Hbb⟩ : ∃ bb, Hid (decide (a < m) = bb) := ⟨_, Lib.hid rfl⟩
  have F29 := Lib.hid (eqlW_yes (show v23 = v27 by rw [← Hv23.out, ← Hv27.out, ← Hv16.out, ← Hv19.out, ← Nat.add_mod]))
  have F40 := Lib.hid (eqlW_yes (show v34 = v38 by rw [← Hv34.out, ← Hv38.out, ← Hv16.out, ← Hv19.out]))
  have F52 := Lib.hid (eqlW_yes (show v46 = v50 by rw [← Hv46.out, ← Hv50.out, ← Hv16.out, ← Hv19.out, ← Nat.mul_mod]))
  have F57 := Lib.hid (show decide (a < m) = bb from Hbb.out)
  have F63 := Lib.hid (cmpI_less Hbb.out)
  have hM0 := mm_nil w
  (try unfold WV)
  go_enter Tryd.func4, Tryd.ntmps4
  go_wp2_with (first
    | ((with_reducible change wpList _ _ _ (Oper.mk (some 4) _ _ _ _ _ :: _) _ _); refine mmBox hM0 _ _ _ rfl rfl rfl ?_; intro w1 hM1; clear hM0; go_frame)
    | ((with_reducible change wpList _ _ _ (Oper.mk (some 5) _ _ _ _ _ :: _) _ _); refine mmBox hM1 _ _ _ rfl rfl rfl ?_; intro w2 hM2; clear hM1; go_frame)
    | (go_at_call 10; refine (fieldAlive_any _ (hG.below hM2.below)).mono ?_; rintro e w3 ⟨rfl, hB3⟩; have hM3 := hM2.on hB3; clear hB3 hM2; (try unfold WV); go_frame)
    | (go_at_call 19; (with_reducible change Calls _ _ #[Value.bool true] _ _); refine (ring_true m _ (hR.below hM3.below)).mono ?_; rintro e w4 ⟨rfl, hR4, hB4⟩; have hM4 := hM3.new hR4 hB4; clear hB4 hR4 hM3; go_frame))
  refine region_sym (fun _ => 0) [.val (.agg (wcells a)), .val (.bool true), .prop (fun w v => NumT w v (v16)) (fun _ _ _ hb h => h.below hb), .val (.agg (wcells b)), .val (.bool true), .prop (fun w v => NumT w v (v19)) (fun _ _ _ hb h => h.below hb), .prop (fun w v => NumT w v (v16)) (fun _ _ _ hb h => h.below hb), .prop (fun w v => NumT w v (v19)) (fun _ _ _ hb h => h.below hb)] [.val (.agg (wcells a)), .val (.bool true), .prop (fun w v => NumT w v (v16)) (fun _ _ _ hb h => h.below hb), .val (.agg (wcells b)), .val (.bool true), .prop (fun w v => NumT w v (v19)) (fun _ _ _ hb h => h.below hb), .prop (fun w v => NumT w v (v16)) (fun _ _ _ hb h => h.below hb), .prop (fun w v => NumT w v (v19)) (fun _ _ _ hb h => h.below hb)] (by kernel_rfl) (by kernel_rfl) rfl rfl (steps_all ⟨?_, ?_, ?_, ?_, ?_, ?_, ?_, ?_, trivial⟩) ?_
  · intro A W hsz hoth hbel hdep
    exact kLoadRow _ _ _ _ _ _ rfl rfl ((hoth 4 (free2_of (by kernel_rfl))).trans rfl) ((hM4.get 2 rfl).on hbel) Tryd.underlying25 rfl (info_WideC _) (symV hbel hsz rfl rfl (show 14 < 66 by decide) (Below.refl _ _) rfl)
  · intro A W hsz hoth hbel hdep
    exact kMoveV _ (.bool true) rfl rfl ((hoth 0 (free2_of (by kernel_rfl))).trans rfl) (symV hbel hsz rfl rfl (show 15 < 66 by decide) (Below.refl _ _) rfl)
  · intro A W hsz hoth hbel hdep
    refine kCall2 20 _ _ _ _ _ rfl rfl (by kernel_rfl) (by have h := hdep ⟨0, .data⟩ (by simp) rfl; exact h) (by have h := hdep ⟨1, .data⟩ (by simp) rfl; exact h) ?_
    refine (rOf_as hm hP ma Hv16.out W).mono ?_
    rintro e r ⟨xx, rfl, hNx, hBc⟩
    exact ⟨_, rfl, (symV hbel hsz rfl rfl (show 16 < 66 by decide) hBc hNx)⟩
  · intro A W hsz hoth hbel hdep
    exact kLoadRow _ _ _ _ _ _ rfl rfl ((hoth 5 (free2_of (by kernel_rfl))).trans rfl) ((hM4.get 1 rfl).on hbel) Tryd.underlying25 rfl (info_WideC _) (symV hbel hsz rfl rfl (show 17 < 66 by decide) (Below.refl _ _) rfl)
  · intro A W hsz hoth hbel hdep
    exact kMoveV _ (.bool true) rfl rfl ((hoth 0 (free2_of (by kernel_rfl))).trans rfl) (symV hbel hsz rfl rfl (show 18 < 66 by decide) (Below.refl _ _) rfl)
  · intro A W hsz hoth hbel hdep
    refine kCall2 20 _ _ _ _ _ rfl rfl (by kernel_rfl) (by have h := hdep ⟨3, .data⟩ (by simp) rfl; exact h) (by have h := hdep ⟨4, .data⟩ (by simp) rfl; exact h) ?_
    refine (rOf_as hm hP mb Hv19.out W).mono ?_
    rintro e r ⟨xx, rfl, hNx, hBc⟩
    exact ⟨_, rfl, (symV hbel hsz rfl rfl (show 19 < 66 by decide) hBc hNx)⟩
  · intro A W hsz hoth hbel hdep
    have hN := (by have h := hdep ⟨2, .data⟩ (by simp) rfl; exact h)
    exact kAssignV _ (A.tmps.getD 16 undef) rfl rfl rfl (symV hbel hsz rfl rfl (show 8 < 66 by decide) (Below.refl _ _) hN)
  · intro A W hsz hoth hbel hdep
    have hN := (by have h := hdep ⟨5, .data⟩ (by simp) rfl; exact h)
    exact kAssignV _ (A.tmps.getD 19 undef) rfl rfl rfl (symV hbel hsz rfl rfl (show 9 < 66 by decide) (Below.refl _ _) hN)
  intro w5 hB5
  dsimp only [AllV]
  intro x5_16 hN5_16
  intro x5_19 hN5_19
  intro x5_8 hN5_8
  intro x5_9 hN5_9
  dsimp only [putAll]
  go_frame
  have hM5 := hM4.on hB5
  clear hB5 hM4
  have hM6 := mm_nil w5
  go_wp2_with fail
  refine region_sym (fun _ => 0) [.val (.pointer (some ⟨w3.heap.size, 0, none⟩)), .val (.agg (wcells a)), .val (.agg (wcells b)), .val (.agg (wcells v23)), .val (x5_8), .val (x5_9), .val (.bool true), .prop (fun w v => NumT w v (v27)) (fun _ _ _ hb h => h.below hb), .val (.agg (wcells v27)), .val (.bool true), .val (.bool true), .val (.pointer (some ⟨w3.heap.size, 0, none⟩)), .val (.agg (wcells a)), .val (.agg (wcells b)), .val (.agg (wcells v34)), .val (x5_8), .val (x5_9), .val (.bool true), .prop (fun w v => NumT w v (v38)) (fun _ _ _ hb h => h.below hb), .val (.agg (wcells v38)), .val (.bool true), .val (.bool true), .val (.bool true), .val (.pointer (some ⟨w3.heap.size, 0, none⟩)), .val (.agg (wcells a)), .val (.agg (wcells b)), .val (.agg (wcells v46)), .val (x5_8), .val (x5_9), .val (.bool true), .prop (fun w v => NumT w v (v50)) (fun _ _ _ hb h => h.below hb), .val (.agg (wcells v50)), .val (.bool true), .val (.bool true), .val (.bool true), .val (.pointer (some ⟨w3.heap.size, 0, none⟩)), .val (.agg (wcells a)), .val (.bool bb), .val (.agg (wcells a)), .prop (fun w v => Num w v (a) 16) (fun _ _ _ hb h => h.below hb), .val (.bool true), .prop (fun w v => Num w v (m) 16) (fun _ _ _ hb h => h.below hb), .val (.int .i64 (cmpI a m)), .val (.bool bb), .val (.bool true), .val (.bool true), .val (.bool true)] [.val (.pointer (some ⟨w3.heap.size, 0, none⟩)), .val (.agg (wcells a)), .val (.agg (wcells b)), .val (.agg (wcells v23)), .val (x5_8), .val (x5_9), .val (.bool true), .prop (fun w v => NumT w v (v27)) (fun _ _ _ hb h => h.below hb), .val (.agg (wcells v27)), .val (.bool true), .val (.bool true), .val (.pointer (some ⟨w3.heap.size, 0, none⟩)), .val (.agg (wcells a)), .val (.agg (wcells b)), .val (.agg (wcells v34)), .val (x5_8), .val (x5_9), .val (.bool true), .prop (fun w v => NumT w v (v38)) (fun _ _ _ hb h => h.below hb), .val (.agg (wcells v38)), .val (.bool true), .val (.bool true), .val (.bool true), .val (.pointer (some ⟨w3.heap.size, 0, none⟩)), .val (.agg (wcells a)), .val (.agg (wcells b)), .val (.agg (wcells v46)), .val (x5_8), .val (x5_9), .val (.bool true), .prop (fun w v => NumT w v (v50)) (fun _ _ _ hb h => h.below hb), .val (.agg (wcells v50)), .val (.bool true), .val (.bool true), .val (.bool true), .val (.pointer (some ⟨w3.heap.size, 0, none⟩)), .val (.agg (wcells a)), .val (.bool bb), .val (.agg (wcells a)), .prop (fun w v => Num w v (a) 16) (fun _ _ _ hb h => h.below hb), .val (.bool true), .prop (fun w v => Num w v (m) 16) (fun _ _ _ hb h => h.below hb), .val (.int .i64 (cmpI a m)), .val (.bool bb), .val (.bool true), .val (.bool true), .val (.bool true)] (by kernel_rfl) (by kernel_rfl) rfl rfl (steps_all ⟨?_, ?_, ?_, ?_, ?_, ?_, ?_, ?_, ?_, ?_, ?_, ?_, ?_, ?_, ?_, ?_, ?_, ?_, ?_, ?_, ?_, ?_, ?_, ?_, ?_, ?_, ?_, ?_, ?_, ?_, ?_, ?_, ?_, ?_, ?_, ?_, ?_, ?_, ?_, ?_, ?_, ?_, ?_, ?_, ?_, ?_, ?_, trivial⟩) ?_
  · intro A W hsz hoth hbel hdep
    exact kMoveV _ (.pointer (some ⟨w3.heap.size, 0, none⟩)) rfl rfl ((hoth 7 (free2_of (by kernel_rfl))).trans rfl) (symV hbel hsz rfl rfl (show 20 < 66 by decide) (Below.refl _ _) rfl)
  · intro A W hsz hoth hbel hdep
    exact kLoadRow _ _ _ _ _ _ rfl rfl ((hoth 4 (free2_of (by kernel_rfl))).trans rfl) (((hM5.get 2 rfl).on hM6.below).on hbel) Tryd.underlying25 rfl (info_WideC _) (symV hbel hsz rfl rfl (show 21 < 66 by decide) (Below.refl _ _) rfl)
  · intro A W hsz hoth hbel hdep
    exact kLoadRow _ _ _ _ _ _ rfl rfl ((hoth 5 (free2_of (by kernel_rfl))).trans rfl) (((hM5.get 1 rfl).on hM6.below).on hbel) Tryd.underlying25 rfl (info_WideC _) (symV hbel hsz rfl rfl (show 22 < 66 by decide) (Below.refl _ _) rfl)
  · intro A W hsz hoth hbel hdep
    refine kCall3 21 _ _ _ _ _ _ _ rfl rfl (by kernel_rfl) (by have h := hdep ⟨0, .data⟩ (by simp) rfl; exact h) (by have h := hdep ⟨1, .data⟩ (by simp) rfl; exact h) (by have h := hdep ⟨2, .data⟩ (by simp) rfl; exact h) ?_
    refine (fAdd_as hm (w3.heap.size) ma mb Hv23.out.symm W (((hM5.get 0 rfl).on hM6.below).on hbel)).mono ?_
    rintro e r ⟨rfl, hBc⟩
    exact ⟨_, rfl, (symV hbel hsz rfl rfl (show 23 < 66 by decide) hBc rfl)⟩
  · intro A W hsz hoth hbel hdep
    exact kMoveV _ (x5_8) rfl rfl ((hoth 8 (free2_of (by kernel_rfl))).trans rfl) (symV hbel hsz rfl rfl (show 24 < 66 by decide) (Below.refl _ _) rfl)
  · intro A W hsz hoth hbel hdep
    exact kMoveV _ (x5_9) rfl rfl ((hoth 9 (free2_of (by kernel_rfl))).trans rfl) (symV hbel hsz rfl rfl (show 25 < 66 by decide) (Below.refl _ _) rfl)
  · intro A W hsz hoth hbel hdep
    exact kMoveV _ (.bool true) rfl rfl ((hoth 0 (free2_of (by kernel_rfl))).trans rfl) (symV hbel hsz rfl rfl (show 26 < 66 by decide) (Below.refl _ _) rfl)
  · intro A W hsz hoth hbel hdep
    refine kCall3 22 _ _ _ _ _ _ _ rfl rfl (by kernel_rfl) (by have h := hdep ⟨4, .data⟩ (by simp) rfl; exact h) (by have h := hdep ⟨5, .data⟩ (by simp) rfl; exact h) (by have h := hdep ⟨6, .data⟩ (by simp) rfl; exact h) ?_
    refine (rAdd_as hm hP (((hN5_8.below hM6.below).below hbel).n16 mv16) (((hN5_9.below hM6.below).below hbel).n16 mv19) Hv27.out).mono ?_
    rintro e r ⟨xx, rfl, hNx, hBc⟩
    exact ⟨_, rfl, (symV hbel hsz rfl rfl (show 27 < 66 by decide) hBc hNx)⟩
  · intro A W hsz hoth hbel hdep
    have hN27 := (show NumT W (A.tmps.getD 27 undef) (v27) from (by have h := hdep ⟨7, .data⟩ (by simp) rfl; exact h))
    refine kCall1 17 _ _ _ rfl rfl (by kernel_rfl) (rfl : A.eval (Operand.tmp 27) = A.tmps.getD 27 undef) ?_
    refine (dWide_numT hN27).mono ?_
    rintro e r ⟨rfl, hBc⟩
    exact ⟨_, rfl, (symV hbel hsz rfl rfl (show 28 < 66 by decide) hBc rfl)⟩
  · intro A W hsz hoth hbel hdep
    exact kEqlW _ _ _ (v23) (v27) true rfl rfl (by have h := hdep ⟨3, .data⟩ (by simp) rfl; exact h) (by have h := hdep ⟨8, .data⟩ (by simp) rfl; exact h) (F29.out) (symV hbel hsz rfl rfl (show 29 < 66 by decide) (Below.refl _ _) rfl)
  · intro A W hsz hoth hbel hdep
    exact kMoveV _ (.bool true) rfl rfl (by have h := hdep ⟨9, .data⟩ (by simp) rfl; exact h) (symV hbel hsz rfl rfl (show 30 < 66 by decide) (Below.refl _ _) rfl)
  · intro A W hsz hoth hbel hdep
    exact kMoveV _ (.pointer (some ⟨w3.heap.size, 0, none⟩)) rfl (wanted_of rfl rfl (by have h := hdep ⟨10, .guard⟩ (by simp) rfl; exact h)) ((hoth 7 (free2_of (by kernel_rfl))).trans rfl) (symV hbel hsz rfl rfl (show 31 < 66 by decide) (Below.refl _ _) rfl)
  · intro A W hsz hoth hbel hdep
    exact kLoadRow _ _ _ _ _ _ rfl (wanted_of rfl rfl (by have h := hdep ⟨10, .guard⟩ (by simp) rfl; exact h)) ((hoth 4 (free2_of (by kernel_rfl))).trans rfl) (((hM5.get 2 rfl).on hM6.below).on hbel) Tryd.underlying25 rfl (info_WideC _) (symV hbel hsz rfl rfl (show 32 < 66 by decide) (Below.refl _ _) rfl)
  · intro A W hsz hoth hbel hdep
    exact kLoadRow _ _ _ _ _ _ rfl (wanted_of rfl rfl (by have h := hdep ⟨10, .guard⟩ (by simp) rfl; exact h)) ((hoth 5 (free2_of (by kernel_rfl))).trans rfl) (((hM5.get 1 rfl).on hM6.below).on hbel) Tryd.underlying25 rfl (info_WideC _) (symV hbel hsz rfl rfl (show 33 < 66 by decide) (Below.refl _ _) rfl)
  · intro A W hsz hoth hbel hdep
    refine kCall3 23 _ _ _ _ _ _ _ rfl (wanted_of rfl rfl (by have h := hdep ⟨10, .chain⟩ (by simp) rfl; exact h)) (by kernel_rfl) (by have h := hdep ⟨11, .data⟩ (by simp) rfl; exact h) (by have h := hdep ⟨12, .data⟩ (by simp) rfl; exact h) (by have h := hdep ⟨13, .data⟩ (by simp) rfl; exact h) ?_
    refine (fSub_as hm (w3.heap.size) ma mb Hv34.out W (((hM5.get 0 rfl).on hM6.below).on hbel)).mono ?_
    rintro e r ⟨rfl, hBc⟩
    exact ⟨_, rfl, (symV hbel hsz rfl rfl (show 34 < 66 by decide) hBc rfl)⟩
  · intro A W hsz hoth hbel hdep
    exact kMoveV _ (x5_8) rfl (wanted_of rfl rfl (by have h := hdep ⟨10, .guard⟩ (by simp) rfl; exact h)) ((hoth 8 (free2_of (by kernel_rfl))).trans rfl) (symV hbel hsz rfl rfl (show 35 < 66 by decide) (Below.refl _ _) rfl)
  · intro A W hsz hoth hbel hdep
    exact kMoveV _ (x5_9) rfl (wanted_of rfl rfl (by have h := hdep ⟨10, .guard⟩ (by simp) rfl; exact h)) ((hoth 9 (free2_of (by kernel_rfl))).trans rfl) (symV hbel hsz rfl rfl (show 36 < 66 by decide) (Below.refl _ _) rfl)
  · intro A W hsz hoth hbel hdep
    exact kMoveV _ (.bool true) rfl (wanted_of rfl rfl (by have h := hdep ⟨10, .guard⟩ (by simp) rfl; exact h)) ((hoth 0 (free2_of (by kernel_rfl))).trans rfl) (symV hbel hsz rfl rfl (show 37 < 66 by decide) (Below.refl _ _) rfl)
  · intro A W hsz hoth hbel hdep
    refine kCall3 24 _ _ _ _ _ _ _ rfl (wanted_of rfl rfl (by have h := hdep ⟨10, .guard⟩ (by simp) rfl; exact h)) (by kernel_rfl) (by have h := hdep ⟨15, .data⟩ (by simp) rfl; exact h) (by have h := hdep ⟨16, .data⟩ (by simp) rfl; exact h) (by have h := hdep ⟨17, .data⟩ (by simp) rfl; exact h) ?_
    refine (rSub_as hm hP (((hN5_8.below hM6.below).below hbel).n16 mv16) (((hN5_9.below hM6.below).below hbel).n16 mv19) (by rw [← Hv19.out]; exact Nat.mod_lt _ hm.pos) Hv38.out).mono ?_
    rintro e r ⟨xx, rfl, hNx, hBc⟩
    exact ⟨_, rfl, (symV hbel hsz rfl rfl (show 38 < 66 by decide) hBc hNx)⟩
  · intro A W hsz hoth hbel hdep
    have hN38 := (show NumT W (A.tmps.getD 38 undef) (v38) from (by have h := hdep ⟨18, .data⟩ (by simp) rfl; exact h))
    refine kCall1 17 _ _ _ rfl (wanted_of rfl rfl (by have h := hdep ⟨10, .guard⟩ (by simp) rfl; exact h)) (by kernel_rfl) (rfl : A.eval (Operand.tmp 38) = A.tmps.getD 38 undef) ?_
    refine (dWide_numT hN38).mono ?_
    rintro e r ⟨rfl, hBc⟩
    exact ⟨_, rfl, (symV hbel hsz rfl rfl (show 39 < 66 by decide) hBc rfl)⟩
  · intro A W hsz hoth hbel hdep
    exact kEqlW _ _ _ (v34) (v38) true rfl (wanted_of rfl rfl (by have h := hdep ⟨10, .guard⟩ (by simp) rfl; exact h)) (by have h := hdep ⟨14, .data⟩ (by simp) rfl; exact h) (by have h := hdep ⟨19, .data⟩ (by simp) rfl; exact h) (F40.out) (symV hbel hsz rfl rfl (show 40 < 66 by decide) (Below.refl _ _) rfl)
  · intro A W hsz hoth hbel hdep
    exact kPick _ _ _ true (.bool true) rfl rfl (by have h := hdep ⟨10, .data⟩ (by simp) rfl; exact h) (by have h := hdep ⟨20, .data⟩ (by simp) rfl; exact h) (symV hbel hsz rfl rfl (show 41 < 66 by decide) (Below.refl _ _) rfl)
  · intro A W hsz hoth hbel hdep
    exact kMoveV _ (.bool true) rfl rfl (by have h := hdep ⟨21, .data⟩ (by simp) rfl; exact h) (symV hbel hsz rfl rfl (show 42 < 66 by decide) (Below.refl _ _) rfl)
  · intro A W hsz hoth hbel hdep
    exact kMoveV _ (.pointer (some ⟨w3.heap.size, 0, none⟩)) rfl (wanted_of rfl rfl (by have h := hdep ⟨22, .guard⟩ (by simp) rfl; exact h)) ((hoth 7 (free2_of (by kernel_rfl))).trans rfl) (symV hbel hsz rfl rfl (show 43 < 66 by decide) (Below.refl _ _) rfl)
  · intro A W hsz hoth hbel hdep
    exact kLoadRow _ _ _ _ _ _ rfl (wanted_of rfl rfl (by have h := hdep ⟨22, .guard⟩ (by simp) rfl; exact h)) ((hoth 4 (free2_of (by kernel_rfl))).trans rfl) (((hM5.get 2 rfl).on hM6.below).on hbel) Tryd.underlying25 rfl (info_WideC _) (symV hbel hsz rfl rfl (show 44 < 66 by decide) (Below.refl _ _) rfl)
  · intro A W hsz hoth hbel hdep
    exact kLoadRow _ _ _ _ _ _ rfl (wanted_of rfl rfl (by have h := hdep ⟨22, .guard⟩ (by simp) rfl; exact h)) ((hoth 5 (free2_of (by kernel_rfl))).trans rfl) (((hM5.get 1 rfl).on hM6.below).on hbel) Tryd.underlying25 rfl (info_WideC _) (symV hbel hsz rfl rfl (show 45 < 66 by decide) (Below.refl _ _) rfl)
  · intro A W hsz hoth hbel hdep
    refine kCall3 25 _ _ _ _ _ _ _ rfl (wanted_of rfl rfl (by have h := hdep ⟨22, .chain⟩ (by simp) rfl; exact h)) (by kernel_rfl) (by have h := hdep ⟨23, .data⟩ (by simp) rfl; exact h) (by have h := hdep ⟨24, .data⟩ (by simp) rfl; exact h) (by have h := hdep ⟨25, .data⟩ (by simp) rfl; exact h) ?_
    refine (fMul_as hm (w3.heap.size) ma mb Hv46.out W (((hM5.get 0 rfl).on hM6.below).on hbel)).mono ?_
    rintro e r ⟨rfl, hBc⟩
    exact ⟨_, rfl, (symV hbel hsz rfl rfl (show 46 < 66 by decide) hBc rfl)⟩
  · intro A W hsz hoth hbel hdep
    exact kMoveV _ (x5_8) rfl (wanted_of rfl rfl (by have h := hdep ⟨22, .guard⟩ (by simp) rfl; exact h)) ((hoth 8 (free2_of (by kernel_rfl))).trans rfl) (symV hbel hsz rfl rfl (show 47 < 66 by decide) (Below.refl _ _) rfl)
  · intro A W hsz hoth hbel hdep
    exact kMoveV _ (x5_9) rfl (wanted_of rfl rfl (by have h := hdep ⟨22, .guard⟩ (by simp) rfl; exact h)) ((hoth 9 (free2_of (by kernel_rfl))).trans rfl) (symV hbel hsz rfl rfl (show 48 < 66 by decide) (Below.refl _ _) rfl)
  · intro A W hsz hoth hbel hdep
    exact kMoveV _ (.bool true) rfl (wanted_of rfl rfl (by have h := hdep ⟨22, .guard⟩ (by simp) rfl; exact h)) ((hoth 0 (free2_of (by kernel_rfl))).trans rfl) (symV hbel hsz rfl rfl (show 49 < 66 by decide) (Below.refl _ _) rfl)
  · intro A W hsz hoth hbel hdep
    refine kCall3 26 _ _ _ _ _ _ _ rfl (wanted_of rfl rfl (by have h := hdep ⟨22, .guard⟩ (by simp) rfl; exact h)) (by kernel_rfl) (by have h := hdep ⟨27, .data⟩ (by simp) rfl; exact h) (by have h := hdep ⟨28, .data⟩ (by simp) rfl; exact h) (by have h := hdep ⟨29, .data⟩ (by simp) rfl; exact h) ?_
    refine (rMul_as hm hP (((hN5_8.below hM6.below).below hbel).n16 mv16) (((hN5_9.below hM6.below).below hbel).n16 mv19) Hv50.out).mono ?_
    rintro e r ⟨xx, rfl, hNx, hBc⟩
    exact ⟨_, rfl, (symV hbel hsz rfl rfl (show 50 < 66 by decide) hBc hNx)⟩
  · intro A W hsz hoth hbel hdep
    have hN50 := (show NumT W (A.tmps.getD 50 undef) (v50) from (by have h := hdep ⟨30, .data⟩ (by simp) rfl; exact h))
    refine kCall1 17 _ _ _ rfl (wanted_of rfl rfl (by have h := hdep ⟨22, .guard⟩ (by simp) rfl; exact h)) (by kernel_rfl) (rfl : A.eval (Operand.tmp 50) = A.tmps.getD 50 undef) ?_
    refine (dWide_numT hN50).mono ?_
    rintro e r ⟨rfl, hBc⟩
    exact ⟨_, rfl, (symV hbel hsz rfl rfl (show 51 < 66 by decide) hBc rfl)⟩
  · intro A W hsz hoth hbel hdep
    exact kEqlW _ _ _ (v46) (v50) true rfl (wanted_of rfl rfl (by have h := hdep ⟨22, .guard⟩ (by simp) rfl; exact h)) (by have h := hdep ⟨26, .data⟩ (by simp) rfl; exact h) (by have h := hdep ⟨31, .data⟩ (by simp) rfl; exact h) (F52.out) (symV hbel hsz rfl rfl (show 52 < 66 by decide) (Below.refl _ _) rfl)
  · intro A W hsz hoth hbel hdep
    exact kPick _ _ _ true (.bool true) rfl rfl (by have h := hdep ⟨22, .data⟩ (by simp) rfl; exact h) (by have h := hdep ⟨32, .data⟩ (by simp) rfl; exact h) (symV hbel hsz rfl rfl (show 53 < 66 by decide) (Below.refl _ _) rfl)
  · intro A W hsz hoth hbel hdep
    exact kMoveV _ (.bool true) rfl rfl (by have h := hdep ⟨33, .data⟩ (by simp) rfl; exact h) (symV hbel hsz rfl rfl (show 54 < 66 by decide) (Below.refl _ _) rfl)
  · intro A W hsz hoth hbel hdep
    exact kMoveV _ (.pointer (some ⟨w3.heap.size, 0, none⟩)) rfl (wanted_of rfl rfl (by have h := hdep ⟨34, .guard⟩ (by simp) rfl; exact h)) ((hoth 7 (free2_of (by kernel_rfl))).trans rfl) (symV hbel hsz rfl rfl (show 55 < 66 by decide) (Below.refl _ _) rfl)
  · intro A W hsz hoth hbel hdep
    exact kLoadRow _ _ _ _ _ _ rfl (wanted_of rfl rfl (by have h := hdep ⟨34, .guard⟩ (by simp) rfl; exact h)) ((hoth 4 (free2_of (by kernel_rfl))).trans rfl) (((hM5.get 2 rfl).on hM6.below).on hbel) Tryd.underlying25 rfl (info_WideC _) (symV hbel hsz rfl rfl (show 56 < 66 by decide) (Below.refl _ _) rfl)
  · intro A W hsz hoth hbel hdep
    refine kCall2 27 _ _ _ _ _ rfl (wanted_of rfl rfl (by have h := hdep ⟨34, .chain⟩ (by simp) rfl; exact h)) (by kernel_rfl) (by have h := hdep ⟨35, .data⟩ (by simp) rfl; exact h) (by have h := hdep ⟨36, .data⟩ (by simp) rfl; exact h) ?_
    refine (fIn_as hm (w3.heap.size) ma F57.out W (((hM5.get 0 rfl).on hM6.below).on hbel)).mono ?_
    rintro e r ⟨rfl, hBc⟩
    exact ⟨_, rfl, (symV hbel hsz rfl rfl (show 57 < 66 by decide) hBc rfl)⟩
  · intro A W hsz hoth hbel hdep
    exact kLoadRow _ _ _ _ _ _ rfl (wanted_of rfl rfl (by have h := hdep ⟨34, .guard⟩ (by simp) rfl; exact h)) ((hoth 4 (free2_of (by kernel_rfl))).trans rfl) (((hM5.get 2 rfl).on hM6.below).on hbel) Tryd.underlying25 rfl (info_WideC _) (symV hbel hsz rfl rfl (show 58 < 66 by decide) (Below.refl _ _) rfl)
  · intro A W hsz hoth hbel hdep
    refine kCall1 29 _ _ _ rfl (wanted_of rfl rfl (by have h := hdep ⟨34, .guard⟩ (by simp) rfl; exact h)) (by kernel_rfl) (by have h := hdep ⟨38, .data⟩ (by simp) rfl; exact h) ?_
    refine (dOf_num a ma W).mono ?_
    rintro e r ⟨xx, rfl, hNx, hBc⟩
    exact ⟨_, rfl, (symV hbel hsz rfl rfl (show 59 < 66 by decide) hBc hNx)⟩
  · intro A W hsz hoth hbel hdep
    exact kMoveV _ (.bool true) rfl (wanted_of rfl rfl (by have h := hdep ⟨34, .guard⟩ (by simp) rfl; exact h)) ((hoth 0 (free2_of (by kernel_rfl))).trans rfl) (symV hbel hsz rfl rfl (show 60 < 66 by decide) (Below.refl _ _) rfl)
  · intro A W hsz hoth hbel hdep
    refine kCall1 18 _ _ _ rfl (wanted_of rfl rfl (by have h := hdep ⟨34, .guard⟩ (by simp) rfl; exact h)) (by kernel_rfl) (by have h := hdep ⟨40, .data⟩ (by simp) rfl; exact h) ?_
    refine (hP W).mono ?_
    rintro e r ⟨xx, rfl, hNx, hBc⟩
    exact ⟨_, rfl, (symV hbel hsz rfl rfl (show 61 < 66 by decide) hBc hNx)⟩
  · intro A W hsz hoth hbel hdep
    have hN59 := (show Num W (A.tmps.getD 59 undef) (a) 16 from (by have h := hdep ⟨39, .data⟩ (by simp) rfl; exact h))
    have hN61 := (show Num W (A.tmps.getD 61 undef) (m) 16 from (by have h := hdep ⟨41, .data⟩ (by simp) rfl; exact h))
    refine kCall2 28 _ _ _ _ _ rfl (wanted_of rfl rfl (by have h := hdep ⟨34, .guard⟩ (by simp) rfl; exact h)) (by kernel_rfl) (rfl : A.eval (Operand.tmp 59) = A.tmps.getD 59 undef) (rfl : A.eval (Operand.tmp 61) = A.tmps.getD 61 undef) ?_
    refine (dCompare_below hN59 hN61 (by decide) (by decide)).mono ?_
    rintro e r ⟨rfl, hBc⟩
    exact ⟨_, rfl, (symV hbel hsz rfl rfl (show 62 < 66 by decide) hBc rfl)⟩
  · intro A W hsz hoth hbel hdep
    exact kLssI _ _ _ _ .i64 (cmpI a m) (0) bb rfl (wanted_of rfl rfl (by have h := hdep ⟨34, .guard⟩ (by simp) rfl; exact h)) (by have h := hdep ⟨42, .data⟩ (by simp) rfl; exact h) rfl (F63.out) (symV hbel hsz rfl rfl (show 63 < 66 by decide) (Below.refl _ _) rfl)
  · intro A W hsz hoth hbel hdep
    exact kEqlBool _ _ _ _ bb bb true rfl (wanted_of rfl rfl (by have h := hdep ⟨34, .guard⟩ (by simp) rfl; exact h)) (by have h := hdep ⟨37, .data⟩ (by simp) rfl; exact h) (by have h := hdep ⟨43, .data⟩ (by simp) rfl; exact h) Tryd.underlying4 (by simp) (symV hbel hsz rfl rfl (show 64 < 66 by decide) (Below.refl _ _) rfl)
  · intro A W hsz hoth hbel hdep
    exact kPick _ _ _ true (.bool true) rfl rfl (by have h := hdep ⟨34, .data⟩ (by simp) rfl; exact h) (by have h := hdep ⟨44, .data⟩ (by simp) rfl; exact h) (symV hbel hsz rfl rfl (show 65 < 66 by decide) (Below.refl _ _) rfl)
  · intro A W hsz hoth hbel hdep
    exact kAssignV _ (.bool true) rfl rfl (by have h := hdep ⟨45, .data⟩ (by simp) rfl; exact h) (symV hbel hsz rfl rfl (show 6 < 66 by decide) (Below.refl _ _) rfl)
  intro w7 hB7
  dsimp only [AllV]
  intro x7_27 hN7_27
  intro x7_38 hN7_38
  intro x7_50 hN7_50
  intro x7_59 hN7_59
  intro x7_61 hN7_61
  dsimp only [putAll]
  go_frame
  have hM7 := hM6.on hB7
  clear hB7 hM6
  have hM8 := mm_nil w7
  go_wp2_with fail
  go_ret
  exact ⟨rfl, ((((hM5.below).trans (hM7.below.mono (hM5.below).size))).trans (hM8.below.mono (((hM5.below).trans (hM7.below.mono (hM5.below).size))).size))⟩
set_option maxRecDepth 100000 in
set_option maxHeartbeats 8000000 in
theorem FieldTells_false (a : Nat) (ma : a < M256) (b : Nat) (mb : b < M256) (w : World) (hG : Glob 0 PP w) (hN : Glob 1 NN w) :
    Calls Tryd.prog 4 #[.bool false, WV a, WV b] w fun e w' => e = .returned (.bool true) ∧ Below w.heap.size w w' := by
  obtain ⟨m, Hm⟩ : ∃ m, Hid (m = NN) := ⟨_, Lib.hid rfl⟩
  have hm : Modu m := by rw [Hm.out]; exact modu_N
  have hP : PrimeIs false m := by rw [Hm.out]; exact rPrime_false
  have hR : Glob 1 m w := by rw [Hm.out]; exact hN
  obtain ⟨v16, Hv16⟩ : ∃ n, Hid (a % m = n) := ⟨_, Lib.hid rfl⟩
  have mv16 : v16 < M256 := by rw [← Hv16.out]; exact hm.mod _
  obtain ⟨v19, Hv19⟩ : ∃ n, Hid (b % m = n) := ⟨_, Lib.hid rfl⟩
  have mv19 : v19 < M256 := by rw [← Hv19.out]; exact hm.mod _
  obtain ⟨v23, Hv23⟩ : ∃ n, Hid ((a + b) % m = n) := ⟨_, Lib.hid rfl⟩
  have mv23 : v23 < M256 := by rw [← Hv23.out]; exact hm.mod _
  obtain ⟨v27, Hv27⟩ : ∃ n, Hid ((v16 + v19) % m = n) := ⟨_, Lib.hid rfl⟩
  have mv27 : v27 < M256 := by rw [← Hv27.out]; exact hm.mod _
  obtain ⟨v34, Hv34⟩ : ∃ n, Hid ((a % m + m - b % m) % m = n) := ⟨_, Lib.hid rfl⟩
  have mv34 : v34 < M256 := by rw [← Hv34.out]; exact hm.mod _
  obtain ⟨v38, Hv38⟩ : ∃ n, Hid ((v16 + m - v19) % m = n) := ⟨_, Lib.hid rfl⟩
  have mv38 : v38 < M256 := by rw [← Hv38.out]; exact hm.mod _
  obtain ⟨v46, Hv46⟩ : ∃ n, Hid (a * b % m = n) := ⟨_, Lib.hid rfl⟩
  have mv46 : v46 < M256 := by rw [← Hv46.out]; exact hm.mod _
  obtain ⟨v50, Hv50⟩ : ∃ n, Hid (v16 * v19 % m = n) := ⟨_, Lib.hid rfl⟩
  have mv50 : v50 < M256 := by rw [← Hv50.out]; exact hm.mod _
  obtain ⟨bb, Hbb⟩ : ∃ bb, Hid (decide (a < m) = bb) := ⟨_, Lib.hid rfl⟩
  have F29 := Lib.hid (eqlW_yes (show v23 = v27 by rw [← Hv23.out, ← Hv27.out, ← Hv16.out, ← Hv19.out, ← Nat.add_mod]))
  have F40 := Lib.hid (eqlW_yes (show v34 = v38 by rw [← Hv34.out, ← Hv38.out, ← Hv16.out, ← Hv19.out]))
  have F52 := Lib.hid (eqlW_yes (show v46 = v50 by rw [← Hv46.out, ← Hv50.out, ← Hv16.out, ← Hv19.out, ← Nat.mul_mod]))
  have F57 := Lib.hid (show decide (a < m) = bb from Hbb.out)
  have F63 := Lib.hid (cmpI_less Hbb.out)
  have hM0 := mm_nil w
  (try unfold WV)
  go_enter Tryd.func4, Tryd.ntmps4
  go_wp2_with (first
    | ((with_reducible change wpList _ _ _ (Oper.mk (some 4) _ _ _ _ _ :: _) _ _); refine mmBox hM0 _ _ _ rfl rfl rfl ?_; intro w1 hM1; clear hM0; go_frame)
    | ((with_reducible change wpList _ _ _ (Oper.mk (some 5) _ _ _ _ _ :: _) _ _); refine mmBox hM1 _ _ _ rfl rfl rfl ?_; intro w2 hM2; clear hM1; go_frame)
    | (go_at_call 10; refine (fieldAlive_any _ (hG.below hM2.below)).mono ?_; rintro e w3 ⟨rfl, hB3⟩; have hM3 := hM2.on hB3; clear hB3 hM2; (try unfold WV); go_frame)
    | (go_at_call 19; (with_reducible change Calls _ _ #[Value.bool false] _ _); refine (ring_false m _ (hR.below hM3.below)).mono ?_; rintro e w4 ⟨rfl, hR4, hB4⟩; have hM4 := hM3.new hR4 hB4; clear hB4 hR4 hM3; go_frame))
  refine region_sym (fun _ => 0) [.val (.agg (wcells a)), .val (.bool false), .prop (fun w v => NumT w v (v16)) (fun _ _ _ hb h => h.below hb), .val (.agg (wcells b)), .val (.bool false), .prop (fun w v => NumT w v (v19)) (fun _ _ _ hb h => h.below hb), .prop (fun w v => NumT w v (v16)) (fun _ _ _ hb h => h.below hb), .prop (fun w v => NumT w v (v19)) (fun _ _ _ hb h => h.below hb)] [.val (.agg (wcells a)), .val (.bool false), .prop (fun w v => NumT w v (v16)) (fun _ _ _ hb h => h.below hb), .val (.agg (wcells b)), .val (.bool false), .prop (fun w v => NumT w v (v19)) (fun _ _ _ hb h => h.below hb), .prop (fun w v => NumT w v (v16)) (fun _ _ _ hb h => h.below hb), .prop (fun w v => NumT w v (v19)) (fun _ _ _ hb h => h.below hb)] (by kernel_rfl) (by kernel_rfl) rfl rfl (steps_all ⟨?_, ?_, ?_, ?_, ?_, ?_, ?_, ?_, trivial⟩) ?_
  · intro A W hsz hoth hbel hdep
    exact kLoadRow _ _ _ _ _ _ rfl rfl ((hoth 4 (free2_of (by kernel_rfl))).trans rfl) ((hM4.get 2 rfl).on hbel) Tryd.underlying25 rfl (info_WideC _) (symV hbel hsz rfl rfl (show 14 < 66 by decide) (Below.refl _ _) rfl)
  · intro A W hsz hoth hbel hdep
    exact kMoveV _ (.bool false) rfl rfl ((hoth 0 (free2_of (by kernel_rfl))).trans rfl) (symV hbel hsz rfl rfl (show 15 < 66 by decide) (Below.refl _ _) rfl)
  · intro A W hsz hoth hbel hdep
    refine kCall2 20 _ _ _ _ _ rfl rfl (by kernel_rfl) (by have h := hdep ⟨0, .data⟩ (by simp) rfl; exact h) (by have h := hdep ⟨1, .data⟩ (by simp) rfl; exact h) ?_
    refine (rOf_as hm hP ma Hv16.out W).mono ?_
    rintro e r ⟨xx, rfl, hNx, hBc⟩
    exact ⟨_, rfl, (symV hbel hsz rfl rfl (show 16 < 66 by decide) hBc hNx)⟩
  · intro A W hsz hoth hbel hdep
    exact kLoadRow _ _ _ _ _ _ rfl rfl ((hoth 5 (free2_of (by kernel_rfl))).trans rfl) ((hM4.get 1 rfl).on hbel) Tryd.underlying25 rfl (info_WideC _) (symV hbel hsz rfl rfl (show 17 < 66 by decide) (Below.refl _ _) rfl)
  · intro A W hsz hoth hbel hdep
    exact kMoveV _ (.bool false) rfl rfl ((hoth 0 (free2_of (by kernel_rfl))).trans rfl) (symV hbel hsz rfl rfl (show 18 < 66 by decide) (Below.refl _ _) rfl)
  · intro A W hsz hoth hbel hdep
    refine kCall2 20 _ _ _ _ _ rfl rfl (by kernel_rfl) (by have h := hdep ⟨3, .data⟩ (by simp) rfl; exact h) (by have h := hdep ⟨4, .data⟩ (by simp) rfl; exact h) ?_
    refine (rOf_as hm hP mb Hv19.out W).mono ?_
    rintro e r ⟨xx, rfl, hNx, hBc⟩
    exact ⟨_, rfl, (symV hbel hsz rfl rfl (show 19 < 66 by decide) hBc hNx)⟩
  · intro A W hsz hoth hbel hdep
    have hN := (by have h := hdep ⟨2, .data⟩ (by simp) rfl; exact h)
    exact kAssignV _ (A.tmps.getD 16 undef) rfl rfl rfl (symV hbel hsz rfl rfl (show 8 < 66 by decide) (Below.refl _ _) hN)
  · intro A W hsz hoth hbel hdep
    have hN := (by have h := hdep ⟨5, .data⟩ (by simp) rfl; exact h)
    exact kAssignV _ (A.tmps.getD 19 undef) rfl rfl rfl (symV hbel hsz rfl rfl (show 9 < 66 by decide) (Below.refl _ _) hN)
  intro w5 hB5
  dsimp only [AllV]
  intro x5_16 hN5_16
  intro x5_19 hN5_19
  intro x5_8 hN5_8
  intro x5_9 hN5_9
  dsimp only [putAll]
  go_frame
  have hM5 := hM4.on hB5
  clear hB5 hM4
  have hM6 := mm_nil w5
  go_wp2_with fail
  refine region_sym (fun _ => 0) [.val (.pointer (some ⟨w3.heap.size, 0, none⟩)), .val (.agg (wcells a)), .val (.agg (wcells b)), .val (.agg (wcells v23)), .val (x5_8), .val (x5_9), .val (.bool false), .prop (fun w v => NumT w v (v27)) (fun _ _ _ hb h => h.below hb), .val (.agg (wcells v27)), .val (.bool true), .val (.bool true), .val (.pointer (some ⟨w3.heap.size, 0, none⟩)), .val (.agg (wcells a)), .val (.agg (wcells b)), .val (.agg (wcells v34)), .val (x5_8), .val (x5_9), .val (.bool false), .prop (fun w v => NumT w v (v38)) (fun _ _ _ hb h => h.below hb), .val (.agg (wcells v38)), .val (.bool true), .val (.bool true), .val (.bool true), .val (.pointer (some ⟨w3.heap.size, 0, none⟩)), .val (.agg (wcells a)), .val (.agg (wcells b)), .val (.agg (wcells v46)), .val (x5_8), .val (x5_9), .val (.bool false), .prop (fun w v => NumT w v (v50)) (fun _ _ _ hb h => h.below hb), .val (.agg (wcells v50)), .val (.bool true), .val (.bool true), .val (.bool true), .val (.pointer (some ⟨w3.heap.size, 0, none⟩)), .val (.agg (wcells a)), .val (.bool bb), .val (.agg (wcells a)), .prop (fun w v => Num w v (a) 16) (fun _ _ _ hb h => h.below hb), .val (.bool false), .prop (fun w v => Num w v (m) 16) (fun _ _ _ hb h => h.below hb), .val (.int .i64 (cmpI a m)), .val (.bool bb), .val (.bool true), .val (.bool true), .val (.bool true)] [.val (.pointer (some ⟨w3.heap.size, 0, none⟩)), .val (.agg (wcells a)), .val (.agg (wcells b)), .val (.agg (wcells v23)), .val (x5_8), .val (x5_9), .val (.bool false), .prop (fun w v => NumT w v (v27)) (fun _ _ _ hb h => h.below hb), .val (.agg (wcells v27)), .val (.bool true), .val (.bool true), .val (.pointer (some ⟨w3.heap.size, 0, none⟩)), .val (.agg (wcells a)), .val (.agg (wcells b)), .val (.agg (wcells v34)), .val (x5_8), .val (x5_9), .val (.bool false), .prop (fun w v => NumT w v (v38)) (fun _ _ _ hb h => h.below hb), .val (.agg (wcells v38)), .val (.bool true), .val (.bool true), .val (.bool true), .val (.pointer (some ⟨w3.heap.size, 0, none⟩)), .val (.agg (wcells a)), .val (.agg (wcells b)), .val (.agg (wcells v46)), .val (x5_8), .val (x5_9), .val (.bool false), .prop (fun w v => NumT w v (v50)) (fun _ _ _ hb h => h.below hb), .val (.agg (wcells v50)), .val (.bool true), .val (.bool true), .val (.bool true), .val (.pointer (some ⟨w3.heap.size, 0, none⟩)), .val (.agg (wcells a)), .val (.bool bb), .val (.agg (wcells a)), .prop (fun w v => Num w v (a) 16) (fun _ _ _ hb h => h.below hb), .val (.bool false), .prop (fun w v => Num w v (m) 16) (fun _ _ _ hb h => h.below hb), .val (.int .i64 (cmpI a m)), .val (.bool bb), .val (.bool true), .val (.bool true), .val (.bool true)] (by kernel_rfl) (by kernel_rfl) rfl rfl (steps_all ⟨?_, ?_, ?_, ?_, ?_, ?_, ?_, ?_, ?_, ?_, ?_, ?_, ?_, ?_, ?_, ?_, ?_, ?_, ?_, ?_, ?_, ?_, ?_, ?_, ?_, ?_, ?_, ?_, ?_, ?_, ?_, ?_, ?_, ?_, ?_, ?_, ?_, ?_, ?_, ?_, ?_, ?_, ?_, ?_, ?_, ?_, ?_, trivial⟩) ?_
  · intro A W hsz hoth hbel hdep
    exact kMoveV _ (.pointer (some ⟨w3.heap.size, 0, none⟩)) rfl rfl ((hoth 7 (free2_of (by kernel_rfl))).trans rfl) (symV hbel hsz rfl rfl (show 20 < 66 by decide) (Below.refl _ _) rfl)
  · intro A W hsz hoth hbel hdep
    exact kLoadRow _ _ _ _ _ _ rfl rfl ((hoth 4 (free2_of (by kernel_rfl))).trans rfl) (((hM5.get 2 rfl).on hM6.below).on hbel) Tryd.underlying25 rfl (info_WideC _) (symV hbel hsz rfl rfl (show 21 < 66 by decide) (Below.refl _ _) rfl)
  · intro A W hsz hoth hbel hdep
    exact kLoadRow _ _ _ _ _ _ rfl rfl ((hoth 5 (free2_of (by kernel_rfl))).trans rfl) (((hM5.get 1 rfl).on hM6.below).on hbel) Tryd.underlying25 rfl (info_WideC _) (symV hbel hsz rfl rfl (show 22 < 66 by decide) (Below.refl _ _) rfl)
  · intro A W hsz hoth hbel hdep
    refine kCall3 21 _ _ _ _ _ _ _ rfl rfl (by kernel_rfl) (by have h := hdep ⟨0, .data⟩ (by simp) rfl; exact h) (by have h := hdep ⟨1, .data⟩ (by simp) rfl; exact h) (by have h := hdep ⟨2, .data⟩ (by simp) rfl; exact h) ?_
    refine (fAdd_as hm (w3.heap.size) ma mb Hv23.out.symm W (((hM5.get 0 rfl).on hM6.below).on hbel)).mono ?_
    rintro e r ⟨rfl, hBc⟩
    exact ⟨_, rfl, (symV hbel hsz rfl rfl (show 23 < 66 by decide) hBc rfl)⟩
  · intro A W hsz hoth hbel hdep
    exact kMoveV _ (x5_8) rfl rfl ((hoth 8 (free2_of (by kernel_rfl))).trans rfl) (symV hbel hsz rfl rfl (show 24 < 66 by decide) (Below.refl _ _) rfl)
  · intro A W hsz hoth hbel hdep
    exact kMoveV _ (x5_9) rfl rfl ((hoth 9 (free2_of (by kernel_rfl))).trans rfl) (symV hbel hsz rfl rfl (show 25 < 66 by decide) (Below.refl _ _) rfl)
  · intro A W hsz hoth hbel hdep
    exact kMoveV _ (.bool false) rfl rfl ((hoth 0 (free2_of (by kernel_rfl))).trans rfl) (symV hbel hsz rfl rfl (show 26 < 66 by decide) (Below.refl _ _) rfl)
  · intro A W hsz hoth hbel hdep
    refine kCall3 22 _ _ _ _ _ _ _ rfl rfl (by kernel_rfl) (by have h := hdep ⟨4, .data⟩ (by simp) rfl; exact h) (by have h := hdep ⟨5, .data⟩ (by simp) rfl; exact h) (by have h := hdep ⟨6, .data⟩ (by simp) rfl; exact h) ?_
    refine (rAdd_as hm hP (((hN5_8.below hM6.below).below hbel).n16 mv16) (((hN5_9.below hM6.below).below hbel).n16 mv19) Hv27.out).mono ?_
    rintro e r ⟨xx, rfl, hNx, hBc⟩
    exact ⟨_, rfl, (symV hbel hsz rfl rfl (show 27 < 66 by decide) hBc hNx)⟩
  · intro A W hsz hoth hbel hdep
    have hN27 := (show NumT W (A.tmps.getD 27 undef) (v27) from (by have h := hdep ⟨7, .data⟩ (by simp) rfl; exact h))
    refine kCall1 17 _ _ _ rfl rfl (by kernel_rfl) (rfl : A.eval (Operand.tmp 27) = A.tmps.getD 27 undef) ?_
    refine (dWide_numT hN27).mono ?_
    rintro e r ⟨rfl, hBc⟩
    exact ⟨_, rfl, (symV hbel hsz rfl rfl (show 28 < 66 by decide) hBc rfl)⟩
  · intro A W hsz hoth hbel hdep
    exact kEqlW _ _ _ (v23) (v27) true rfl rfl (by have h := hdep ⟨3, .data⟩ (by simp) rfl; exact h) (by have h := hdep ⟨8, .data⟩ (by simp) rfl; exact h) (F29.out) (symV hbel hsz rfl rfl (show 29 < 66 by decide) (Below.refl _ _) rfl)
  · intro A W hsz hoth hbel hdep
    exact kMoveV _ (.bool true) rfl rfl (by have h := hdep ⟨9, .data⟩ (by simp) rfl; exact h) (symV hbel hsz rfl rfl (show 30 < 66 by decide) (Below.refl _ _) rfl)
  · intro A W hsz hoth hbel hdep
    exact kMoveV _ (.pointer (some ⟨w3.heap.size, 0, none⟩)) rfl (wanted_of rfl rfl (by have h := hdep ⟨10, .guard⟩ (by simp) rfl; exact h)) ((hoth 7 (free2_of (by kernel_rfl))).trans rfl) (symV hbel hsz rfl rfl (show 31 < 66 by decide) (Below.refl _ _) rfl)
  · intro A W hsz hoth hbel hdep
    exact kLoadRow _ _ _ _ _ _ rfl (wanted_of rfl rfl (by have h := hdep ⟨10, .guard⟩ (by simp) rfl; exact h)) ((hoth 4 (free2_of (by kernel_rfl))).trans rfl) (((hM5.get 2 rfl).on hM6.below).on hbel) Tryd.underlying25 rfl (info_WideC _) (symV hbel hsz rfl rfl (show 32 < 66 by decide) (Below.refl _ _) rfl)
  · intro A W hsz hoth hbel hdep
    exact kLoadRow _ _ _ _ _ _ rfl (wanted_of rfl rfl (by have h := hdep ⟨10, .guard⟩ (by simp) rfl; exact h)) ((hoth 5 (free2_of (by kernel_rfl))).trans rfl) (((hM5.get 1 rfl).on hM6.below).on hbel) Tryd.underlying25 rfl (info_WideC _) (symV hbel hsz rfl rfl (show 33 < 66 by decide) (Below.refl _ _) rfl)
  · intro A W hsz hoth hbel hdep
    refine kCall3 23 _ _ _ _ _ _ _ rfl (wanted_of rfl rfl (by have h := hdep ⟨10, .chain⟩ (by simp) rfl; exact h)) (by kernel_rfl) (by have h := hdep ⟨11, .data⟩ (by simp) rfl; exact h) (by have h := hdep ⟨12, .data⟩ (by simp) rfl; exact h) (by have h := hdep ⟨13, .data⟩ (by simp) rfl; exact h) ?_
    refine (fSub_as hm (w3.heap.size) ma mb Hv34.out W (((hM5.get 0 rfl).on hM6.below).on hbel)).mono ?_
    rintro e r ⟨rfl, hBc⟩
    exact ⟨_, rfl, (symV hbel hsz rfl rfl (show 34 < 66 by decide) hBc rfl)⟩
  · intro A W hsz hoth hbel hdep
    exact kMoveV _ (x5_8) rfl (wanted_of rfl rfl (by have h := hdep ⟨10, .guard⟩ (by simp) rfl; exact h)) ((hoth 8 (free2_of (by kernel_rfl))).trans rfl) (symV hbel hsz rfl rfl (show 35 < 66 by decide) (Below.refl _ _) rfl)
  · intro A W hsz hoth hbel hdep
    exact kMoveV _ (x5_9) rfl (wanted_of rfl rfl (by have h := hdep ⟨10, .guard⟩ (by simp) rfl; exact h)) ((hoth 9 (free2_of (by kernel_rfl))).trans rfl) (symV hbel hsz rfl rfl (show 36 < 66 by decide) (Below.refl _ _) rfl)
  · intro A W hsz hoth hbel hdep
    exact kMoveV _ (.bool false) rfl (wanted_of rfl rfl (by have h := hdep ⟨10, .guard⟩ (by simp) rfl; exact h)) ((hoth 0 (free2_of (by kernel_rfl))).trans rfl) (symV hbel hsz rfl rfl (show 37 < 66 by decide) (Below.refl _ _) rfl)
  · intro A W hsz hoth hbel hdep
    refine kCall3 24 _ _ _ _ _ _ _ rfl (wanted_of rfl rfl (by have h := hdep ⟨10, .guard⟩ (by simp) rfl; exact h)) (by kernel_rfl) (by have h := hdep ⟨15, .data⟩ (by simp) rfl; exact h) (by have h := hdep ⟨16, .data⟩ (by simp) rfl; exact h) (by have h := hdep ⟨17, .data⟩ (by simp) rfl; exact h) ?_
    refine (rSub_as hm hP (((hN5_8.below hM6.below).below hbel).n16 mv16) (((hN5_9.below hM6.below).below hbel).n16 mv19) (by rw [← Hv19.out]; exact Nat.mod_lt _ hm.pos) Hv38.out).mono ?_
    rintro e r ⟨xx, rfl, hNx, hBc⟩
    exact ⟨_, rfl, (symV hbel hsz rfl rfl (show 38 < 66 by decide) hBc hNx)⟩
  · intro A W hsz hoth hbel hdep
    have hN38 := (show NumT W (A.tmps.getD 38 undef) (v38) from (by have h := hdep ⟨18, .data⟩ (by simp) rfl; exact h))
    refine kCall1 17 _ _ _ rfl (wanted_of rfl rfl (by have h := hdep ⟨10, .guard⟩ (by simp) rfl; exact h)) (by kernel_rfl) (rfl : A.eval (Operand.tmp 38) = A.tmps.getD 38 undef) ?_
    refine (dWide_numT hN38).mono ?_
    rintro e r ⟨rfl, hBc⟩
    exact ⟨_, rfl, (symV hbel hsz rfl rfl (show 39 < 66 by decide) hBc rfl)⟩
  · intro A W hsz hoth hbel hdep
    exact kEqlW _ _ _ (v34) (v38) true rfl (wanted_of rfl rfl (by have h := hdep ⟨10, .guard⟩ (by simp) rfl; exact h)) (by have h := hdep ⟨14, .data⟩ (by simp) rfl; exact h) (by have h := hdep ⟨19, .data⟩ (by simp) rfl; exact h) (F40.out) (symV hbel hsz rfl rfl (show 40 < 66 by decide) (Below.refl _ _) rfl)
  · intro A W hsz hoth hbel hdep
    exact kPick _ _ _ true (.bool true) rfl rfl (by have h := hdep ⟨10, .data⟩ (by simp) rfl; exact h) (by have h := hdep ⟨20, .data⟩ (by simp) rfl; exact h) (symV hbel hsz rfl rfl (show 41 < 66 by decide) (Below.refl _ _) rfl)
  · intro A W hsz hoth hbel hdep
    exact kMoveV _ (.bool true) rfl rfl (by have h := hdep ⟨21, .data⟩ (by simp) rfl; exact h) (symV hbel hsz rfl rfl (show 42 < 66 by decide) (Below.refl _ _) rfl)
  · intro A W hsz hoth hbel hdep
    exact kMoveV _ (.pointer (some ⟨w3.heap.size, 0, none⟩)) rfl (wanted_of rfl rfl (by have h := hdep ⟨22, .guard⟩ (by simp) rfl; exact h)) ((hoth 7 (free2_of (by kernel_rfl))).trans rfl) (symV hbel hsz rfl rfl (show 43 < 66 by decide) (Below.refl _ _) rfl)
  · intro A W hsz hoth hbel hdep
    exact kLoadRow _ _ _ _ _ _ rfl (wanted_of rfl rfl (by have h := hdep ⟨22, .guard⟩ (by simp) rfl; exact h)) ((hoth 4 (free2_of (by kernel_rfl))).trans rfl) (((hM5.get 2 rfl).on hM6.below).on hbel) Tryd.underlying25 rfl (info_WideC _) (symV hbel hsz rfl rfl (show 44 < 66 by decide) (Below.refl _ _) rfl)
  · intro A W hsz hoth hbel hdep
    exact kLoadRow _ _ _ _ _ _ rfl (wanted_of rfl rfl (by have h := hdep ⟨22, .guard⟩ (by simp) rfl; exact h)) ((hoth 5 (free2_of (by kernel_rfl))).trans rfl) (((hM5.get 1 rfl).on hM6.below).on hbel) Tryd.underlying25 rfl (info_WideC _) (symV hbel hsz rfl rfl (show 45 < 66 by decide) (Below.refl _ _) rfl)
  · intro A W hsz hoth hbel hdep
    refine kCall3 25 _ _ _ _ _ _ _ rfl (wanted_of rfl rfl (by have h := hdep ⟨22, .chain⟩ (by simp) rfl; exact h)) (by kernel_rfl) (by have h := hdep ⟨23, .data⟩ (by simp) rfl; exact h) (by have h := hdep ⟨24, .data⟩ (by simp) rfl; exact h) (by have h := hdep ⟨25, .data⟩ (by simp) rfl; exact h) ?_
    refine (fMul_as hm (w3.heap.size) ma mb Hv46.out W (((hM5.get 0 rfl).on hM6.below).on hbel)).mono ?_
    rintro e r ⟨rfl, hBc⟩
    exact ⟨_, rfl, (symV hbel hsz rfl rfl (show 46 < 66 by decide) hBc rfl)⟩
  · intro A W hsz hoth hbel hdep
    exact kMoveV _ (x5_8) rfl (wanted_of rfl rfl (by have h := hdep ⟨22, .guard⟩ (by simp) rfl; exact h)) ((hoth 8 (free2_of (by kernel_rfl))).trans rfl) (symV hbel hsz rfl rfl (show 47 < 66 by decide) (Below.refl _ _) rfl)
  · intro A W hsz hoth hbel hdep
    exact kMoveV _ (x5_9) rfl (wanted_of rfl rfl (by have h := hdep ⟨22, .guard⟩ (by simp) rfl; exact h)) ((hoth 9 (free2_of (by kernel_rfl))).trans rfl) (symV hbel hsz rfl rfl (show 48 < 66 by decide) (Below.refl _ _) rfl)
  · intro A W hsz hoth hbel hdep
    exact kMoveV _ (.bool false) rfl (wanted_of rfl rfl (by have h := hdep ⟨22, .guard⟩ (by simp) rfl; exact h)) ((hoth 0 (free2_of (by kernel_rfl))).trans rfl) (symV hbel hsz rfl rfl (show 49 < 66 by decide) (Below.refl _ _) rfl)
  · intro A W hsz hoth hbel hdep
    refine kCall3 26 _ _ _ _ _ _ _ rfl (wanted_of rfl rfl (by have h := hdep ⟨22, .guard⟩ (by simp) rfl; exact h)) (by kernel_rfl) (by have h := hdep ⟨27, .data⟩ (by simp) rfl; exact h) (by have h := hdep ⟨28, .data⟩ (by simp) rfl; exact h) (by have h := hdep ⟨29, .data⟩ (by simp) rfl; exact h) ?_
    refine (rMul_as hm hP (((hN5_8.below hM6.below).below hbel).n16 mv16) (((hN5_9.below hM6.below).below hbel).n16 mv19) Hv50.out).mono ?_
    rintro e r ⟨xx, rfl, hNx, hBc⟩
    exact ⟨_, rfl, (symV hbel hsz rfl rfl (show 50 < 66 by decide) hBc hNx)⟩
  · intro A W hsz hoth hbel hdep
    have hN50 := (show NumT W (A.tmps.getD 50 undef) (v50) from (by have h := hdep ⟨30, .data⟩ (by simp) rfl; exact h))
    refine kCall1 17 _ _ _ rfl (wanted_of rfl rfl (by have h := hdep ⟨22, .guard⟩ (by simp) rfl; exact h)) (by kernel_rfl) (rfl : A.eval (Operand.tmp 50) = A.tmps.getD 50 undef) ?_
    refine (dWide_numT hN50).mono ?_
    rintro e r ⟨rfl, hBc⟩
    exact ⟨_, rfl, (symV hbel hsz rfl rfl (show 51 < 66 by decide) hBc rfl)⟩
  · intro A W hsz hoth hbel hdep
    exact kEqlW _ _ _ (v46) (v50) true rfl (wanted_of rfl rfl (by have h := hdep ⟨22, .guard⟩ (by simp) rfl; exact h)) (by have h := hdep ⟨26, .data⟩ (by simp) rfl; exact h) (by have h := hdep ⟨31, .data⟩ (by simp) rfl; exact h) (F52.out) (symV hbel hsz rfl rfl (show 52 < 66 by decide) (Below.refl _ _) rfl)
  · intro A W hsz hoth hbel hdep
    exact kPick _ _ _ true (.bool true) rfl rfl (by have h := hdep ⟨22, .data⟩ (by simp) rfl; exact h) (by have h := hdep ⟨32, .data⟩ (by simp) rfl; exact h) (symV hbel hsz rfl rfl (show 53 < 66 by decide) (Below.refl _ _) rfl)
  · intro A W hsz hoth hbel hdep
    exact kMoveV _ (.bool true) rfl rfl (by have h := hdep ⟨33, .data⟩ (by simp) rfl; exact h) (symV hbel hsz rfl rfl (show 54 < 66 by decide) (Below.refl _ _) rfl)
  · intro A W hsz hoth hbel hdep
    exact kMoveV _ (.pointer (some ⟨w3.heap.size, 0, none⟩)) rfl (wanted_of rfl rfl (by have h := hdep ⟨34, .guard⟩ (by simp) rfl; exact h)) ((hoth 7 (free2_of (by kernel_rfl))).trans rfl) (symV hbel hsz rfl rfl (show 55 < 66 by decide) (Below.refl _ _) rfl)
  · intro A W hsz hoth hbel hdep
    exact kLoadRow _ _ _ _ _ _ rfl (wanted_of rfl rfl (by have h := hdep ⟨34, .guard⟩ (by simp) rfl; exact h)) ((hoth 4 (free2_of (by kernel_rfl))).trans rfl) (((hM5.get 2 rfl).on hM6.below).on hbel) Tryd.underlying25 rfl (info_WideC _) (symV hbel hsz rfl rfl (show 56 < 66 by decide) (Below.refl _ _) rfl)
  · intro A W hsz hoth hbel hdep
    refine kCall2 27 _ _ _ _ _ rfl (wanted_of rfl rfl (by have h := hdep ⟨34, .chain⟩ (by simp) rfl; exact h)) (by kernel_rfl) (by have h := hdep ⟨35, .data⟩ (by simp) rfl; exact h) (by have h := hdep ⟨36, .data⟩ (by simp) rfl; exact h) ?_
    refine (fIn_as hm (w3.heap.size) ma F57.out W (((hM5.get 0 rfl).on hM6.below).on hbel)).mono ?_
    rintro e r ⟨rfl, hBc⟩
    exact ⟨_, rfl, (symV hbel hsz rfl rfl (show 57 < 66 by decide) hBc rfl)⟩
  · intro A W hsz hoth hbel hdep
    exact kLoadRow _ _ _ _ _ _ rfl (wanted_of rfl rfl (by have h := hdep ⟨34, .guard⟩ (by simp) rfl; exact h)) ((hoth 4 (free2_of (by kernel_rfl))).trans rfl) (((hM5.get 2 rfl).on hM6.below).on hbel) Tryd.underlying25 rfl (info_WideC _) (symV hbel hsz rfl rfl (show 58 < 66 by decide) (Below.refl _ _) rfl)
  · intro A W hsz hoth hbel hdep
    refine kCall1 29 _ _ _ rfl (wanted_of rfl rfl (by have h := hdep ⟨34, .guard⟩ (by simp) rfl; exact h)) (by kernel_rfl) (by have h := hdep ⟨38, .data⟩ (by simp) rfl; exact h) ?_
    refine (dOf_num a ma W).mono ?_
    rintro e r ⟨xx, rfl, hNx, hBc⟩
    exact ⟨_, rfl, (symV hbel hsz rfl rfl (show 59 < 66 by decide) hBc hNx)⟩
  · intro A W hsz hoth hbel hdep
    exact kMoveV _ (.bool false) rfl (wanted_of rfl rfl (by have h := hdep ⟨34, .guard⟩ (by simp) rfl; exact h)) ((hoth 0 (free2_of (by kernel_rfl))).trans rfl) (symV hbel hsz rfl rfl (show 60 < 66 by decide) (Below.refl _ _) rfl)
  · intro A W hsz hoth hbel hdep
    refine kCall1 18 _ _ _ rfl (wanted_of rfl rfl (by have h := hdep ⟨34, .guard⟩ (by simp) rfl; exact h)) (by kernel_rfl) (by have h := hdep ⟨40, .data⟩ (by simp) rfl; exact h) ?_
    refine (hP W).mono ?_
    rintro e r ⟨xx, rfl, hNx, hBc⟩
    exact ⟨_, rfl, (symV hbel hsz rfl rfl (show 61 < 66 by decide) hBc hNx)⟩
  · intro A W hsz hoth hbel hdep
    have hN59 := (show Num W (A.tmps.getD 59 undef) (a) 16 from (by have h := hdep ⟨39, .data⟩ (by simp) rfl; exact h))
    have hN61 := (show Num W (A.tmps.getD 61 undef) (m) 16 from (by have h := hdep ⟨41, .data⟩ (by simp) rfl; exact h))
    refine kCall2 28 _ _ _ _ _ rfl (wanted_of rfl rfl (by have h := hdep ⟨34, .guard⟩ (by simp) rfl; exact h)) (by kernel_rfl) (rfl : A.eval (Operand.tmp 59) = A.tmps.getD 59 undef) (rfl : A.eval (Operand.tmp 61) = A.tmps.getD 61 undef) ?_
    refine (dCompare_below hN59 hN61 (by decide) (by decide)).mono ?_
    rintro e r ⟨rfl, hBc⟩
    exact ⟨_, rfl, (symV hbel hsz rfl rfl (show 62 < 66 by decide) hBc rfl)⟩
  · intro A W hsz hoth hbel hdep
    exact kLssI _ _ _ _ .i64 (cmpI a m) (0) bb rfl (wanted_of rfl rfl (by have h := hdep ⟨34, .guard⟩ (by simp) rfl; exact h)) (by have h := hdep ⟨42, .data⟩ (by simp) rfl; exact h) rfl (F63.out) (symV hbel hsz rfl rfl (show 63 < 66 by decide) (Below.refl _ _) rfl)
  · intro A W hsz hoth hbel hdep
    exact kEqlBool _ _ _ _ bb bb true rfl (wanted_of rfl rfl (by have h := hdep ⟨34, .guard⟩ (by simp) rfl; exact h)) (by have h := hdep ⟨37, .data⟩ (by simp) rfl; exact h) (by have h := hdep ⟨43, .data⟩ (by simp) rfl; exact h) Tryd.underlying4 (by simp) (symV hbel hsz rfl rfl (show 64 < 66 by decide) (Below.refl _ _) rfl)
  · intro A W hsz hoth hbel hdep
    exact kPick _ _ _ true (.bool true) rfl rfl (by have h := hdep ⟨34, .data⟩ (by simp) rfl; exact h) (by have h := hdep ⟨44, .data⟩ (by simp) rfl; exact h) (symV hbel hsz rfl rfl (show 65 < 66 by decide) (Below.refl _ _) rfl)
  · intro A W hsz hoth hbel hdep
    exact kAssignV _ (.bool true) rfl rfl (by have h := hdep ⟨45, .data⟩ (by simp) rfl; exact h) (symV hbel hsz rfl rfl (show 6 < 66 by decide) (Below.refl _ _) rfl)
  intro w7 hB7
  dsimp only [AllV]
  intro x7_27 hN7_27
  intro x7_38 hN7_38
  intro x7_50 hN7_50
  intro x7_59 hN7_59
  intro x7_61 hN7_61
  dsimp only [putAll]
  go_frame
  have hM7 := hM6.on hB7
  clear hB7 hM6
  have hM8 := mm_nil w7
  go_wp2_with fail
  go_ret
  exact ⟨rfl, ((((hM5.below).trans (hM7.below.mono (hM5.below).size))).trans (hM8.below.mono (((hM5.below).trans (hM7.below.mono (hM5.below).size))).size))⟩
end Go.Proofs.YtajpdmcbdekpbaaDoor
