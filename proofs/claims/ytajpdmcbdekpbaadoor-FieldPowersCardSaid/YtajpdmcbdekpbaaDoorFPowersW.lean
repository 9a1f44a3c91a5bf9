/-
  The walk of the statement FieldPowers.
-/
import Derived.Test.YtajpdmcbdekpbaaDoorFRef4
namespace Go.Proofs.YtajpdmcbdekpbaaDoor
open Go Go.RowKit

theorem len_ne {l : List Nat} {n : Nat} (h : dval l = n) (hn : n ≠ 0) : decide ((l.length : Int) = 0) = false := by
  cases l with
  | nil => exact absurd h.symm hn
  | cons x l => exact decide_eq_false (by simp; omega)
set_option maxRecDepth 100000 in
set_option maxHeartbeats 8000000 in
theorem FieldPowers_true (a : Nat) (ma : a < M256) (k : Nat) (mk : k < M256) (w : World) (hG : Glob 0 PP w) :
    Calls Tryd.prog 6 #[.bool true, WV a, WV k] w fun e w' => e = .returned (.bool true) ∧ Below w.heap.size w w' := by
  obtain ⟨m, Hm⟩ : ∃ m, Hid (m = PP) := ⟨_, Lib.hid rfl⟩
  have hm : Modu m := by rw [Hm.out]; exact modu_P
  have hP : PrimeIs true m := by rw [Hm.out]; exact rPrime_true
  have hR : Glob 0 m w := by rw [Hm.out]; exact hG
  by_cases hz : a % m = 0
  · replace hz := Lib.hid hz
    obtain ⟨v17, Hv17⟩ : ∃ n, Hid (a % m = n) := ⟨_, Lib.hid rfl⟩
    have mv17 : v17 < M256 := by rw [← Hv17.out]; exact hm.mod _
    have hM0 := mm_nil w
    (try unfold WV)
    go_enter Tryd.func6, Tryd.ntmps6
    go_wp2_with (first
      | ((with_reducible change wpList _ _ _ (Oper.mk (some 4) _ _ _ _ _ :: _) _ _); refine mmBox hM0 _ _ _ rfl rfl rfl ?_; intro w1 hM1; clear hM0; go_frame)
      | ((with_reducible change wpList _ _ _ (Oper.mk (some 5) _ _ _ _ _ :: _) _ _); refine mmBox hM1 _ _ _ rfl rfl rfl ?_; intro w2 hM2; clear hM1; go_frame)
      | (go_at_call 10; refine (fieldAlive_any _ (hG.below hM2.below)).mono ?_; rintro e w3 ⟨rfl, hB3⟩; have hM3 := hM2.on hB3; clear hB3 hM2; (try unfold WV); go_frame)
      | (go_at_call 19; (with_reducible change Calls _ _ #[Value.bool true] _ _); refine (ring_true m _ (hR.below hM3.below)).mono ?_; rintro e w4 ⟨rfl, hR4, hB4⟩; have hM4 := hM3.new hR4 hB4; clear hB4 hR4 hM3; go_frame)
      | ((with_reducible change wpList _ _ _ (Oper.mk (some 15) _ _ _ _ _ :: _) _ _); refine kLoadRow _ _ _ _ _ _ rfl rfl rfl (hM4.get 2 rfl) Tryd.underlying25 rfl (info_WideC _) ?_; go_frame)
      | (go_at_call 20; (with_reducible change Calls _ _ #[Value.agg (wcells a), Value.bool true] _ _); refine (rOf_as hm hP ma Hv17.out _).mono ?_; rintro e w5 ⟨x5, rfl, hN5, hB5⟩; have hM5 := hM4.on hB5; clear hB5 hM4; have hM6 := mm_nil w5; go_frame)
      | ((with_reducible change wpList _ _ _ (Oper.mk (some 20) _ _ _ _ _ :: _) _ _); refine kLoadRow _ _ _ _ _ _ rfl rfl rfl ((hM5.get 2 rfl).on hM6.below) Tryd.underlying25 rfl (info_WideC _) ?_; go_frame)
      | (go_at_call 12; (with_reducible change Calls _ _ #[Value.pointer (some ⟨w3.heap.size, 0, none⟩), Value.agg (wcells a)] _ _); refine (fInv_zero hm a (w3.heap.size) ma hz.out _ ((hM5.get 0 rfl).on hM6.below)).mono ?_; rintro e w7 ⟨rfl, hB7⟩; have hM7 := hM6.on hB7; clear hB7 hM6; (try unfold WV); go_frame)
      | ((with_reducible change wpList _ _ _ (Oper.mk (some 9) _ _ _ _ _ :: _) _ _); refine mmAlloc hM7 _ _ rfl rfl zero_Wide ?_; intro w8 hM8; clear hM7; go_frame)
      | ((with_reducible change wpList _ _ _ (Oper.mk none (Op.store _ (Operand.tmp 9) (Operand.tmp 22)) _ _ _ _ :: _) _ _); refine mmStoreAt hM8 0 _ _ _ _ _ _ (wcells 0) rfl rfl rfl rfl rfl (info_WideC _) (by simp only [wcells_size]) (wcells_one _) ?_; intro w9 hM9; dsimp only [List.set] at hM9; clear hM8; go_frame)
      | ((with_reducible change wpList _ _ _ (Oper.mk (some 25) _ _ _ _ _ :: _) _ _); obtain ⟨lx, dlx, hvx, hnx, htx⟩ := (hN5.below hM9.below); rw [← Hv17.out, hz.out] at hnx; obtain rfl := tr_zero htx hnx; refine kLenN _ _ _ _ _ 0 rfl rfl rfl hvx rfl Tryd.underlying35 ?_; clear dlx hvx hnx htx; go_frame)
      | ((with_reducible change wpList _ _ _ (Oper.mk (some 26) _ _ _ _ _ :: _) _ _); refine kEqlI _ _ _ _ .i64 _ _ true rfl rfl rfl rfl (by decide) ?_; go_frame)
      | ((with_reducible change wpList _ _ _ (Oper.mk (some 28) _ _ _ _ _ :: _) _ _); refine kEqlI _ _ _ _ .i64 (31) (31) true rfl rfl rfl rfl (by decide) ?_; go_frame)
      | ((with_reducible change wpList _ _ _ (Oper.mk (some 30) _ _ _ _ _ :: _) _ _); refine kLoadRow _ _ _ _ _ _ rfl rfl rfl (hM9.get 0 rfl) Tryd.underlying25 rfl (info_WideC _) ?_; go_frame)
      | ((with_reducible change wpList _ _ _ (Oper.mk (some 31) _ _ _ _ _ :: _) _ _); refine kBuildW0 rfl rfl ?_; go_frame)
      | ((with_reducible change wpList _ _ _ (Oper.mk (some 32) _ _ _ _ _ :: _) _ _); refine kEqlW _ _ _ (0) (0) true rfl rfl rfl rfl (by simp) ?_; go_frame))
    go_ret
    exact ⟨rfl, ((hM5.below).trans (hM9.below.mono (hM5.below).size))⟩
  · replace hz := Lib.hid hz
    obtain ⟨v17, Hv17⟩ : ∃ n, Hid (a % m = n) := ⟨_, Lib.hid rfl⟩
    have mv17 : v17 < M256 := by rw [← Hv17.out]; exact hm.mod _
    obtain ⟨v21, Hv21⟩ : ∃ n, Hid (a ^ (m - 2) % m = n) := ⟨_, Lib.hid rfl⟩
    have mv21 : v21 < M256 := by rw [← Hv21.out]; exact hm.mod _
    obtain ⟨v37, Hv37⟩ : ∃ n, Hid (a ^ k % m = n) := ⟨_, Lib.hid rfl⟩
    have mv37 : v37 < M256 := by rw [← Hv37.out]; exact hm.mod _
    obtain ⟨v42, Hv42⟩ : ∃ n, Hid (v17 ^ k % m = n) := ⟨_, Lib.hid rfl⟩
    have mv42 : v42 < M256 := by rw [← Hv42.out]; exact hm.mod _
    obtain ⟨v53, Hv53⟩ : ∃ n, Hid (v17 ^ (m - 2) % m = n) := ⟨_, Lib.hid rfl⟩
    have mv53 : v53 < M256 := by rw [← Hv53.out]; exact hm.mod _
    have F44 := Lib.hid (eqlW_yes (show v37 = v42 by rw [← Hv37.out, ← Hv42.out, ← Hv17.out, ← Nat.pow_mod]))
    have F55 := Lib.hid (eqlW_yes (show v21 = v53 by rw [← Hv21.out, ← Hv53.out, ← Hv17.out, ← Nat.pow_mod]))
    have hM0 := mm_nil w
    (try unfold WV)
    go_enter Tryd.func6, Tryd.ntmps6
    go_wp2_with (first
      | ((with_reducible change wpList _ _ _ (Oper.mk (some 4) _ _ _ _ _ :: _) _ _); refine mmBox hM0 _ _ _ rfl rfl rfl ?_; intro w1 hM1; clear hM0; go_frame)
      | ((with_reducible change wpList _ _ _ (Oper.mk (some 5) _ _ _ _ _ :: _) _ _); refine mmBox hM1 _ _ _ rfl rfl rfl ?_; intro w2 hM2; clear hM1; go_frame)
      | (go_at_call 10; refine (fieldAlive_any _ (hG.below hM2.below)).mono ?_; rintro e w3 ⟨rfl, hB3⟩; have hM3 := hM2.on hB3; clear hB3 hM2; (try unfold WV); go_frame)
      | (go_at_call 19; (with_reducible change Calls _ _ #[Value.bool true] _ _); refine (ring_true m _ (hR.below hM3.below)).mono ?_; rintro e w4 ⟨rfl, hR4, hB4⟩; have hM4 := hM3.new hR4 hB4; clear hB4 hR4 hM3; go_frame)
      | ((with_reducible change wpList _ _ _ (Oper.mk (some 15) _ _ _ _ _ :: _) _ _); refine kLoadRow _ _ _ _ _ _ rfl rfl rfl (hM4.get 2 rfl) Tryd.underlying25 rfl (info_WideC _) ?_; go_frame)
      | (go_at_call 20; (with_reducible change Calls _ _ #[Value.agg (wcells a), Value.bool true] _ _); refine (rOf_as hm hP ma Hv17.out _).mono ?_; rintro e w5 ⟨x5, rfl, hN5, hB5⟩; have hM5 := hM4.on hB5; clear hB5 hM4; have hM6 := mm_nil w5; go_frame)
      | ((with_reducible change wpList _ _ _ (Oper.mk (some 20) _ _ _ _ _ :: _) _ _); refine kLoadRow _ _ _ _ _ _ rfl rfl rfl ((hM5.get 2 rfl).on hM6.below) Tryd.underlying25 rfl (info_WideC _) ?_; go_frame)
      | (go_at_call 12; (with_reducible change Calls _ _ #[Value.pointer (some ⟨w3.heap.size, 0, none⟩), Value.agg (wcells a)] _ _); refine (fInv_as hm (w3.heap.size) ma hz.out Hv21.out _ ((hM5.get 0 rfl).on hM6.below)).mono ?_; rintro e w7 ⟨rfl, hB7⟩; have hM7 := hM6.on hB7; clear hB7 hM6; (try unfold WV); go_frame)
      | ((with_reducible change wpList _ _ _ (Oper.mk (some 9) _ _ _ _ _ :: _) _ _); refine mmAlloc hM7 _ _ rfl rfl zero_Wide ?_; intro w8 hM8; clear hM7; go_frame)
      | ((with_reducible change wpList _ _ _ (Oper.mk none (Op.store _ (Operand.tmp 9) (Operand.tmp 22)) _ _ _ _ :: _) _ _); refine mmStoreAt hM8 0 _ _ _ _ _ _ (wcells v21) rfl rfl rfl rfl rfl (info_WideC _) (by simp only [wcells_size]) (wcells_one _) ?_; intro w9 hM9; dsimp only [List.set] at hM9; clear hM8; go_frame)
      | ((with_reducible change wpList _ _ _ (Oper.mk (some 25) _ _ _ _ _ :: _) _ _); obtain ⟨lx, dlx, hvx, hnx, htx⟩ := (hN5.below hM9.below); have hlx := Lib.hid (len_ne hnx (show v17 ≠ 0 by rw [← Hv17.out]; exact hz.out)); refine kLenN _ _ _ _ _ lx.length rfl rfl rfl hvx (by simp) Tryd.underlying35 ?_; clear dlx hvx hnx htx; go_frame)
      | ((with_reducible change wpList _ _ _ (Oper.mk (some 26) _ _ _ _ _ :: _) _ _); refine kEqlI _ _ _ _ .i64 _ _ false rfl rfl rfl rfl hlx.out ?_; go_frame))
    refine region_sym (fun _ => 0) [.val (.pointer (some ⟨w3.heap.size, 0, none⟩)), .val (.agg (wcells a)), .val (.agg (wcells k)), .val (.agg (wcells v37)), .val (x5), .val (.agg (wcells k)), .prop (fun w v => Num w v (k) 16) (fun _ _ _ hb h => h.below hb), .val (.bool true), .prop (fun w v => NumT w v (v42)) (fun _ _ _ hb h => h.below hb), .val (.agg (wcells v42)), .val (.bool true), .val (.bool true), .val (.int .i64 (0)), .val (.bool true), .val (.bool true), .val (.bool true), .val (.agg (wcells v21)), .val (x5), .val (.bool true), .prop (fun w v => NumT w v (v53)) (fun _ _ _ hb h => h.below hb), .val (.agg (wcells v53)), .val (.bool true), .val (.bool true), .val (.bool true)] [.val (.pointer (some ⟨w3.heap.size, 0, none⟩)), .val (.agg (wcells a)), .val (.agg (wcells k)), .val (.agg (wcells v37)), .val (x5), .val (.agg (wcells k)), .prop (fun w v => Num w v (k) 16) (fun _ _ _ hb h => h.below hb), .val (.bool true), .prop (fun w v => NumT w v (v42)) (fun _ _ _ hb h => h.below hb), .val (.agg (wcells v42)), .val (.bool true), .val (.bool true), .val (.int .i64 (0)), .val (.bool true), .val (.bool true), .val (.bool true), .val (.agg (wcells v21)), .val (x5), .val (.bool true), .prop (fun w v => NumT w v (v53)) (fun _ _ _ hb h => h.below hb), .val (.agg (wcells v53)), .val (.bool true), .val (.bool true), .val (.bool true)] (by kernel_rfl) (by kernel_rfl) rfl rfl (steps_all ⟨?_, ?_, ?_, ?_, ?_, ?_, ?_, ?_, ?_, ?_, ?_, ?_, ?_, ?_, ?_, ?_, ?_, ?_, ?_, ?_, ?_, ?_, ?_, ?_, trivial⟩) ?_
    · intro A W hsz hoth hbel hdep
      exact kMoveV _ (.pointer (some ⟨w3.heap.size, 0, none⟩)) rfl rfl ((hoth 7 (free2_of (by kernel_rfl))).trans rfl) (symV hbel hsz rfl rfl (show 34 < 57 by decide) (Below.refl _ _) rfl)
    · intro A W hsz hoth hbel hdep
      exact kLoadRow _ _ _ _ _ _ rfl rfl ((hoth 4 (free2_of (by kernel_rfl))).trans rfl) (((hM5.get 2 rfl).on hM9.below).on hbel) Tryd.underlying25 rfl (info_WideC _) (symV hbel hsz rfl rfl (show 35 < 57 by decide) (Below.refl _ _) rfl)
    · intro A W hsz hoth hbel hdep
      exact kLoadRow _ _ _ _ _ _ rfl rfl ((hoth 5 (free2_of (by kernel_rfl))).trans rfl) (((hM5.get 1 rfl).on hM9.below).on hbel) Tryd.underlying25 rfl (info_WideC _) (symV hbel hsz rfl rfl (show 36 < 57 by decide) (Below.refl _ _) rfl)
    · intro A W hsz hoth hbel hdep
      refine kCall3 32 _ _ _ _ _ _ _ rfl rfl (by kernel_rfl) (by have h := hdep ⟨0, .data⟩ (by simp) rfl; exact h) (by have h := hdep ⟨1, .data⟩ (by simp) rfl; exact h) (by have h := hdep ⟨2, .data⟩ (by simp) rfl; exact h) ?_
      refine (fPow_as hm (w3.heap.size) ma mk Hv37.out W (((hM5.get 0 rfl).on hM9.below).on hbel)).mono ?_
      rintro e r ⟨rfl, hBc⟩
      exact ⟨_, rfl, (symV hbel hsz rfl rfl (show 37 < 57 by decide) hBc rfl)⟩
    · intro A W hsz hoth hbel hdep
      exact kMoveV _ (x5) rfl rfl ((hoth 8 (free2_of (by kernel_rfl))).trans rfl) (symV hbel hsz rfl rfl (show 38 < 57 by decide) (Below.refl _ _) rfl)
    · intro A W hsz hoth hbel hdep
      exact kLoadRow _ _ _ _ _ _ rfl rfl ((hoth 5 (free2_of (by kernel_rfl))).trans rfl) (((hM5.get 1 rfl).on hM9.below).on hbel) Tryd.underlying25 rfl (info_WideC _) (symV hbel hsz rfl rfl (show 39 < 57 by decide) (Below.refl _ _) rfl)
    · intro A W hsz hoth hbel hdep
      refine kCall1 29 _ _ _ rfl rfl (by kernel_rfl) (by have h := hdep ⟨5, .data⟩ (by simp) rfl; exact h) ?_
      refine (dOf_num k mk W).mono ?_
      rintro e r ⟨xx, rfl, hNx, hBc⟩
      exact ⟨_, rfl, (symV hbel hsz rfl rfl (show 40 < 57 by decide) hBc hNx)⟩
    · intro A W hsz hoth hbel hdep
      exact kMoveV _ (.bool true) rfl rfl ((hoth 0 (free2_of (by kernel_rfl))).trans rfl) (symV hbel hsz rfl rfl (show 41 < 57 by decide) (Below.refl _ _) rfl)
    · intro A W hsz hoth hbel hdep
      have hN40 := (show Num W (A.tmps.getD 40 undef) (k) 16 from (by have h := hdep ⟨6, .data⟩ (by simp) rfl; exact h))
      refine kCall3 33 _ _ _ _ _ _ _ rfl rfl (by kernel_rfl) (by have h := hdep ⟨4, .data⟩ (by simp) rfl; exact h) (rfl : A.eval (Operand.tmp 40) = A.tmps.getD 40 undef) (by have h := hdep ⟨7, .data⟩ (by simp) rfl; exact h) ?_
      refine (rPow_as hm hP (((hN5.below hM9.below).below hbel).n16 mv17) hN40 Hv42.out).mono ?_
      rintro e r ⟨xx, rfl, hNx, hBc⟩
      exact ⟨_, rfl, (symV hbel hsz rfl rfl (show 42 < 57 by decide) hBc hNx)⟩
    · intro A W hsz hoth hbel hdep
      have hN42 := (show NumT W (A.tmps.getD 42 undef) (v42) from (by have h := hdep ⟨8, .data⟩ (by simp) rfl; exact h))
      refine kCall1 17 _ _ _ rfl rfl (by kernel_rfl) (rfl : A.eval (Operand.tmp 42) = A.tmps.getD 42 undef) ?_
      refine (dWide_numT hN42).mono ?_
      rintro e r ⟨rfl, hBc⟩
      exact ⟨_, rfl, (symV hbel hsz rfl rfl (show 43 < 57 by decide) hBc rfl)⟩
    · intro A W hsz hoth hbel hdep
      exact kEqlW _ _ _ (v37) (v42) true rfl rfl (by have h := hdep ⟨3, .data⟩ (by simp) rfl; exact h) (by have h := hdep ⟨9, .data⟩ (by simp) rfl; exact h) (F44.out) (symV hbel hsz rfl rfl (show 44 < 57 by decide) (Below.refl _ _) rfl)
    · intro A W hsz hoth hbel hdep
      exact kMoveV _ (.bool true) rfl rfl (by have h := hdep ⟨10, .data⟩ (by simp) rfl; exact h) (symV hbel hsz rfl rfl (show 45 < 57 by decide) (Below.refl _ _) rfl)
    · intro A W hsz hoth hbel hdep
      exact kMoveV _ (.int .i64 (0)) rfl (wanted_of rfl rfl (by have h := hdep ⟨11, .guard⟩ (by simp) rfl; exact h)) ((hoth 10 (free2_of (by kernel_rfl))).trans rfl) (symV hbel hsz rfl rfl (show 46 < 57 by decide) (Below.refl _ _) rfl)
    · intro A W hsz hoth hbel hdep
      exact kEqlI _ _ _ _ .i64 (0) (0) true rfl (wanted_of rfl rfl (by have h := hdep ⟨11, .guard⟩ (by simp) rfl; exact h)) (by have h := hdep ⟨12, .data⟩ (by simp) rfl; exact h) rfl (by decide) (symV hbel hsz rfl rfl (show 47 < 57 by decide) (Below.refl _ _) rfl)
    · intro A W hsz hoth hbel hdep
      exact kPick _ _ _ true (.bool true) rfl rfl (by have h := hdep ⟨11, .data⟩ (by simp) rfl; exact h) (by have h := hdep ⟨13, .data⟩ (by simp) rfl; exact h) (symV hbel hsz rfl rfl (show 48 < 57 by decide) (Below.refl _ _) rfl)
    · intro A W hsz hoth hbel hdep
      exact kMoveV _ (.bool true) rfl rfl (by have h := hdep ⟨14, .data⟩ (by simp) rfl; exact h) (symV hbel hsz rfl rfl (show 49 < 57 by decide) (Below.refl _ _) rfl)
    · intro A W hsz hoth hbel hdep
      exact kLoadRow _ _ _ _ _ _ rfl (wanted_of rfl rfl (by have h := hdep ⟨15, .guard⟩ (by simp) rfl; exact h)) ((hoth 9 (free2_of (by kernel_rfl))).trans rfl) ((hM9.get 0 rfl).on hbel) Tryd.underlying25 rfl (info_WideC _) (symV hbel hsz rfl rfl (show 50 < 57 by decide) (Below.refl _ _) rfl)
    · intro A W hsz hoth hbel hdep
      exact kMoveV _ (x5) rfl (wanted_of rfl rfl (by have h := hdep ⟨15, .guard⟩ (by simp) rfl; exact h)) ((hoth 8 (free2_of (by kernel_rfl))).trans rfl) (symV hbel hsz rfl rfl (show 51 < 57 by decide) (Below.refl _ _) rfl)
    · intro A W hsz hoth hbel hdep
      exact kMoveV _ (.bool true) rfl (wanted_of rfl rfl (by have h := hdep ⟨15, .guard⟩ (by simp) rfl; exact h)) ((hoth 0 (free2_of (by kernel_rfl))).trans rfl) (symV hbel hsz rfl rfl (show 52 < 57 by decide) (Below.refl _ _) rfl)
    · intro A W hsz hoth hbel hdep
      refine kCall2 34 _ _ _ _ _ rfl (wanted_of rfl rfl (by have h := hdep ⟨15, .chain⟩ (by simp) rfl; exact h)) (by kernel_rfl) (by have h := hdep ⟨17, .data⟩ (by simp) rfl; exact h) (by have h := hdep ⟨18, .data⟩ (by simp) rfl; exact h) ?_
      refine (rInv_as hm hP (((hN5.below hM9.below).below hbel).n16 mv17) Hv53.out).mono ?_
      rintro e r ⟨xx, rfl, hNx, hBc⟩
      exact ⟨_, rfl, (symV hbel hsz rfl rfl (show 53 < 57 by decide) hBc hNx)⟩
    · intro A W hsz hoth hbel hdep
      have hN53 := (show NumT W (A.tmps.getD 53 undef) (v53) from (by have h := hdep ⟨19, .data⟩ (by simp) rfl; exact h))
      refine kCall1 17 _ _ _ rfl (wanted_of rfl rfl (by have h := hdep ⟨15, .guard⟩ (by simp) rfl; exact h)) (by kernel_rfl) (rfl : A.eval (Operand.tmp 53) = A.tmps.getD 53 undef) ?_
      refine (dWide_numT hN53).mono ?_
      rintro e r ⟨rfl, hBc⟩
      exact ⟨_, rfl, (symV hbel hsz rfl rfl (show 54 < 57 by decide) hBc rfl)⟩
    · intro A W hsz hoth hbel hdep
      exact kEqlW _ _ _ (v21) (v53) true rfl (wanted_of rfl rfl (by have h := hdep ⟨15, .guard⟩ (by simp) rfl; exact h)) (by have h := hdep ⟨16, .data⟩ (by simp) rfl; exact h) (by have h := hdep ⟨20, .data⟩ (by simp) rfl; exact h) (F55.out) (symV hbel hsz rfl rfl (show 55 < 57 by decide) (Below.refl _ _) rfl)
    · intro A W hsz hoth hbel hdep
      exact kPick _ _ _ true (.bool true) rfl rfl (by have h := hdep ⟨15, .data⟩ (by simp) rfl; exact h) (by have h := hdep ⟨21, .data⟩ (by simp) rfl; exact h) (symV hbel hsz rfl rfl (show 56 < 57 by decide) (Below.refl _ _) rfl)
    · intro A W hsz hoth hbel hdep
      exact kAssignV _ (.bool true) rfl rfl (by have h := hdep ⟨22, .data⟩ (by simp) rfl; exact h) (symV hbel hsz rfl rfl (show 6 < 57 by decide) (Below.refl _ _) rfl)
    intro w10 hB10
    dsimp only [AllV]
    intro x10_40 hN10_40
    intro x10_42 hN10_42
    intro x10_53 hN10_53
    dsimp only [putAll]
    go_frame
    have hM10 := hM9.on hB10
    clear hB10 hM9
    have hM11 := mm_nil w10
    go_wp2_with fail
    go_ret
    exact ⟨rfl, ((((hM5.below).trans (hM10.below.mono (hM5.below).size))).trans (hM11.below.mono (((hM5.below).trans (hM10.below.mono (hM5.below).size))).size))⟩
set_option maxRecDepth 100000 in
set_option maxHeartbeats 8000000 in
theorem FieldPowers_false (a : Nat) (ma : a < M256) (k : Nat) (mk : k < M256) (w : World) (hG : Glob 0 PP w) (hN : Glob 1 NN w) :
    Calls Tryd.prog 6 #[.bool false, WV a, WV k] w fun e w' => e = .returned (.bool true) ∧ Below w.heap.size w w' := by
  obtain ⟨m, Hm⟩ : ∃ m, Hid (m = NN) := ⟨_, Lib.hid rfl⟩
  have hm : Modu m := by rw [Hm.out]; exact modu_N
  have hP : PrimeIs false m := by rw [Hm.out]; exact rPrime_false
  have hR : Glob 1 m w := by rw [Hm.out]; exact hN
  by_cases hz : a % m = 0
  · replace hz := Lib.hid hz
    obtain ⟨v17, Hv17⟩ : ∃ n, Hid (a % m = n) := ⟨_, Lib.hid rfl⟩
    have mv17 : v17 < M256 := by rw [← Hv17.out]; exact hm.mod _
    have hM0 := mm_nil w
    (try unfold WV)
    go_enter Tryd.func6, Tryd.ntmps6
    go_wp2_with (first
      | ((with_reducible change wpList _ _ _ (Oper.mk (some 4) _ _ _ _ _ :: _) _ _); refine mmBox hM0 _ _ _ rfl rfl rfl ?_; intro w1 hM1; clear hM0; go_frame)
      | ((with_reducible change wpList _ _ _ (Oper.mk (some 5) _ _ _ _ _ :: _) _ _); refine mmBox hM1 _ _ _ rfl rfl rfl ?_; intro w2 hM2; clear hM1; go_frame)
      | (go_at_call 10; refine (fieldAlive_any _ (hG.below hM2.below)).mono ?_; rintro e w3 ⟨rfl, hB3⟩; have hM3 := hM2.on hB3; clear hB3 hM2; (try unfold WV); go_frame)
      | (go_at_call 19; (with_reducible change Calls _ _ #[Value.bool false] _ _); refine (ring_false m _ (hR.below hM3.below)).mono ?_; rintro e w4 ⟨rfl, hR4, hB4⟩; have hM4 := hM3.new hR4 hB4; clear hB4 hR4 hM3; go_frame)
      | ((with_reducible change wpList _ _ _ (Oper.mk (some 15) _ _ _ _ _ :: _) _ _); refine kLoadRow _ _ _ _ _ _ rfl rfl rfl (hM4.get 2 rfl) Tryd.underlying25 rfl (info_WideC _) ?_; go_frame)
      | (go_at_call 20; (with_reducible change Calls _ _ #[Value.agg (wcells a), Value.bool false] _ _); refine (rOf_as hm hP ma Hv17.out _).mono ?_; rintro e w5 ⟨x5, rfl, hN5, hB5⟩; have hM5 := hM4.on hB5; clear hB5 hM4; have hM6 := mm_nil w5; go_frame)
      | ((with_reducible change wpList _ _ _ (Oper.mk (some 20) _ _ _ _ _ :: _) _ _); refine kLoadRow _ _ _ _ _ _ rfl rfl rfl ((hM5.get 2 rfl).on hM6.below) Tryd.underlying25 rfl (info_WideC _) ?_; go_frame)
      | (go_at_call 12; (with_reducible change Calls _ _ #[Value.pointer (some ⟨w3.heap.size, 0, none⟩), Value.agg (wcells a)] _ _); refine (fInv_zero hm a (w3.heap.size) ma hz.out _ ((hM5.get 0 rfl).on hM6.below)).mono ?_; rintro e w7 ⟨rfl, hB7⟩; have hM7 := hM6.on hB7; clear hB7 hM6; (try unfold WV); go_frame)
      | ((with_reducible change wpList _ _ _ (Oper.mk (some 9) _ _ _ _ _ :: _) _ _); refine mmAlloc hM7 _ _ rfl rfl zero_Wide ?_; intro w8 hM8; clear hM7; go_frame)
      | ((with_reducible change wpList _ _ _ (Oper.mk none (Op.store _ (Operand.tmp 9) (Operand.tmp 22)) _ _ _ _ :: _) _ _); refine mmStoreAt hM8 0 _ _ _ _ _ _ (wcells 0) rfl rfl rfl rfl rfl (info_WideC _) (by simp only [wcells_size]) (wcells_one _) ?_; intro w9 hM9; dsimp only [List.set] at hM9; clear hM8; go_frame)
      | ((with_reducible change wpList _ _ _ (Oper.mk (some 25) _ _ _ _ _ :: _) _ _); obtain ⟨lx, dlx, hvx, hnx, htx⟩ := (hN5.below hM9.below); rw [← Hv17.out, hz.out] at hnx; obtain rfl := tr_zero htx hnx; refine kLenN _ _ _ _ _ 0 rfl rfl rfl hvx rfl Tryd.underlying35 ?_; clear dlx hvx hnx htx; go_frame)
      | ((with_reducible change wpList _ _ _ (Oper.mk (some 26) _ _ _ _ _ :: _) _ _); refine kEqlI _ _ _ _ .i64 _ _ true rfl rfl rfl rfl (by decide) ?_; go_frame)
      | ((with_reducible change wpList _ _ _ (Oper.mk (some 28) _ _ _ _ _ :: _) _ _); refine kEqlI _ _ _ _ .i64 (31) (31) true rfl rfl rfl rfl (by decide) ?_; go_frame)
      | ((with_reducible change wpList _ _ _ (Oper.mk (some 30) _ _ _ _ _ :: _) _ _); refine kLoadRow _ _ _ _ _ _ rfl rfl rfl (hM9.get 0 rfl) Tryd.underlying25 rfl (info_WideC _) ?_; go_frame)
      | ((with_reducible change wpList _ _ _ (Oper.mk (some 31) _ _ _ _ _ :: _) _ _); refine kBuildW0 rfl rfl ?_; go_frame)
      | ((with_reducible change wpList _ _ _ (Oper.mk (some 32) _ _ _ _ _ :: _) _ _); refine kEqlW _ _ _ (0) (0) true rfl rfl rfl rfl (by simp) ?_; go_frame))
    go_ret
    exact ⟨rfl, ((hM5.below).trans (hM9.below.mono (hM5.below).size))⟩
  · replace hz := Lib.hid hz
    obtain ⟨v17, Hv17⟩ : ∃ n, Hid (a % m = n) := ⟨_, Lib.hid rfl⟩
    have mv17 : v17 < M256 := by rw [← Hv17.out]; exact hm.mod _
    obtain ⟨v21, Hv21⟩ : ∃ n, Hid (a ^ (m - 2) % m = n) := ⟨_, Lib.hid rfl⟩
    have mv21 : v21 < M256 := by rw [← Hv21.out]; exact hm.mod _
    obtain ⟨v37, Hv37⟩ : ∃ n, Hid (a ^ k % m = n) := ⟨_, Lib.hid rfl⟩
    have mv37 : v37 < M256 := by rw [← Hv37.out]; exact hm.mod _
    obtain ⟨v42, Hv42⟩ : ∃ n, Hid (v17 ^ k % m = n) := ⟨_, Lib.hid rfl⟩
    have mv42 : v42 < M256 := by rw [← Hv42.out]; exact hm.mod _
    obtain ⟨v53, Hv53⟩ : ∃ n, Hid (v17 ^ (m - 2) % m = n) := ⟨_, Lib.hid rfl⟩
    have mv53 : v53 < M256 := by rw [← Hv53.out]; exact hm.mod _
    have F44 := Lib.hid (eqlW_yes (show v37 = v42 by rw [← Hv37.out, ← Hv42.out, ← Hv17.out, ← Nat.pow_mod]))
    have F55 := Lib.hid (eqlW_yes (show v21 = v53 by rw [← Hv21.out, ← Hv53.out, ← Hv17.out, ← Nat.pow_mod]))
    have hM0 := mm_nil w
    (try unfold WV)
    go_enter Tryd.func6, Tryd.ntmps6
    go_wp2_with (first
      | ((with_reducible change wpList _ _ _ (Oper.mk (some 4) _ _ _ _ _ :: _) _ _); refine mmBox hM0 _ _ _ rfl rfl rfl ?_; intro w1 hM1; clear hM0; go_frame)
      | ((with_reducible change wpList _ _ _ (Oper.mk (some 5) _ _ _ _ _ :: _) _ _); refine mmBox hM1 _ _ _ rfl rfl rfl ?_; intro w2 hM2; clear hM1; go_frame)
      | (go_at_call 10; refine (fieldAlive_any _ (hG.below hM2.below)).mono ?_; rintro e w3 ⟨rfl, hB3⟩; have hM3 := hM2.on hB3; clear hB3 hM2; (try unfold WV); go_frame)
      | (go_at_call 19; (with_reducible change Calls _ _ #[Value.bool false] _ _); refine (ring_false m _ (hR.below hM3.below)).mono ?_; rintro e w4 ⟨rfl, hR4, hB4⟩; have hM4 := hM3.new hR4 hB4; clear hB4 hR4 hM3; go_frame)
      | ((with_reducible change wpList _ _ _ (Oper.mk (some 15) _ _ _ _ _ :: _) _ _); refine kLoadRow _ _ _ _ _ _ rfl rfl rfl (hM4.get 2 rfl) Tryd.underlying25 rfl (info_WideC _) ?_; go_frame)
      | (go_at_call 20; (with_reducible change Calls _ _ #[Value.agg (wcells a), Value.bool false] _ _); refine (rOf_as hm hP ma Hv17.out _).mono ?_; rintro e w5 ⟨x5, rfl, hN5, hB5⟩; have hM5 := hM4.on hB5; clear hB5 hM4; have hM6 := mm_nil w5; go_frame)
      | ((with_reducible change wpList _ _ _ (Oper.mk (some 20) _ _ _ _ _ :: _) _ _); refine kLoadRow _ _ _ _ _ _ rfl rfl rfl ((hM5.get 2 rfl).on hM6.below) Tryd.underlying25 rfl (info_WideC _) ?_; go_frame)
      | (go_at_call 12; (with_reducible change Calls _ _ #[Value.pointer (some ⟨w3.heap.size, 0, none⟩), Value.agg (wcells a)] _ _); refine (fInv_as hm (w3.heap.size) ma hz.out Hv21.out _ ((hM5.get 0 rfl).on hM6.below)).mono ?_; rintro e w7 ⟨rfl, hB7⟩; have hM7 := hM6.on hB7; clear hB7 hM6; (try unfold WV); go_frame)
      | ((with_reducible change wpList _ _ _ (Oper.mk (some 9) _ _ _ _ _ :: _) _ _); refine mmAlloc hM7 _ _ rfl rfl zero_Wide ?_; intro w8 hM8; clear hM7; go_frame)
      | ((with_reducible change wpList _ _ _ (Oper.mk none (Op.store _ (Operand.tmp 9) (Operand.tmp 22)) _ _ _ _ :: _) _ _); refine mmStoreAt hM8 0 _ _ _ _ _ _ (wcells v21) rfl rfl rfl rfl rfl (info_WideC _) (by simp only [wcells_size]) (wcells_one _) ?_; intro w9 hM9; dsimp only [List.set] at hM9; clear hM8; go_frame)
      | ((with_reducible change wpList _ _ _ (Oper.mk (some 25) _ _ _ _ _ :: _) _ _); obtain ⟨lx, dlx, hvx, hnx, htx⟩ := (hN5.below hM9.below); have hlx := Lib.hid (len_ne hnx (show v17 ≠ 0 by rw [← Hv17.out]; exact hz.out)); refine kLenN _ _ _ _ _ lx.length rfl rfl rfl hvx (by simp) Tryd.underlying35 ?_; clear dlx hvx hnx htx; go_frame)
      | ((with_reducible change wpList _ _ _ (Oper.mk (some 26) _ _ _ _ _ :: _) _ _); refine kEqlI _ _ _ _ .i64 _ _ false rfl rfl rfl rfl hlx.out ?_; go_frame))
    refine region_sym (fun _ => 0) [.val (.pointer (some ⟨w3.heap.size, 0, none⟩)), .val (.agg (wcells a)), .val (.agg (wcells k)), .val (.agg (wcells v37)), .val (x5), .val (.agg (wcells k)), .prop (fun w v => Num w v (k) 16) (fun _ _ _ hb h => h.below hb), .val (.bool false), .prop (fun w v => NumT w v (v42)) (fun _ _ _ hb h => h.below hb), .val (.agg (wcells v42)), .val (.bool true), .val (.bool true), .val (.int .i64 (0)), .val (.bool true), .val (.bool true), .val (.bool true), .val (.agg (wcells v21)), .val (x5), .val (.bool false), .prop (fun w v => NumT w v (v53)) (fun _ _ _ hb h => h.below hb), .val (.agg (wcells v53)), .val (.bool true), .val (.bool true), .val (.bool true)] [.val (.pointer (some ⟨w3.heap.size, 0, none⟩)), .val (.agg (wcells a)), .val (.agg (wcells k)), .val (.agg (wcells v37)), .val (x5), .val (.agg (wcells k)), .prop (fun w v => Num w v (k) 16) (fun _ _ _ hb h => h.below hb), .val (.bool false), .prop (fun w v => NumT w v (v42)) (fun _ _ _ hb h => h.below hb), .val (.agg (wcells v42)), .val (.bool true), .val (.bool true), .val (.int .i64 (0)), .val (.bool true), .val (.bool true), .val (.bool true), .val (.agg (wcells v21)), .val (x5), .val (.bool false), .prop (fun w v => NumT w v (v53)) (fun _ _ _ hb h => h.below hb), .val (.agg (wcells v53)), .val (.bool true), .val (.bool true), .val (.bool true)] (by kernel_rfl) (by kernel_rfl) rfl rfl (steps_all ⟨?_, ?_, ?_, ?_, ?_, ?_, ?_, ?_, ?_, ?_, ?_, ?_, ?_, ?_, ?_, ?_, ?_, ?_, ?_, ?_, ?_, ?_, ?_, ?_, trivial⟩) ?_
    · intro A W hsz hoth hbel hdep
      exact kMoveV _ (.pointer (some ⟨w3.heap.size, 0, none⟩)) rfl rfl ((hoth 7 (free2_of (by kernel_rfl))).trans rfl) (symV hbel hsz rfl rfl (show 34 < 57 by decide) (Below.refl _ _) rfl)
    · intro A W hsz hoth hbel hdep
      exact kLoadRow _ _ _ _ _ _ rfl rfl ((hoth 4 (free2_of (by kernel_rfl))).trans rfl) (((hM5.get 2 rfl).on hM9.below).on hbel) Tryd.underlying25 rfl (info_WideC _) (symV hbel hsz rfl rfl (show 35 < 57 by decide) (Below.refl _ _) rfl)
    · intro A W hsz hoth hbel hdep
      exact kLoadRow _ _ _ _ _ _ rfl rfl ((hoth 5 (free2_of (by kernel_rfl))).trans rfl) (((hM5.get 1 rfl).on hM9.below).on hbel) Tryd.underlying25 rfl (info_WideC _) (symV hbel hsz rfl rfl (show 36 < 57 by decide) (Below.refl _ _) rfl)
    · intro A W hsz hoth hbel hdep
      refine kCall3 32 _ _ _ _ _ _ _ rfl rfl (by kernel_rfl) (by have h := hdep ⟨0, .data⟩ (by simp) rfl; exact h) (by have h := hdep ⟨1, .data⟩ (by simp) rfl; exact h) (by have h := hdep ⟨2, .data⟩ (by simp) rfl; exact h) ?_
      refine (fPow_as hm (w3.heap.size) ma mk Hv37.out W (((hM5.get 0 rfl).on hM9.below).on hbel)).mono ?_
      rintro e r ⟨rfl, hBc⟩
      exact ⟨_, rfl, (symV hbel hsz rfl rfl (show 37 < 57 by decide) hBc rfl)⟩
    · intro A W hsz hoth hbel hdep
      exact kMoveV _ (x5) rfl rfl ((hoth 8 (free2_of (by kernel_rfl))).trans rfl) (symV hbel hsz rfl rfl (show 38 < 57 by decide) (Below.refl _ _) rfl)
    · intro A W hsz hoth hbel hdep
      exact kLoadRow _ _ _ _ _ _ rfl rfl ((hoth 5 (free2_of (by kernel_rfl))).trans rfl) (((hM5.get 1 rfl).on hM9.below).on hbel) Tryd.underlying25 rfl (info_WideC _) (symV hbel hsz rfl rfl (show 39 < 57 by decide) (Below.refl _ _) rfl)
    · intro A W hsz hoth hbel hdep
      refine kCall1 29 _ _ _ rfl rfl (by kernel_rfl) (by have h := hdep ⟨5, .data⟩ (by simp) rfl; exact h) ?_
      refine (dOf_num k mk W).mono ?_
      rintro e r ⟨xx, rfl, hNx, hBc⟩
      exact ⟨_, rfl, (symV hbel hsz rfl rfl (show 40 < 57 by decide) hBc hNx)⟩
    · intro A W hsz hoth hbel hdep
      exact kMoveV _ (.bool false) rfl rfl ((hoth 0 (free2_of (by kernel_rfl))).trans rfl) (symV hbel hsz rfl rfl (show 41 < 57 by decide) (Below.refl _ _) rfl)
    · intro A W hsz hoth hbel hdep
      have hN40 := (show Num W (A.tmps.getD 40 undef) (k) 16 from (by have h := hdep ⟨6, .data⟩ (by simp) rfl; exact h))
      refine kCall3 33 _ _ _ _ _ _ _ rfl rfl (by kernel_rfl) (by have h := hdep ⟨4, .data⟩ (by simp) rfl; exact h) (rfl : A.eval (Operand.tmp 40) = A.tmps.getD 40 undef) (by have h := hdep ⟨7, .data⟩ (by simp) rfl; exact h) ?_
      refine (rPow_as hm hP (((hN5.below hM9.below).below hbel).n16 mv17) hN40 Hv42.out).mono ?_
      rintro e r ⟨xx, rfl, hNx, hBc⟩
      exact ⟨_, rfl, (symV hbel hsz rfl rfl (show 42 < 57 by decide) hBc hNx)⟩
    · intro A W hsz hoth hbel hdep
      have hN42 := (show NumT W (A.tmps.getD 42 undef) (v42) from (by have h := hdep ⟨8, .data⟩ (by simp) rfl; exact h))
      refine kCall1 17 _ _ _ rfl rfl (by kernel_rfl) (rfl : A.eval (Operand.tmp 42) = A.tmps.getD 42 undef) ?_
      refine (dWide_numT hN42).mono ?_
      rintro e r ⟨rfl, hBc⟩
      exact ⟨_, rfl, (symV hbel hsz rfl rfl (show 43 < 57 by decide) hBc rfl)⟩
    · intro A W hsz hoth hbel hdep
      exact kEqlW _ _ _ (v37) (v42) true rfl rfl (by have h := hdep ⟨3, .data⟩ (by simp) rfl; exact h) (by have h := hdep ⟨9, .data⟩ (by simp) rfl; exact h) (F44.out) (symV hbel hsz rfl rfl (show 44 < 57 by decide) (Below.refl _ _) rfl)
    · intro A W hsz hoth hbel hdep
      exact kMoveV _ (.bool true) rfl rfl (by have h := hdep ⟨10, .data⟩ (by simp) rfl; exact h) (symV hbel hsz rfl rfl (show 45 < 57 by decide) (Below.refl _ _) rfl)
    · intro A W hsz hoth hbel hdep
      exact kMoveV _ (.int .i64 (0)) rfl (wanted_of rfl rfl (by have h := hdep ⟨11, .guard⟩ (by simp) rfl; exact h)) ((hoth 10 (free2_of (by kernel_rfl))).trans rfl) (symV hbel hsz rfl rfl (show 46 < 57 by decide) (Below.refl _ _) rfl)
    · intro A W hsz hoth hbel hdep
      exact kEqlI _ _ _ _ .i64 (0) (0) true rfl (wanted_of rfl rfl (by have h := hdep ⟨11, .guard⟩ (by simp) rfl; exact h)) (by have h := hdep ⟨12, .data⟩ (by simp) rfl; exact h) rfl (by decide) (symV hbel hsz rfl rfl (show 47 < 57 by decide) (Below.refl _ _) rfl)
    · intro A W hsz hoth hbel hdep
      exact kPick _ _ _ true (.bool true) rfl rfl (by have h := hdep ⟨11, .data⟩ (by simp) rfl; exact h) (by have h := hdep ⟨13, .data⟩ (by simp) rfl; exact h) (symV hbel hsz rfl rfl (show 48 < 57 by decide) (Below.refl _ _) rfl)
    · intro A W hsz hoth hbel hdep
      exact kMoveV _ (.bool true) rfl rfl (by have h := hdep ⟨14, .data⟩ (by simp) rfl; exact h) (symV hbel hsz rfl rfl (show 49 < 57 by decide) (Below.refl _ _) rfl)
    · intro A W hsz hoth hbel hdep
      exact kLoadRow _ _ _ _ _ _ rfl (wanted_of rfl rfl (by have h := hdep ⟨15, .guard⟩ (by simp) rfl; exact h)) ((hoth 9 (free2_of (by kernel_rfl))).trans rfl) ((hM9.get 0 rfl).on hbel) Tryd.underlying25 rfl (info_WideC _) (symV hbel hsz rfl rfl (show 50 < 57 by decide) (Below.refl _ _) rfl)
    · intro A W hsz hoth hbel hdep
      exact kMoveV _ (x5) rfl (wanted_of rfl rfl (by have h := hdep ⟨15, .guard⟩ (by simp) rfl; exact h)) ((hoth 8 (free2_of (by kernel_rfl))).trans rfl) (symV hbel hsz rfl rfl (show 51 < 57 by decide) (Below.refl _ _) rfl)
    · intro A W hsz hoth hbel hdep
      exact kMoveV _ (.bool false) rfl (wanted_of rfl rfl (by have h := hdep ⟨15, .guard⟩ (by simp) rfl; exact h)) ((hoth 0 (free2_of (by kernel_rfl))).trans rfl) (symV hbel hsz rfl rfl (show 52 < 57 by decide) (Below.refl _ _) rfl)
    · intro A W hsz hoth hbel hdep
      refine kCall2 34 _ _ _ _ _ rfl (wanted_of rfl rfl (by have h := hdep ⟨15, .chain⟩ (by simp) rfl; exact h)) (by kernel_rfl) (by have h := hdep ⟨17, .data⟩ (by simp) rfl; exact h) (by have h := hdep ⟨18, .data⟩ (by simp) rfl; exact h) ?_
      refine (rInv_as hm hP (((hN5.below hM9.below).below hbel).n16 mv17) Hv53.out).mono ?_
      rintro e r ⟨xx, rfl, hNx, hBc⟩
      exact ⟨_, rfl, (symV hbel hsz rfl rfl (show 53 < 57 by decide) hBc hNx)⟩
    · intro A W hsz hoth hbel hdep
      have hN53 := (show NumT W (A.tmps.getD 53 undef) (v53) from (by have h := hdep ⟨19, .data⟩ (by simp) rfl; exact h))
      refine kCall1 17 _ _ _ rfl (wanted_of rfl rfl (by have h := hdep ⟨15, .guard⟩ (by simp) rfl; exact h)) (by kernel_rfl) (rfl : A.eval (Operand.tmp 53) = A.tmps.getD 53 undef) ?_
      refine (dWide_numT hN53).mono ?_
      rintro e r ⟨rfl, hBc⟩
      exact ⟨_, rfl, (symV hbel hsz rfl rfl (show 54 < 57 by decide) hBc rfl)⟩
    · intro A W hsz hoth hbel hdep
      exact kEqlW _ _ _ (v21) (v53) true rfl (wanted_of rfl rfl (by have h := hdep ⟨15, .guard⟩ (by simp) rfl; exact h)) (by have h := hdep ⟨16, .data⟩ (by simp) rfl; exact h) (by have h := hdep ⟨20, .data⟩ (by simp) rfl; exact h) (F55.out) (symV hbel hsz rfl rfl (show 55 < 57 by decide) (Below.refl _ _) rfl)
    · intro A W hsz hoth hbel hdep
      exact kPick _ _ _ true (.bool true) rfl rfl (by have h := hdep ⟨15, .data⟩ (by simp) rfl; exact h) (by have h := hdep ⟨21, .data⟩ (by simp) rfl; exact h) (symV hbel hsz rfl rfl (show 56 < 57 by decide) (Below.refl _ _) rfl)
    · intro A W hsz hoth hbel hdep
      exact kAssignV _ (.bool true) rfl rfl (by have h := hdep ⟨22, .data⟩ (by simp) rfl; exact h) (symV hbel hsz rfl rfl (show 6 < 57 by decide) (Below.refl _ _) rfl)
    intro w10 hB10
    dsimp only [AllV]
    intro x10_40 hN10_40
    intro x10_42 hN10_42
    intro x10_53 hN10_53
    dsimp only [putAll]
    go_frame
    have hM10 := hM9.on hB10
    clear hB10 hM9
    have hM11 := mm_nil w10
    go_wp2_with fail
    go_ret
    exact ⟨rfl, ((((hM5.below).trans (hM10.below.mono (hM5.below).size))).trans (hM11.below.mono (((hM5.below).trans (hM10.below.mono (hM5.below).size))).size))⟩
end Go.Proofs.YtajpdmcbdekpbaaDoor
