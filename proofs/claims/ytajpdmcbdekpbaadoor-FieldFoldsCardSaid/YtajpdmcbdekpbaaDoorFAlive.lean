/-
  The walk of the statements' own 'fieldAlive'.
-/
import Derived.Test.YtajpdmcbdekpbaaDoorFLaw
namespace Go.Proofs.YtajpdmcbdekpbaaDoor
open Go Go.RowKit

theorem fIn_as {m a : Nat} {b : Bool} (hm : Modu m) (g : Nat) (ma : a < M256) (h : decide (a < m) = b) (w : World) (hr : Row w g 54 (wcells m)) :
    Calls Tryd.prog 27 #[.pointer (some ⟨g, 0, none⟩), WV a] w fun e w' => e = .returned (.bool b) ∧ Below w.heap.size w w' := by
  subst h; exact fIn_any hm a g ma w hr
theorem fInv_as {m a x : Nat} (hm : Modu m) (g : Nat) (ma : a < M256) (h0 : a % m ≠ 0) (h : a ^ (m - 2) % m = x) (w : World) (hr : Row w g 54 (wcells m)) :
    Calls Tryd.prog 12 #[.pointer (some ⟨g, 0, none⟩), WV a] w fun e w' => e = .returned (.tuple #[WV x, .int .i64 0]) ∧ Below w.heap.size w w' := by
  subst h; exact fInv_pos hm a g ma h0 w hr
theorem PP_half : 2 ^ (PP - 2) % PP = (PP + 1) / 2 := by
  have h1 : 2 * 2 ^ (PP - 2) % PP = 1 := inv_mul PP_prime (not_dvd_mod.2 (by decide))
  have h2 : 2 * ((PP + 1) / 2) % PP = 1 := by decide +kernel
  have h3 := inv_unique h1 h2
  rw [h3]; decide +kernel
set_option maxRecDepth 100000 in
set_option maxHeartbeats 8000000 in
theorem fieldAlive_any (w : World) (hG : Glob 0 PP w) :
    Calls Tryd.prog 10 #[] w fun e w' => e = .returned (.bool true) ∧ Below w.heap.size w w' := by
  obtain ⟨n1, H1⟩ : ∃ n, Hid (n = 1) := ⟨1, Lib.hid rfl⟩
  have h1 : n1 < 18446744073709551616 := by rw [H1.out]; decide
  have mn1 : n1 < M256 := by rw [H1.out]; decide
  have E1 : (1 : Int) = (n1 : Int) := by rw [H1.out]; rfl
  replace E1 := Lib.hid E1
  obtain ⟨n2, H2⟩ : ∃ n, Hid (n = 2) := ⟨2, Lib.hid rfl⟩
  have h2 : n2 < 18446744073709551616 := by rw [H2.out]; decide
  have mn2 : n2 < M256 := by rw [H2.out]; decide
  have E2 : (2 : Int) = (n2 : Int) := by rw [H2.out]; rfl
  replace E2 := Lib.hid E2
  obtain ⟨m, Hm⟩ : ∃ m, Hid (m = PP) := ⟨_, Lib.hid rfl⟩
  rw [← Hm.out] at hG
  have hm : Modu m := by rw [Hm.out]; exact modu_P
  have hne : n2 % m ≠ 0 := by rw [H2.out, Hm.out]; decide
  replace hne := Lib.hid hne
  obtain ⟨x, Hx⟩ : ∃ x, Hid (n2 ^ (m - 2) % m = x) := ⟨_, Lib.hid rfl⟩
  have mx : x < M256 := by rw [← Hx.out]; exact hm.mod _
  obtain ⟨t, Ht⟩ : ∃ t, Hid (m + n1 = t) := ⟨_, Lib.hid rfl⟩
  have mt : t < M256 := by rw [← Ht.out, Hm.out, H1.out]; decide
  obtain ⟨y, Hy⟩ : ∃ y, Hid (t / 2 ^ 1 = y) := ⟨_, Lib.hid rfl⟩
  have my : y < M256 := by rw [← Hy.out]; exact Nat.lt_of_le_of_lt (Nat.div_le_self _ _) mt
  have hxv : x = (PP + 1) / 2 := by rw [← Hx.out, H2.out, Hm.out]; exact PP_half
  have hyv : y = (PP + 1) / 2 := by rw [← Hy.out, ← Ht.out, H1.out, Hm.out]
  have F28 := Lib.hid (eqlW_yes (hxv.trans hyv.symm))
  have F33 := Lib.hid (neqW_yes mx M256_pos (by rw [hxv]; decide))
  clear hxv hyv
  have hM0 := mm_nil w
  (try unfold WV)
  go_enter Tryd.func10, Tryd.ntmps10
  go_wp2_with (first
    | (go_at_call 11; refine (fP_any m _ (hG.below hM0.below)).mono ?_; rintro e w1 ⟨rfl, hR1, hB1⟩; have hM1 := hM0.new hR1 hB1; clear hB1 hR1 hM0; go_frame)
    | (go_at_call 16; (with_reducible change Calls _ _ #[Value.int .u64 (2)] _ _); refine (wOf_lit n2 2 h2 E2.out _).mono ?_; rintro e w2 ⟨rfl, hB2⟩; have hM2 := hM1.on hB2; clear hB2 hM1; (try unfold WV); go_frame)
    | (go_at_call 12; (with_reducible change Calls _ _ #[Value.pointer (some ⟨w.heap.size, 0, none⟩), Value.agg (wcells n2)] _ _); refine (fInv_as hm (w.heap.size) mn2 hne.out Hx.out _ (hM2.get 0 rfl)).mono ?_; rintro e w3 ⟨rfl, hB3⟩; have hM3 := hM2.on hB3; clear hB3 hM2; (try unfold WV); go_frame)
    | ((with_reducible change wpList _ _ _ (Oper.mk (some 2) _ _ _ _ _ :: _) _ _); refine mmAlloc hM3 _ _ rfl rfl zero_Wide ?_; intro w4 hM4; clear hM3; go_frame)
    | ((with_reducible change wpList _ _ _ (Oper.mk none (Op.store _ (Operand.tmp 2) (Operand.tmp 13)) _ _ _ _ :: _) _ _); refine mmStoreAt hM4 0 _ _ _ _ _ _ (wcells x) rfl rfl rfl rfl rfl (info_WideC _) (by simp only [wcells_size]) (wcells_one _) ?_; intro w5 hM5; dsimp only [List.set] at hM5; clear hM4; go_frame)
    | (go_at_call 13; (with_reducible change Calls _ _ #[Value.pointer (some ⟨w.heap.size, 0, none⟩)] _ _); refine (fModulus_any hm (w.heap.size) _ (hM5.get 1 rfl)).mono ?_; rintro e w6 ⟨rfl, hB6⟩; have hM6 := hM5.on hB6; clear hB6 hM5; (try unfold WV); go_frame)
    | (go_at_call 16; (with_reducible change Calls _ _ #[Value.int .u64 (1)] _ _); refine (wOf_lit n1 1 h1 E1.out _).mono ?_; rintro e w7 ⟨rfl, hB7⟩; have hM7 := hM6.on hB7; clear hB7 hM6; (try unfold WV); go_frame)
    | (go_at_call 35; (with_reducible change Calls _ _ #[Value.agg (wcells m), Value.agg (wcells n1)] _ _); refine (wAdd_fits hm.lt mn1 Ht.out mt _).mono ?_; rintro e w8 ⟨rfl, hB8⟩; have hM8 := hM7.on hB8; clear hB8 hM7; (try unfold WV); go_frame)
    | ((with_reducible change wpList _ _ _ (Oper.mk (some 4) _ _ _ _ _ :: _) _ _); refine mmAlloc hM8 _ _ rfl rfl zero_Wide ?_; intro w9 hM9; clear hM8; go_frame)
    | ((with_reducible change wpList _ _ _ (Oper.mk none (Op.store _ (Operand.tmp 4) (Operand.tmp 20)) _ _ _ _ :: _) _ _); refine mmStoreAt hM9 0 _ _ _ _ _ _ (wcells t) rfl rfl rfl rfl rfl (info_WideC _) (by simp only [wcells_size]) (wcells_one _) ?_; intro w10 hM10; dsimp only [List.set] at hM10; clear hM9; go_frame))
  refine region_sym (fun _ => 0) [.val (.int .i64 (0)), .val (.bool true), .val (.bool true), .val (.agg (wcells x)), .val (.agg (wcells t)), .val (.agg (wcells y)), .val (.bool true), .val (.bool true), .val (.bool true), .val (.agg (wcells x)), .val (.agg (wcells 0)), .val (.bool true), .val (.bool true), .val (.bool true)] [.val (.int .i64 (0)), .val (.bool true), .val (.bool true), .val (.agg (wcells x)), .val (.agg (wcells t)), .val (.agg (wcells y)), .val (.bool true), .val (.bool true), .val (.bool true), .val (.agg (wcells x)), .val (.agg (wcells 0)), .val (.bool true), .val (.bool true), .val (.bool true)] (by kernel_rfl) (by kernel_rfl) rfl rfl (steps_all ⟨?_, ?_, ?_, ?_, ?_, ?_, ?_, ?_, ?_, ?_, ?_, ?_, ?_, ?_, trivial⟩) ?_
  · intro A W hsz hoth hbel hdep
    exact kMoveV _ (.int .i64 (0)) rfl rfl ((hoth 3 (free2_of (by kernel_rfl))).trans rfl) (symV hbel hsz rfl rfl (show 22 < 35 by decide) (Below.refl _ _) rfl)
  · intro A W hsz hoth hbel hdep
    exact kEqlI _ _ _ _ .i64 (0) (0) true rfl rfl (by have h := hdep ⟨0, .data⟩ (by simp) rfl; exact h) rfl (by decide) (symV hbel hsz rfl rfl (show 23 < 35 by decide) (Below.refl _ _) rfl)
  · intro A W hsz hoth hbel hdep
    exact kMoveV _ (.bool true) rfl rfl (by have h := hdep ⟨1, .data⟩ (by simp) rfl; exact h) (symV hbel hsz rfl rfl (show 24 < 35 by decide) (Below.refl _ _) rfl)
  · intro A W hsz hoth hbel hdep
    exact kLoadRow _ _ _ _ _ _ rfl (wanted_of rfl rfl (by have h := hdep ⟨2, .guard⟩ (by simp) rfl; exact h)) ((hoth 2 (free2_of (by kernel_rfl))).trans rfl) ((hM10.get 1 rfl).on hbel) Tryd.underlying25 rfl (info_WideC _) (symV hbel hsz rfl rfl (show 25 < 35 by decide) (Below.refl _ _) rfl)
  · intro A W hsz hoth hbel hdep
    exact kLoadRow _ _ _ _ _ _ rfl (wanted_of rfl rfl (by have h := hdep ⟨2, .guard⟩ (by simp) rfl; exact h)) ((hoth 4 (free2_of (by kernel_rfl))).trans rfl) ((hM10.get 0 rfl).on hbel) Tryd.underlying25 rfl (info_WideC _) (symV hbel hsz rfl rfl (show 26 < 35 by decide) (Below.refl _ _) rfl)
  · intro A W hsz hoth hbel hdep
    refine kCall2 36 _ _ _ _ _ rfl (wanted_of rfl rfl (by have h := hdep ⟨2, .chain⟩ (by simp) rfl; exact h)) (by kernel_rfl) (by have h := hdep ⟨4, .data⟩ (by simp) rfl; exact h) rfl ?_
    refine (wRight_as t y 1 mt Hy.out W).mono ?_
    rintro e r ⟨rfl, hBc⟩
    exact ⟨_, rfl, (symV hbel hsz rfl rfl (show 27 < 35 by decide) hBc rfl)⟩
  · intro A W hsz hoth hbel hdep
    exact kEqlW _ _ _ (x) (y) true rfl (wanted_of rfl rfl (by have h := hdep ⟨2, .guard⟩ (by simp) rfl; exact h)) (by have h := hdep ⟨3, .data⟩ (by simp) rfl; exact h) (by have h := hdep ⟨5, .data⟩ (by simp) rfl; exact h) (F28.out) (symV hbel hsz rfl rfl (show 28 < 35 by decide) (Below.refl _ _) rfl)
  · intro A W hsz hoth hbel hdep
    exact kPick _ _ _ true (.bool true) rfl rfl (by have h := hdep ⟨2, .data⟩ (by simp) rfl; exact h) (by have h := hdep ⟨6, .data⟩ (by simp) rfl; exact h) (symV hbel hsz rfl rfl (show 29 < 35 by decide) (Below.refl _ _) rfl)
  · intro A W hsz hoth hbel hdep
    exact kMoveV _ (.bool true) rfl rfl (by have h := hdep ⟨7, .data⟩ (by simp) rfl; exact h) (symV hbel hsz rfl rfl (show 30 < 35 by decide) (Below.refl _ _) rfl)
  · intro A W hsz hoth hbel hdep
    exact kLoadRow _ _ _ _ _ _ rfl (wanted_of rfl rfl (by have h := hdep ⟨8, .guard⟩ (by simp) rfl; exact h)) ((hoth 2 (free2_of (by kernel_rfl))).trans rfl) ((hM10.get 1 rfl).on hbel) Tryd.underlying25 rfl (info_WideC _) (symV hbel hsz rfl rfl (show 31 < 35 by decide) (Below.refl _ _) rfl)
  · intro A W hsz hoth hbel hdep
    exact kBuildW0 rfl (wanted_of rfl rfl (by have h := hdep ⟨8, .guard⟩ (by simp) rfl; exact h)) (symV hbel hsz rfl rfl (show 32 < 35 by decide) (Below.refl _ _) rfl)
  · intro A W hsz hoth hbel hdep
    exact kNeqW _ _ _ (x) (0) true rfl (wanted_of rfl rfl (by have h := hdep ⟨8, .guard⟩ (by simp) rfl; exact h)) (by have h := hdep ⟨9, .data⟩ (by simp) rfl; exact h) (by have h := hdep ⟨10, .data⟩ (by simp) rfl; exact h) (F33.out) (symV hbel hsz rfl rfl (show 33 < 35 by decide) (Below.refl _ _) rfl)
  · intro A W hsz hoth hbel hdep
    exact kPick _ _ _ true (.bool true) rfl rfl (by have h := hdep ⟨8, .data⟩ (by simp) rfl; exact h) (by have h := hdep ⟨11, .data⟩ (by simp) rfl; exact h) (symV hbel hsz rfl rfl (show 34 < 35 by decide) (Below.refl _ _) rfl)
  · intro A W hsz hoth hbel hdep
    exact kAssignV _ (.bool true) rfl rfl (by have h := hdep ⟨12, .data⟩ (by simp) rfl; exact h) (symV hbel hsz rfl rfl (show 0 < 35 by decide) (Below.refl _ _) rfl)
  intro w11 hB11
  dsimp only [AllV]
  dsimp only [putAll]
  go_frame
  have hM11 := hM10.on hB11
  clear hB11 hM10
  go_wp2_with fail
  go_ret
  exact ⟨rfl, hM11.below⟩
end Go.Proofs.YtajpdmcbdekpbaaDoor
