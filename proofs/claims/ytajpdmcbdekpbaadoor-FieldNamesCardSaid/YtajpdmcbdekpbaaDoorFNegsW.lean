/-
  The walk of the statement FieldNegs.
-/
import Derived.Test.YtajpdmcbdekpbaaDoorFRingsW
namespace Go.Proofs.YtajpdmcbdekpbaaDoor
open Go Go.RowKit

theorem neg_form {m a : Nat} : (0 % m + m - a % m) % m = (m - a % m) % m := by rw [Nat.zero_mod, Nat.zero_add]
theorem neg_zero {m a : Nat} (hm : 0 < m) : (a + (0 % m + m - a % m) % m) % m = 0 := by rw [neg_form, Nat.add_mod_mod]; exact neg_add hm
theorem neg_inv {m a n : Nat} (hp : IsPrime m) (ha : a % m ≠ 0) (hn : n = (0 % m + m - a % m) % m) : n * (a ^ (m - 2) % m) % m = (0 % m + m - 1 % m) % m := by
  have hm : 0 < m := by have := hp.1; omega
  have h1 := inv_mul hp (not_dvd_mod.2 ha)
  have h0 := neg_zero (a := a) hm
  rw [← hn] at h0
  have h2 : (a * a ^ (m - 2) + n * a ^ (m - 2)) % m = 0 := by rw [← Nat.add_mul, Nat.mul_mod, h0, Nat.zero_mul, Nat.zero_mod]
  have h3 := neg_unique hm h2
  rw [Nat.mul_mod_mod, h3, h1, neg_form, Nat.mod_eq_of_lt hp.1]
theorem inv_one {m a : Nat} (hp : IsPrime m) (ha : a % m ≠ 0) : a * (a ^ (m - 2) % m) % m = 1 := by rw [Nat.mul_mod_mod]; exact inv_mul hp (not_dvd_mod.2 ha)
set_option maxRecDepth 100000 in
set_option maxHeartbeats 8000000 in
theorem FieldNegs_true (a : Nat) (ma : a < M256) (w : World) (hG : Glob 0 PP w) :
    Calls Tryd.prog 9 #[.bool true, WV a] w fun e w' => e = .returned (.bool true) ∧ Below w.heap.size w w' := by
  obtain ⟨m, Hm⟩ : ∃ m, Hid (m = PP) := ⟨_, Lib.hid rfl⟩
  have hm : Modu m := by rw [Hm.out]; exact modu_P
  have hp : IsPrime m := by rw [Hm.out]; exact PP_prime
  have hR : Glob 0 m w := by rw [Hm.out]; exact hG
  obtain ⟨n1, H1⟩ : ∃ n, Hid (n = 1) := ⟨1, Lib.hid rfl⟩
  have h1 : n1 < 18446744073709551616 := by rw [H1.out]; decide
  have mn1 : n1 < M256 := by rw [H1.out]; decide
  have E1 : (1 : Int) = (n1 : Int) := by rw [H1.out]; rfl
  replace E1 := Lib.hid E1
  obtain ⟨n2, H2⟩ : ∃ n, Hid (n = 2) := ⟨2, Lib.hid rfl⟩
  have h2 : n2 < 18446744073709551616 := by rw [H2.out]; decide
  have mn2 : n2 < M256 := by rw [H2.out]; decide
  have E2 : (2 : Int) = (n2 : Int) := by rw [H2.out]; rfl
  replace E2 := Lib.hid E2
  by_cases hz : a % m = 0
  · replace hz := Lib.hid hz
    obtain ⟨v16, Hv16⟩ : ∃ n, Hid ((0 % m + m - a % m) % m = n) := ⟨_, Lib.hid rfl⟩
    have mv16 : v16 < M256 := by rw [← Hv16.out]; exact hm.mod _
    obtain ⟨v20, Hv20⟩ : ∃ n, Hid ((a + v16) % m = n) := ⟨_, Lib.hid rfl⟩
    have mv20 : v20 < M256 := by rw [← Hv20.out]; exact hm.mod _
    obtain ⟨v27, Hv27⟩ : ∃ n, Hid (a * a % m = n) := ⟨_, Lib.hid rfl⟩
    have mv27 : v27 < M256 := by rw [← Hv27.out]; exact hm.mod _
    obtain ⟨v31, Hv31⟩ : ∃ n, Hid (v16 * v16 % m = n) := ⟨_, Lib.hid rfl⟩
    have mv31 : v31 < M256 := by rw [← Hv31.out]; exact hm.mod _
    obtain ⟨v44, Hv44⟩ : ∃ n, Hid (a ^ n2 % m = n) := ⟨_, Lib.hid rfl⟩
    have mv44 : v44 < M256 := by rw [← Hv44.out]; exact hm.mod _
    obtain ⟨v48, Hv48⟩ : ∃ n, Hid (a * a % m = n) := ⟨_, Lib.hid rfl⟩
    have mv48 : v48 < M256 := by rw [← Hv48.out]; exact hm.mod _
    have F22 := Lib.hid (neqW_no (show v20 = 0 by rw [← Hv20.out, ← Hv16.out]; exact neg_zero hm.pos))
    have F32 := Lib.hid (neqW_no (show v27 = v31 by rw [← Hv27.out, ← Hv31.out]; exact neg_sq (by rw [← Hv16.out]; exact neg_zero hm.pos)))
    have F37 := Lib.hid (show decide (v16 < m) = true by rw [← Hv16.out]; exact decide_eq_true (Nat.mod_lt _ hm.pos))
    have F49 := Lib.hid (neqW_no (show v44 = v48 by rw [← Hv44.out, ← Hv48.out, H2.out, Nat.pow_two]))
    have hM0 := mm_nil w
    (try unfold WV)
    go_enter Tryd.func9, Tryd.ntmps9
    go_wp2_with (first
      | ((with_reducible change wpList _ _ _ (Oper.mk (some 3) _ _ _ _ _ :: _) _ _); refine mmBox hM0 _ _ _ rfl rfl rfl ?_; intro w1 hM1; clear hM0; go_frame)
      | (go_at_call 10; refine (fieldAlive_any _ (hG.below hM1.below)).mono ?_; rintro e w2 ⟨rfl, hB2⟩; have hM2 := hM1.on hB2; clear hB2 hM1; (try unfold WV); go_frame)
      | (go_at_call 19; (with_reducible change Calls _ _ #[Value.bool true] _ _); refine (ring_true m _ (hR.below hM2.below)).mono ?_; rintro e w3 ⟨rfl, hR3, hB3⟩; have hM3 := hM2.new hR3 hB3; clear hB3 hR3 hM2; go_frame)
      | ((with_reducible change wpList _ _ _ (Oper.mk (some 14) _ _ _ _ _ :: _) _ _); refine kBuildW0 rfl rfl ?_; go_frame)
      | ((with_reducible change wpList _ _ _ (Oper.mk (some 15) _ _ _ _ _ :: _) _ _); refine kLoadRow _ _ _ _ _ _ rfl rfl rfl (hM3.get 1 rfl) Tryd.underlying25 rfl (info_WideC _) ?_; go_frame)
      | (go_at_call 23; (with_reducible change Calls _ _ #[Value.pointer (some ⟨w2.heap.size, 0, none⟩), Value.agg (wcells 0), Value.agg (wcells a)] _ _); refine (fSub_as hm (w2.heap.size) M256_pos ma Hv16.out _ (hM3.get 0 rfl)).mono ?_; rintro e w4 ⟨rfl, hB4⟩; have hM4 := hM3.on hB4; clear hB4 hM3; (try unfold WV); go_frame)
      | ((with_reducible change wpList _ _ _ (Oper.mk (some 6) _ _ _ _ _ :: _) _ _); refine mmAlloc hM4 _ _ rfl rfl zero_Wide ?_; intro w5 hM5; clear hM4; go_frame)
      | ((with_reducible change wpList _ _ _ (Oper.mk none (Op.store _ (Operand.tmp 6) (Operand.tmp 16)) _ _ _ _ :: _) _ _); refine mmStoreAt hM5 0 _ _ _ _ _ _ (wcells v16) rfl rfl rfl rfl rfl (info_WideC _) (by simp only [wcells_size]) (wcells_one _) ?_; intro w6 hM6; dsimp only [List.set] at hM6; clear hM5; go_frame))
    refine region_sym (fun _ => 0) [.val (.pointer (some ⟨w2.heap.size, 0, none⟩)), .val (.agg (wcells a)), .val (.agg (wcells v16)), .val (.agg (wcells v20)), .val (.agg (wcells 0)), .val (.bool false), .val (.bool false), .val (.pointer (some ⟨w2.heap.size, 0, none⟩)), .val (.agg (wcells a)), .val (.agg (wcells a)), .val (.agg (wcells v27)), .val (.pointer (some ⟨w2.heap.size, 0, none⟩)), .val (.agg (wcells v16)), .val (.agg (wcells v16)), .val (.agg (wcells v31)), .val (.bool false), .val (.bool false), .val (.bool false), .val (.pointer (some ⟨w2.heap.size, 0, none⟩)), .val (.agg (wcells v16)), .val (.bool true), .val (.bool false), .val (.bool false), .val (.bool false), .val (.pointer (some ⟨w2.heap.size, 0, none⟩)), .val (.agg (wcells a)), .val (.agg (wcells n2)), .val (.agg (wcells v44)), .val (.pointer (some ⟨w2.heap.size, 0, none⟩)), .val (.agg (wcells a)), .val (.agg (wcells a)), .val (.agg (wcells v48)), .val (.bool false), .val (.bool false)] [.val (.pointer (some ⟨w2.heap.size, 0, none⟩)), .val (.agg (wcells a)), .val (.agg (wcells v16)), .val (.agg (wcells v20)), .val (.agg (wcells 0)), .val (.bool false), .val (.bool false), .val (.pointer (some ⟨w2.heap.size, 0, none⟩)), .val (.agg (wcells a)), .val (.agg (wcells a)), .val (.agg (wcells v27)), .val (.pointer (some ⟨w2.heap.size, 0, none⟩)), .val (.agg (wcells v16)), .val (.agg (wcells v16)), .val (.agg (wcells v31)), .val (.bool false), .val (.bool false), .val (.bool false), .val (.pointer (some ⟨w2.heap.size, 0, none⟩)), .val (.agg (wcells v16)), .val (.bool true), .val (.bool false), .val (.bool false), .val (.bool false), .val (.pointer (some ⟨w2.heap.size, 0, none⟩)), .val (.agg (wcells a)), .val (.agg (wcells n2)), .val (.agg (wcells v44)), .val (.pointer (some ⟨w2.heap.size, 0, none⟩)), .val (.agg (wcells a)), .val (.agg (wcells a)), .val (.agg (wcells v48)), .val (.bool false), .val (.bool false)] (by kernel_rfl) (by kernel_rfl) rfl rfl (steps_all ⟨?_, ?_, ?_, ?_, ?_, ?_, ?_, ?_, ?_, ?_, ?_, ?_, ?_, ?_, ?_, ?_, ?_, ?_, ?_, ?_, ?_, ?_, ?_, ?_, ?_, ?_, ?_, ?_, ?_, ?_, ?_, ?_, ?_, ?_, trivial⟩) ?_
    · intro A W hsz hoth hbel hdep
      exact kMoveV _ (.pointer (some ⟨w2.heap.size, 0, none⟩)) rfl rfl ((hoth 5 (free2_of (by kernel_rfl))).trans rfl) (symV hbel hsz rfl rfl (show 17 < 78 by decide) (Below.refl _ _) rfl)
    · intro A W hsz hoth hbel hdep
      exact kLoadRow _ _ _ _ _ _ rfl rfl ((hoth 3 (free2_of (by kernel_rfl))).trans rfl) ((hM6.get 2 rfl).on hbel) Tryd.underlying25 rfl (info_WideC _) (symV hbel hsz rfl rfl (show 18 < 78 by decide) (Below.refl _ _) rfl)
    · intro A W hsz hoth hbel hdep
      exact kLoadRow _ _ _ _ _ _ rfl rfl ((hoth 6 (free2_of (by kernel_rfl))).trans rfl) ((hM6.get 0 rfl).on hbel) Tryd.underlying25 rfl (info_WideC _) (symV hbel hsz rfl rfl (show 19 < 78 by decide) (Below.refl _ _) rfl)
    · intro A W hsz hoth hbel hdep
      refine kCall3 21 _ _ _ _ _ _ _ rfl rfl (by kernel_rfl) (by have h := hdep ⟨0, .data⟩ (by simp) rfl; exact h) (by have h := hdep ⟨1, .data⟩ (by simp) rfl; exact h) (by have h := hdep ⟨2, .data⟩ (by simp) rfl; exact h) ?_
      refine (fAdd_as hm (w2.heap.size) ma mv16 Hv20.out.symm W ((hM6.get 1 rfl).on hbel)).mono ?_
      rintro e r ⟨rfl, hBc⟩
      exact ⟨_, rfl, (symV hbel hsz rfl rfl (show 20 < 78 by decide) hBc rfl)⟩
    · intro A W hsz hoth hbel hdep
      exact kBuildW0 rfl rfl (symV hbel hsz rfl rfl (show 21 < 78 by decide) (Below.refl _ _) rfl)
    · intro A W hsz hoth hbel hdep
      exact kNeqW _ _ _ (v20) (0) false rfl rfl (by have h := hdep ⟨3, .data⟩ (by simp) rfl; exact h) (by have h := hdep ⟨4, .data⟩ (by simp) rfl; exact h) (F22.out) (symV hbel hsz rfl rfl (show 22 < 78 by decide) (Below.refl _ _) rfl)
    · intro A W hsz hoth hbel hdep
      exact kMoveV _ (.bool false) rfl rfl (by have h := hdep ⟨5, .data⟩ (by simp) rfl; exact h) (symV hbel hsz rfl rfl (show 23 < 78 by decide) (Below.refl _ _) rfl)
    · intro A W hsz hoth hbel hdep
      exact kMoveV _ (.pointer (some ⟨w2.heap.size, 0, none⟩)) rfl (wanted_of rfl rfl (by have h := hdep ⟨6, .guard⟩ (by simp) rfl; exact h)) ((hoth 5 (free2_of (by kernel_rfl))).trans rfl) (symV hbel hsz rfl rfl (show 24 < 78 by decide) (Below.refl _ _) rfl)
    · intro A W hsz hoth hbel hdep
      exact kLoadRow _ _ _ _ _ _ rfl (wanted_of rfl rfl (by have h := hdep ⟨6, .guard⟩ (by simp) rfl; exact h)) ((hoth 3 (free2_of (by kernel_rfl))).trans rfl) ((hM6.get 2 rfl).on hbel) Tryd.underlying25 rfl (info_WideC _) (symV hbel hsz rfl rfl (show 25 < 78 by decide) (Below.refl _ _) rfl)
    · intro A W hsz hoth hbel hdep
      exact kLoadRow _ _ _ _ _ _ rfl (wanted_of rfl rfl (by have h := hdep ⟨6, .guard⟩ (by simp) rfl; exact h)) ((hoth 3 (free2_of (by kernel_rfl))).trans rfl) ((hM6.get 2 rfl).on hbel) Tryd.underlying25 rfl (info_WideC _) (symV hbel hsz rfl rfl (show 26 < 78 by decide) (Below.refl _ _) rfl)
    · intro A W hsz hoth hbel hdep
      refine kCall3 25 _ _ _ _ _ _ _ rfl (wanted_of rfl rfl (by have h := hdep ⟨6, .chain⟩ (by simp) rfl; exact h)) (by kernel_rfl) (by have h := hdep ⟨7, .data⟩ (by simp) rfl; exact h) (by have h := hdep ⟨8, .data⟩ (by simp) rfl; exact h) (by have h := hdep ⟨9, .data⟩ (by simp) rfl; exact h) ?_
      refine (fMul_as hm (w2.heap.size) ma ma Hv27.out W ((hM6.get 1 rfl).on hbel)).mono ?_
      rintro e r ⟨rfl, hBc⟩
      exact ⟨_, rfl, (symV hbel hsz rfl rfl (show 27 < 78 by decide) hBc rfl)⟩
    · intro A W hsz hoth hbel hdep
      exact kMoveV _ (.pointer (some ⟨w2.heap.size, 0, none⟩)) rfl (wanted_of rfl rfl (by have h := hdep ⟨6, .guard⟩ (by simp) rfl; exact h)) ((hoth 5 (free2_of (by kernel_rfl))).trans rfl) (symV hbel hsz rfl rfl (show 28 < 78 by decide) (Below.refl _ _) rfl)
    · intro A W hsz hoth hbel hdep
      exact kLoadRow _ _ _ _ _ _ rfl (wanted_of rfl rfl (by have h := hdep ⟨6, .guard⟩ (by simp) rfl; exact h)) ((hoth 6 (free2_of (by kernel_rfl))).trans rfl) ((hM6.get 0 rfl).on hbel) Tryd.underlying25 rfl (info_WideC _) (symV hbel hsz rfl rfl (show 29 < 78 by decide) (Below.refl _ _) rfl)
    · intro A W hsz hoth hbel hdep
      exact kLoadRow _ _ _ _ _ _ rfl (wanted_of rfl rfl (by have h := hdep ⟨6, .guard⟩ (by simp) rfl; exact h)) ((hoth 6 (free2_of (by kernel_rfl))).trans rfl) ((hM6.get 0 rfl).on hbel) Tryd.underlying25 rfl (info_WideC _) (symV hbel hsz rfl rfl (show 30 < 78 by decide) (Below.refl _ _) rfl)
    · intro A W hsz hoth hbel hdep
      refine kCall3 25 _ _ _ _ _ _ _ rfl (wanted_of rfl rfl (by have h := hdep ⟨6, .guard⟩ (by simp) rfl; exact h)) (by kernel_rfl) (by have h := hdep ⟨11, .data⟩ (by simp) rfl; exact h) (by have h := hdep ⟨12, .data⟩ (by simp) rfl; exact h) (by have h := hdep ⟨13, .data⟩ (by simp) rfl; exact h) ?_
      refine (fMul_as hm (w2.heap.size) mv16 mv16 Hv31.out W ((hM6.get 1 rfl).on hbel)).mono ?_
      rintro e r ⟨rfl, hBc⟩
      exact ⟨_, rfl, (symV hbel hsz rfl rfl (show 31 < 78 by decide) hBc rfl)⟩
    · intro A W hsz hoth hbel hdep
      exact kNeqW _ _ _ (v27) (v31) false rfl (wanted_of rfl rfl (by have h := hdep ⟨6, .guard⟩ (by simp) rfl; exact h)) (by have h := hdep ⟨10, .data⟩ (by simp) rfl; exact h) (by have h := hdep ⟨14, .data⟩ (by simp) rfl; exact h) (F32.out) (symV hbel hsz rfl rfl (show 32 < 78 by decide) (Below.refl _ _) rfl)
    · intro A W hsz hoth hbel hdep
      exact kPick _ _ _ false (.bool false) rfl rfl (by have h := hdep ⟨6, .data⟩ (by simp) rfl; exact h) (by have h := hdep ⟨15, .data⟩ (by simp) rfl; exact h) (symV hbel hsz rfl rfl (show 33 < 78 by decide) (Below.refl _ _) rfl)
    · intro A W hsz hoth hbel hdep
      exact kMoveV _ (.bool false) rfl rfl (by have h := hdep ⟨16, .data⟩ (by simp) rfl; exact h) (symV hbel hsz rfl rfl (show 34 < 78 by decide) (Below.refl _ _) rfl)
    · intro A W hsz hoth hbel hdep
      exact kMoveV _ (.pointer (some ⟨w2.heap.size, 0, none⟩)) rfl (wanted_of rfl rfl (by have h := hdep ⟨17, .guard⟩ (by simp) rfl; exact h)) ((hoth 5 (free2_of (by kernel_rfl))).trans rfl) (symV hbel hsz rfl rfl (show 35 < 78 by decide) (Below.refl _ _) rfl)
    · intro A W hsz hoth hbel hdep
      exact kLoadRow _ _ _ _ _ _ rfl (wanted_of rfl rfl (by have h := hdep ⟨17, .guard⟩ (by simp) rfl; exact h)) ((hoth 6 (free2_of (by kernel_rfl))).trans rfl) ((hM6.get 0 rfl).on hbel) Tryd.underlying25 rfl (info_WideC _) (symV hbel hsz rfl rfl (show 36 < 78 by decide) (Below.refl _ _) rfl)
    · intro A W hsz hoth hbel hdep
      refine kCall2 27 _ _ _ _ _ rfl (wanted_of rfl rfl (by have h := hdep ⟨17, .chain⟩ (by simp) rfl; exact h)) (by kernel_rfl) (by have h := hdep ⟨18, .data⟩ (by simp) rfl; exact h) (by have h := hdep ⟨19, .data⟩ (by simp) rfl; exact h) ?_
      refine (fIn_as hm (w2.heap.size) mv16 F37.out W ((hM6.get 1 rfl).on hbel)).mono ?_
      rintro e r ⟨rfl, hBc⟩
      exact ⟨_, rfl, (symV hbel hsz rfl rfl (show 37 < 78 by decide) hBc rfl)⟩
    · intro A W hsz hoth hbel hdep
      exact kNot _ _ true rfl (wanted_of rfl rfl (by have h := hdep ⟨17, .guard⟩ (by simp) rfl; exact h)) (by have h := hdep ⟨20, .data⟩ (by simp) rfl; exact h) (symV hbel hsz rfl rfl (show 38 < 78 by decide) (Below.refl _ _) rfl)
    · intro A W hsz hoth hbel hdep
      exact kPick _ _ _ false (.bool false) rfl rfl (by have h := hdep ⟨17, .data⟩ (by simp) rfl; exact h) (by have h := hdep ⟨21, .data⟩ (by simp) rfl; exact h) (symV hbel hsz rfl rfl (show 39 < 78 by decide) (Below.refl _ _) rfl)
    · intro A W hsz hoth hbel hdep
      exact kMoveV _ (.bool false) rfl rfl (by have h := hdep ⟨22, .data⟩ (by simp) rfl; exact h) (symV hbel hsz rfl rfl (show 40 < 78 by decide) (Below.refl _ _) rfl)
    · intro A W hsz hoth hbel hdep
      exact kMoveV _ (.pointer (some ⟨w2.heap.size, 0, none⟩)) rfl (wanted_of rfl rfl (by have h := hdep ⟨23, .guard⟩ (by simp) rfl; exact h)) ((hoth 5 (free2_of (by kernel_rfl))).trans rfl) (symV hbel hsz rfl rfl (show 41 < 78 by decide) (Below.refl _ _) rfl)
    · intro A W hsz hoth hbel hdep
      exact kLoadRow _ _ _ _ _ _ rfl (wanted_of rfl rfl (by have h := hdep ⟨23, .guard⟩ (by simp) rfl; exact h)) ((hoth 3 (free2_of (by kernel_rfl))).trans rfl) ((hM6.get 2 rfl).on hbel) Tryd.underlying25 rfl (info_WideC _) (symV hbel hsz rfl rfl (show 42 < 78 by decide) (Below.refl _ _) rfl)
    · intro A W hsz hoth hbel hdep
      refine kCall1 16 _ _ _ rfl (wanted_of rfl rfl (by have h := hdep ⟨23, .chain⟩ (by simp) rfl; exact h)) (by kernel_rfl) rfl ?_
      refine (wOf_lit n2 2 h2 E2.out W).mono ?_
      rintro e r ⟨rfl, hBc⟩
      exact ⟨_, rfl, (symV hbel hsz rfl rfl (show 43 < 78 by decide) hBc rfl)⟩
    · intro A W hsz hoth hbel hdep
      refine kCall3 32 _ _ _ _ _ _ _ rfl (wanted_of rfl rfl (by have h := hdep ⟨23, .guard⟩ (by simp) rfl; exact h)) (by kernel_rfl) (by have h := hdep ⟨24, .data⟩ (by simp) rfl; exact h) (by have h := hdep ⟨25, .data⟩ (by simp) rfl; exact h) (by have h := hdep ⟨26, .data⟩ (by simp) rfl; exact h) ?_
      refine (fPow_as hm (w2.heap.size) ma mn2 Hv44.out W ((hM6.get 1 rfl).on hbel)).mono ?_
      rintro e r ⟨rfl, hBc⟩
      exact ⟨_, rfl, (symV hbel hsz rfl rfl (show 44 < 78 by decide) hBc rfl)⟩
    · intro A W hsz hoth hbel hdep
      exact kMoveV _ (.pointer (some ⟨w2.heap.size, 0, none⟩)) rfl (wanted_of rfl rfl (by have h := hdep ⟨23, .guard⟩ (by simp) rfl; exact h)) ((hoth 5 (free2_of (by kernel_rfl))).trans rfl) (symV hbel hsz rfl rfl (show 45 < 78 by decide) (Below.refl _ _) rfl)
    · intro A W hsz hoth hbel hdep
      exact kLoadRow _ _ _ _ _ _ rfl (wanted_of rfl rfl (by have h := hdep ⟨23, .guard⟩ (by simp) rfl; exact h)) ((hoth 3 (free2_of (by kernel_rfl))).trans rfl) ((hM6.get 2 rfl).on hbel) Tryd.underlying25 rfl (info_WideC _) (symV hbel hsz rfl rfl (show 46 < 78 by decide) (Below.refl _ _) rfl)
    · intro A W hsz hoth hbel hdep
      exact kLoadRow _ _ _ _ _ _ rfl (wanted_of rfl rfl (by have h := hdep ⟨23, .guard⟩ (by simp) rfl; exact h)) ((hoth 3 (free2_of (by kernel_rfl))).trans rfl) ((hM6.get 2 rfl).on hbel) Tryd.underlying25 rfl (info_WideC _) (symV hbel hsz rfl rfl (show 47 < 78 by decide) (Below.refl _ _) rfl)
    · intro A W hsz hoth hbel hdep
      refine kCall3 25 _ _ _ _ _ _ _ rfl (wanted_of rfl rfl (by have h := hdep ⟨23, .guard⟩ (by simp) rfl; exact h)) (by kernel_rfl) (by have h := hdep ⟨28, .data⟩ (by simp) rfl; exact h) (by have h := hdep ⟨29, .data⟩ (by simp) rfl; exact h) (by have h := hdep ⟨30, .data⟩ (by simp) rfl; exact h) ?_
      refine (fMul_as hm (w2.heap.size) ma ma Hv48.out W ((hM6.get 1 rfl).on hbel)).mono ?_
      rintro e r ⟨rfl, hBc⟩
      exact ⟨_, rfl, (symV hbel hsz rfl rfl (show 48 < 78 by decide) hBc rfl)⟩
    · intro A W hsz hoth hbel hdep
      exact kNeqW _ _ _ (v44) (v48) false rfl (wanted_of rfl rfl (by have h := hdep ⟨23, .guard⟩ (by simp) rfl; exact h)) (by have h := hdep ⟨27, .data⟩ (by simp) rfl; exact h) (by have h := hdep ⟨31, .data⟩ (by simp) rfl; exact h) (F49.out) (symV hbel hsz rfl rfl (show 49 < 78 by decide) (Below.refl _ _) rfl)
    · intro A W hsz hoth hbel hdep
      exact kPick _ _ _ false (.bool false) rfl rfl (by have h := hdep ⟨23, .data⟩ (by simp) rfl; exact h) (by have h := hdep ⟨32, .data⟩ (by simp) rfl; exact h) (symV hbel hsz rfl rfl (show 50 < 78 by decide) (Below.refl _ _) rfl)
    intro w7 hB7
    dsimp only [AllV]
    dsimp only [putAll]
    go_frame
    have hM7 := hM6.on hB7
    clear hB7 hM6
    go_wp2_with (first
      | ((with_reducible change wpList _ _ _ (Oper.mk (some 53) _ _ _ _ _ :: _) _ _); refine kLoadRow _ _ _ _ _ _ rfl rfl rfl (hM7.get 2 rfl) Tryd.underlying25 rfl (info_WideC _) ?_; go_frame)
      | (go_at_call 12; (with_reducible change Calls _ _ #[Value.pointer (some ⟨w2.heap.size, 0, none⟩), Value.agg (wcells a)] _ _); refine (fInv_zero hm a (w2.heap.size) ma hz.out _ (hM7.get 1 rfl)).mono ?_; rintro e w8 ⟨rfl, hB8⟩; have hM8 := hM7.on hB8; clear hB8 hM7; (try unfold WV); go_frame)
      | ((with_reducible change wpList _ _ _ (Oper.mk (some 7) _ _ _ _ _ :: _) _ _); refine mmAlloc hM8 _ _ rfl rfl zero_Wide ?_; intro w9 hM9; clear hM8; go_frame)
      | ((with_reducible change wpList _ _ _ (Oper.mk none (Op.store _ (Operand.tmp 7) (Operand.tmp 55)) _ _ _ _ :: _) _ _); refine mmStoreAt hM9 0 _ _ _ _ _ _ (wcells 0) rfl rfl rfl rfl rfl (info_WideC _) (by simp only [wcells_size]) (wcells_one _) ?_; intro w10 hM10; dsimp only [List.set] at hM10; clear hM9; go_frame)
      | ((with_reducible change wpList _ _ _ (Oper.mk (some 58) _ _ _ _ _ :: _) _ _); refine kNeqI _ _ _ _ .i64 (31) (0) true rfl rfl rfl rfl (by decide) ?_; go_frame))
    go_ret
    exact ⟨rfl, hM10.below⟩
  · replace hz := Lib.hid hz
    obtain ⟨v16, Hv16⟩ : ∃ n, Hid ((0 % m + m - a % m) % m = n) := ⟨_, Lib.hid rfl⟩
    have mv16 : v16 < M256 := by rw [← Hv16.out]; exact hm.mod _
    obtain ⟨v20, Hv20⟩ : ∃ n, Hid ((a + v16) % m = n) := ⟨_, Lib.hid rfl⟩
    have mv20 : v20 < M256 := by rw [← Hv20.out]; exact hm.mod _
    obtain ⟨v27, Hv27⟩ : ∃ n, Hid (a * a % m = n) := ⟨_, Lib.hid rfl⟩
    have mv27 : v27 < M256 := by rw [← Hv27.out]; exact hm.mod _
    obtain ⟨v31, Hv31⟩ : ∃ n, Hid (v16 * v16 % m = n) := ⟨_, Lib.hid rfl⟩
    have mv31 : v31 < M256 := by rw [← Hv31.out]; exact hm.mod _
    obtain ⟨v44, Hv44⟩ : ∃ n, Hid (a ^ n2 % m = n) := ⟨_, Lib.hid rfl⟩
    have mv44 : v44 < M256 := by rw [← Hv44.out]; exact hm.mod _
    obtain ⟨v48, Hv48⟩ : ∃ n, Hid (a * a % m = n) := ⟨_, Lib.hid rfl⟩
    have mv48 : v48 < M256 := by rw [← Hv48.out]; exact hm.mod _
    obtain ⟨v54, Hv54⟩ : ∃ n, Hid (a ^ (m - 2) % m = n) := ⟨_, Lib.hid rfl⟩
    have mv54 : v54 < M256 := by rw [← Hv54.out]; exact hm.mod _
    obtain ⟨v63, Hv63⟩ : ∃ n, Hid (a * v54 % m = n) := ⟨_, Lib.hid rfl⟩
    have mv63 : v63 < M256 := by rw [← Hv63.out]; exact hm.mod _
    obtain ⟨v70, Hv70⟩ : ∃ n, Hid (v16 * v54 % m = n) := ⟨_, Lib.hid rfl⟩
    have mv70 : v70 < M256 := by rw [← Hv70.out]; exact hm.mod _
    obtain ⟨v74, Hv74⟩ : ∃ n, Hid ((0 % m + m - n1 % m) % m = n) := ⟨_, Lib.hid rfl⟩
    have mv74 : v74 < M256 := by rw [← Hv74.out]; exact hm.mod _
    have F22 := Lib.hid (neqW_no (show v20 = 0 by rw [← Hv20.out, ← Hv16.out]; exact neg_zero hm.pos))
    have F32 := Lib.hid (neqW_no (show v27 = v31 by rw [← Hv27.out, ← Hv31.out]; exact neg_sq (by rw [← Hv16.out]; exact neg_zero hm.pos)))
    have F37 := Lib.hid (show decide (v16 < m) = true by rw [← Hv16.out]; exact decide_eq_true (Nat.mod_lt _ hm.pos))
    have F49 := Lib.hid (neqW_no (show v44 = v48 by rw [← Hv44.out, ← Hv48.out, H2.out, Nat.pow_two]))
    have F65 := Lib.hid (eqlW_yes (show v63 = n1 by rw [← Hv63.out, ← Hv54.out, H1.out]; exact inv_one hp hz.out))
    have F75 := Lib.hid (eqlW_yes (show v70 = v74 by rw [← Hv70.out, ← Hv54.out, ← Hv74.out, H1.out]; exact neg_inv hp hz.out Hv16.out.symm))
    have hM0 := mm_nil w
    (try unfold WV)
    go_enter Tryd.func9, Tryd.ntmps9
    go_wp2_with (first
      | ((with_reducible change wpList _ _ _ (Oper.mk (some 3) _ _ _ _ _ :: _) _ _); refine mmBox hM0 _ _ _ rfl rfl rfl ?_; intro w1 hM1; clear hM0; go_frame)
      | (go_at_call 10; refine (fieldAlive_any _ (hG.below hM1.below)).mono ?_; rintro e w2 ⟨rfl, hB2⟩; have hM2 := hM1.on hB2; clear hB2 hM1; (try unfold WV); go_frame)
      | (go_at_call 19; (with_reducible change Calls _ _ #[Value.bool true] _ _); refine (ring_true m _ (hR.below hM2.below)).mono ?_; rintro e w3 ⟨rfl, hR3, hB3⟩; have hM3 := hM2.new hR3 hB3; clear hB3 hR3 hM2; go_frame)
      | ((with_reducible change wpList _ _ _ (Oper.mk (some 14) _ _ _ _ _ :: _) _ _); refine kBuildW0 rfl rfl ?_; go_frame)
      | ((with_reducible change wpList _ _ _ (Oper.mk (some 15) _ _ _ _ _ :: _) _ _); refine kLoadRow _ _ _ _ _ _ rfl rfl rfl (hM3.get 1 rfl) Tryd.underlying25 rfl (info_WideC _) ?_; go_frame)
      | (go_at_call 23; (with_reducible change Calls _ _ #[Value.pointer (some ⟨w2.heap.size, 0, none⟩), Value.agg (wcells 0), Value.agg (wcells a)] _ _); refine (fSub_as hm (w2.heap.size) M256_pos ma Hv16.out _ (hM3.get 0 rfl)).mono ?_; rintro e w4 ⟨rfl, hB4⟩; have hM4 := hM3.on hB4; clear hB4 hM3; (try unfold WV); go_frame)
      | ((with_reducible change wpList _ _ _ (Oper.mk (some 6) _ _ _ _ _ :: _) _ _); refine mmAlloc hM4 _ _ rfl rfl zero_Wide ?_; intro w5 hM5; clear hM4; go_frame)
      | ((with_reducible change wpList _ _ _ (Oper.mk none (Op.store _ (Operand.tmp 6) (Operand.tmp 16)) _ _ _ _ :: _) _ _); refine mmStoreAt hM5 0 _ _ _ _ _ _ (wcells v16) rfl rfl rfl rfl rfl (info_WideC _) (by simp only [wcells_size]) (wcells_one _) ?_; intro w6 hM6; dsimp only [List.set] at hM6; clear hM5; go_frame))
    refine region_sym (fun _ => 0) [.val (.pointer (some ⟨w2.heap.size, 0, none⟩)), .val (.agg (wcells a)), .val (.agg (wcells v16)), .val (.agg (wcells v20)), .val (.agg (wcells 0)), .val (.bool false), .val (.bool false), .val (.pointer (some ⟨w2.heap.size, 0, none⟩)), .val (.agg (wcells a)), .val (.agg (wcells a)), .val (.agg (wcells v27)), .val (.pointer (some ⟨w2.heap.size, 0, none⟩)), .val (.agg (wcells v16)), .val (.agg (wcells v16)), .val (.agg (wcells v31)), .val (.bool false), .val (.bool false), .val (.bool false), .val (.pointer (some ⟨w2.heap.size, 0, none⟩)), .val (.agg (wcells v16)), .val (.bool true), .val (.bool false), .val (.bool false), .val (.bool false), .val (.pointer (some ⟨w2.heap.size, 0, none⟩)), .val (.agg (wcells a)), .val (.agg (wcells n2)), .val (.agg (wcells v44)), .val (.pointer (some ⟨w2.heap.size, 0, none⟩)), .val (.agg (wcells a)), .val (.agg (wcells a)), .val (.agg (wcells v48)), .val (.bool false), .val (.bool false)] [.val (.pointer (some ⟨w2.heap.size, 0, none⟩)), .val (.agg (wcells a)), .val (.agg (wcells v16)), .val (.agg (wcells v20)), .val (.agg (wcells 0)), .val (.bool false), .val (.bool false), .val (.pointer (some ⟨w2.heap.size, 0, none⟩)), .val (.agg (wcells a)), .val (.agg (wcells a)), .val (.agg (wcells v27)), .val (.pointer (some ⟨w2.heap.size, 0, none⟩)), .val (.agg (wcells v16)), .val (.agg (wcells v16)), .val (.agg (wcells v31)), .val (.bool false), .val (.bool false), .val (.bool false), .val (.pointer (some ⟨w2.heap.size, 0, none⟩)), .val (.agg (wcells v16)), .val (.bool true), .val (.bool false), .val (.bool false), .val (.bool false), .val (.pointer (some ⟨w2.heap.size, 0, none⟩)), .val (.agg (wcells a)), .val (.agg (wcells n2)), .val (.agg (wcells v44)), .val (.pointer (some ⟨w2.heap.size, 0, none⟩)), .val (.agg (wcells a)), .val (.agg (wcells a)), .val (.agg (wcells v48)), .val (.bool false), .val (.bool false)] (by kernel_rfl) (by kernel_rfl) rfl rfl (steps_all ⟨?_, ?_, ?_, ?_, ?_, ?_, ?_, ?_, ?_, ?_, ?_, ?_, ?_, ?_, ?_, ?_, ?_, ?_, ?_, ?_, ?_, ?_, ?_, ?_, ?_, ?_, ?_, ?_, ?_, ?_, ?_, ?_, ?_, ?_, trivial⟩) ?_
    · intro A W hsz hoth hbel hdep
      exact kMoveV _ (.pointer (some ⟨w2.heap.size, 0, none⟩)) rfl rfl ((hoth 5 (free2_of (by kernel_rfl))).trans rfl) (symV hbel hsz rfl rfl (show 17 < 78 by decide) (Below.refl _ _) rfl)
    · intro A W hsz hoth hbel hdep
      exact kLoadRow _ _ _ _ _ _ rfl rfl ((hoth 3 (free2_of (by kernel_rfl))).trans rfl) ((hM6.get 2 rfl).on hbel) Tryd.underlying25 rfl (info_WideC _) (symV hbel hsz rfl rfl (show 18 < 78 by decide) (Below.refl _ _) rfl)
    · intro A W hsz hoth hbel hdep
      exact kLoadRow _ _ _ _ _ _ rfl rfl ((hoth 6 (free2_of (by kernel_rfl))).trans rfl) ((hM6.get 0 rfl).on hbel) Tryd.underlying25 rfl (info_WideC _) (symV hbel hsz rfl rfl (show 19 < 78 by decide) (Below.refl _ _) rfl)
    · intro A W hsz hoth hbel hdep
      refine kCall3 21 _ _ _ _ _ _ _ rfl rfl (by kernel_rfl) (by have h := hdep ⟨0, .data⟩ (by simp) rfl; exact h) (by have h := hdep ⟨1, .data⟩ (by simp) rfl; exact h) (by have h := hdep ⟨2, .data⟩ (by simp) rfl; exact h) ?_
      refine (fAdd_as hm (w2.heap.size) ma mv16 Hv20.out.symm W ((hM6.get 1 rfl).on hbel)).mono ?_
      rintro e r ⟨rfl, hBc⟩
      exact ⟨_, rfl, (symV hbel hsz rfl rfl (show 20 < 78 by decide) hBc rfl)⟩
    · intro A W hsz hoth hbel hdep
      exact kBuildW0 rfl rfl (symV hbel hsz rfl rfl (show 21 < 78 by decide) (Below.refl _ _) rfl)
    · intro A W hsz hoth hbel hdep
      exact kNeqW _ _ _ (v20) (0) false rfl rfl (by have h := hdep ⟨3, .data⟩ (by simp) rfl; exact h) (by have h := hdep ⟨4, .data⟩ (by simp) rfl; exact h) (F22.out) (symV hbel hsz rfl rfl (show 22 < 78 by decide) (Below.refl _ _) rfl)
    · intro A W hsz hoth hbel hdep
      exact kMoveV _ (.bool false) rfl rfl (by have h := hdep ⟨5, .data⟩ (by simp) rfl; exact h) (symV hbel hsz rfl rfl (show 23 < 78 by decide) (Below.refl _ _) rfl)
    · intro A W hsz hoth hbel hdep
      exact kMoveV _ (.pointer (some ⟨w2.heap.size, 0, none⟩)) rfl (wanted_of rfl rfl (by have h := hdep ⟨6, .guard⟩ (by simp) rfl; exact h)) ((hoth 5 (free2_of (by kernel_rfl))).trans rfl) (symV hbel hsz rfl rfl (show 24 < 78 by decide) (Below.refl _ _) rfl)
    · intro A W hsz hoth hbel hdep
      exact kLoadRow _ _ _ _ _ _ rfl (wanted_of rfl rfl (by have h := hdep ⟨6, .guard⟩ (by simp) rfl; exact h)) ((hoth 3 (free2_of (by kernel_rfl))).trans rfl) ((hM6.get 2 rfl).on hbel) Tryd.underlying25 rfl (info_WideC _) (symV hbel hsz rfl rfl (show 25 < 78 by decide) (Below.refl _ _) rfl)
    · intro A W hsz hoth hbel hdep
      exact kLoadRow _ _ _ _ _ _ rfl (wanted_of rfl rfl (by have h := hdep ⟨6, .guard⟩ (by simp) rfl; exact h)) ((hoth 3 (free2_of (by kernel_rfl))).trans rfl) ((hM6.get 2 rfl).on hbel) Tryd.underlying25 rfl (info_WideC _) (symV hbel hsz rfl rfl (show 26 < 78 by decide) (Below.refl _ _) rfl)
    · intro A W hsz hoth hbel hdep
      refine kCall3 25 _ _ _ _ _ _ _ rfl (wanted_of rfl rfl (by have h := hdep ⟨6, .chain⟩ (by simp) rfl; exact h)) (by kernel_rfl) (by have h := hdep ⟨7, .data⟩ (by simp) rfl; exact h) (by have h := hdep ⟨8, .data⟩ (by simp) rfl; exact h) (by have h := hdep ⟨9, .data⟩ (by simp) rfl; exact h) ?_
      refine (fMul_as hm (w2.heap.size) ma ma Hv27.out W ((hM6.get 1 rfl).on hbel)).mono ?_
      rintro e r ⟨rfl, hBc⟩
      exact ⟨_, rfl, (symV hbel hsz rfl rfl (show 27 < 78 by decide) hBc rfl)⟩
    · intro A W hsz hoth hbel hdep
      exact kMoveV _ (.pointer (some ⟨w2.heap.size, 0, none⟩)) rfl (wanted_of rfl rfl (by have h := hdep ⟨6, .guard⟩ (by simp) rfl; exact h)) ((hoth 5 (free2_of (by kernel_rfl))).trans rfl) (symV hbel hsz rfl rfl (show 28 < 78 by decide) (Below.refl _ _) rfl)
    · intro A W hsz hoth hbel hdep
      exact kLoadRow _ _ _ _ _ _ rfl (wanted_of rfl rfl (by have h := hdep ⟨6, .guard⟩ (by simp) rfl; exact h)) ((hoth 6 (free2_of (by kernel_rfl))).trans rfl) ((hM6.get 0 rfl).on hbel) Tryd.underlying25 rfl (info_WideC _) (symV hbel hsz rfl rfl (show 29 < 78 by decide) (Below.refl _ _) rfl)
    · intro A W hsz hoth hbel hdep
      exact kLoadRow _ _ _ _ _ _ rfl (wanted_of rfl rfl (by have h := hdep ⟨6, .guard⟩ (by simp) rfl; exact h)) ((hoth 6 (free2_of (by kernel_rfl))).trans rfl) ((hM6.get 0 rfl).on hbel) Tryd.underlying25 rfl (info_WideC _) (symV hbel hsz rfl rfl (show 30 < 78 by decide) (Below.refl _ _) rfl)
    · intro A W hsz hoth hbel hdep
      refine kCall3 25 _ _ _ _ _ _ _ rfl (wanted_of rfl rfl (by have h := hdep ⟨6, .guard⟩ (by simp) rfl; exact h)) (by kernel_rfl) (by have h := hdep ⟨11, .data⟩ (by simp) rfl; exact h) (by have h := hdep ⟨12, .data⟩ (by simp) rfl; exact h) (by have h := hdep ⟨13, .data⟩ (by simp) rfl; exact h) ?_
      refine (fMul_as hm (w2.heap.size) mv16 mv16 Hv31.out W ((hM6.get 1 rfl).on hbel)).mono ?_
      rintro e r ⟨rfl, hBc⟩
      exact ⟨_, rfl, (symV hbel hsz rfl rfl (show 31 < 78 by decide) hBc rfl)⟩
    · intro A W hsz hoth hbel hdep
      exact kNeqW _ _ _ (v27) (v31) false rfl (wanted_of rfl rfl (by have h := hdep ⟨6, .guard⟩ (by simp) rfl; exact h)) (by have h := hdep ⟨10, .data⟩ (by simp) rfl; exact h) (by have h := hdep ⟨14, .data⟩ (by simp) rfl; exact h) (F32.out) (symV hbel hsz rfl rfl (show 32 < 78 by decide) (Below.refl _ _) rfl)
    · intro A W hsz hoth hbel hdep
      exact kPick _ _ _ false (.bool false) rfl rfl (by have h := hdep ⟨6, .data⟩ (by simp) rfl; exact h) (by have h := hdep ⟨15, .data⟩ (by simp) rfl; exact h) (symV hbel hsz rfl rfl (show 33 < 78 by decide) (Below.refl _ _) rfl)
    · intro A W hsz hoth hbel hdep
      exact kMoveV _ (.bool false) rfl rfl (by have h := hdep ⟨16, .data⟩ (by simp) rfl; exact h) (symV hbel hsz rfl rfl (show 34 < 78 by decide) (Below.refl _ _) rfl)
    · intro A W hsz hoth hbel hdep
      exact kMoveV _ (.pointer (some ⟨w2.heap.size, 0, none⟩)) rfl (wanted_of rfl rfl (by have h := hdep ⟨17, .guard⟩ (by simp) rfl; exact h)) ((hoth 5 (free2_of (by kernel_rfl))).trans rfl) (symV hbel hsz rfl rfl (show 35 < 78 by decide) (Below.refl _ _) rfl)
    · intro A W hsz hoth hbel hdep
      exact kLoadRow _ _ _ _ _ _ rfl (wanted_of rfl rfl (by have h := hdep ⟨17, .guard⟩ (by simp) rfl; exact h)) ((hoth 6 (free2_of (by kernel_rfl))).trans rfl) ((hM6.get 0 rfl).on hbel) Tryd.underlying25 rfl (info_WideC _) (symV hbel hsz rfl rfl (show 36 < 78 by decide) (Below.refl _ _) rfl)
    · intro A W hsz hoth hbel hdep
      refine kCall2 27 _ _ _ _ _ rfl (wanted_of rfl rfl (by have h := hdep ⟨17, .chain⟩ (by simp) rfl; exact h)) (by kernel_rfl) (by have h := hdep ⟨18, .data⟩ (by simp) rfl; exact h) (by have h := hdep ⟨19, .data⟩ (by simp) rfl; exact h) ?_
      refine (fIn_as hm (w2.heap.size) mv16 F37.out W ((hM6.get 1 rfl).on hbel)).mono ?_
      rintro e r ⟨rfl, hBc⟩
      exact ⟨_, rfl, (symV hbel hsz rfl rfl (show 37 < 78 by decide) hBc rfl)⟩
    · intro A W hsz hoth hbel hdep
      exact kNot _ _ true rfl (wanted_of rfl rfl (by have h := hdep ⟨17, .guard⟩ (by simp) rfl; exact h)) (by have h := hdep ⟨20, .data⟩ (by simp) rfl; exact h) (symV hbel hsz rfl rfl (show 38 < 78 by decide) (Below.refl _ _) rfl)
    · intro A W hsz hoth hbel hdep
      exact kPick _ _ _ false (.bool false) rfl rfl (by have h := hdep ⟨17, .data⟩ (by simp) rfl; exact h) (by have h := hdep ⟨21, .data⟩ (by simp) rfl; exact h) (symV hbel hsz rfl rfl (show 39 < 78 by decide) (Below.refl _ _) rfl)
    · intro A W hsz hoth hbel hdep
      exact kMoveV _ (.bool false) rfl rfl (by have h := hdep ⟨22, .data⟩ (by simp) rfl; exact h) (symV hbel hsz rfl rfl (show 40 < 78 by decide) (Below.refl _ _) rfl)
    · intro A W hsz hoth hbel hdep
      exact kMoveV _ (.pointer (some ⟨w2.heap.size, 0, none⟩)) rfl (wanted_of rfl rfl (by have h := hdep ⟨23, .guard⟩ (by simp) rfl; exact h)) ((hoth 5 (free2_of (by kernel_rfl))).trans rfl) (symV hbel hsz rfl rfl (show 41 < 78 by decide) (Below.refl _ _) rfl)
    · intro A W hsz hoth hbel hdep
      exact kLoadRow _ _ _ _ _ _ rfl (wanted_of rfl rfl (by have h := hdep ⟨23, .guard⟩ (by simp) rfl; exact h)) ((hoth 3 (free2_of (by kernel_rfl))).trans rfl) ((hM6.get 2 rfl).on hbel) Tryd.underlying25 rfl (info_WideC _) (symV hbel hsz rfl rfl (show 42 < 78 by decide) (Below.refl _ _) rfl)
    · intro A W hsz hoth hbel hdep
      refine kCall1 16 _ _ _ rfl (wanted_of rfl rfl (by have h := hdep ⟨23, .chain⟩ (by simp) rfl; exact h)) (by kernel_rfl) rfl ?_
      refine (wOf_lit n2 2 h2 E2.out W).mono ?_
      rintro e r ⟨rfl, hBc⟩
      exact ⟨_, rfl, (symV hbel hsz rfl rfl (show 43 < 78 by decide) hBc rfl)⟩
    · intro A W hsz hoth hbel hdep
      refine kCall3 32 _ _ _ _ _ _ _ rfl (wanted_of rfl rfl (by have h := hdep ⟨23, .guard⟩ (by simp) rfl; exact h)) (by kernel_rfl) (by have h := hdep ⟨24, .data⟩ (by simp) rfl; exact h) (by have h := hdep ⟨25, .data⟩ (by simp) rfl; exact h) (by have h := hdep ⟨26, .data⟩ (by simp) rfl; exact h) ?_
      refine (fPow_as hm (w2.heap.size) ma mn2 Hv44.out W ((hM6.get 1 rfl).on hbel)).mono ?_
      rintro e r ⟨rfl, hBc⟩
      exact ⟨_, rfl, (symV hbel hsz rfl rfl (show 44 < 78 by decide) hBc rfl)⟩
    · intro A W hsz hoth hbel hdep
      exact kMoveV _ (.pointer (some ⟨w2.heap.size, 0, none⟩)) rfl (wanted_of rfl rfl (by have h := hdep ⟨23, .guard⟩ (by simp) rfl; exact h)) ((hoth 5 (free2_of (by kernel_rfl))).trans rfl) (symV hbel hsz rfl rfl (show 45 < 78 by decide) (Below.refl _ _) rfl)
    · intro A W hsz hoth hbel hdep
      exact kLoadRow _ _ _ _ _ _ rfl (wanted_of rfl rfl (by have h := hdep ⟨23, .guard⟩ (by simp) rfl; exact h)) ((hoth 3 (free2_of (by kernel_rfl))).trans rfl) ((hM6.get 2 rfl).on hbel) Tryd.underlying25 rfl (info_WideC _) (symV hbel hsz rfl rfl (show 46 < 78 by decide) (Below.refl _ _) rfl)
    · intro A W hsz hoth hbel hdep
      exact kLoadRow _ _ _ _ _ _ rfl (wanted_of rfl rfl (by have h := hdep ⟨23, .guard⟩ (by simp) rfl; exact h)) ((hoth 3 (free2_of (by kernel_rfl))).trans rfl) ((hM6.get 2 rfl).on hbel) Tryd.underlying25 rfl (info_WideC _) (symV hbel hsz rfl rfl (show 47 < 78 by decide) (Below.refl _ _) rfl)
    · intro A W hsz hoth hbel hdep
      refine kCall3 25 _ _ _ _ _ _ _ rfl (wanted_of rfl rfl (by have h := hdep ⟨23, .guard⟩ (by simp) rfl; exact h)) (by kernel_rfl) (by have h := hdep ⟨28, .data⟩ (by simp) rfl; exact h) (by have h := hdep ⟨29, .data⟩ (by simp) rfl; exact h) (by have h := hdep ⟨30, .data⟩ (by simp) rfl; exact h) ?_
      refine (fMul_as hm (w2.heap.size) ma ma Hv48.out W ((hM6.get 1 rfl).on hbel)).mono ?_
      rintro e r ⟨rfl, hBc⟩
      exact ⟨_, rfl, (symV hbel hsz rfl rfl (show 48 < 78 by decide) hBc rfl)⟩
    · intro A W hsz hoth hbel hdep
      exact kNeqW _ _ _ (v44) (v48) false rfl (wanted_of rfl rfl (by have h := hdep ⟨23, .guard⟩ (by simp) rfl; exact h)) (by have h := hdep ⟨27, .data⟩ (by simp) rfl; exact h) (by have h := hdep ⟨31, .data⟩ (by simp) rfl; exact h) (F49.out) (symV hbel hsz rfl rfl (show 49 < 78 by decide) (Below.refl _ _) rfl)
    · intro A W hsz hoth hbel hdep
      exact kPick _ _ _ false (.bool false) rfl rfl (by have h := hdep ⟨23, .data⟩ (by simp) rfl; exact h) (by have h := hdep ⟨32, .data⟩ (by simp) rfl; exact h) (symV hbel hsz rfl rfl (show 50 < 78 by decide) (Below.refl _ _) rfl)
    intro w7 hB7
    dsimp only [AllV]
    dsimp only [putAll]
    go_frame
    have hM7 := hM6.on hB7
    clear hB7 hM6
    go_wp2_with (first
      | ((with_reducible change wpList _ _ _ (Oper.mk (some 53) _ _ _ _ _ :: _) _ _); refine kLoadRow _ _ _ _ _ _ rfl rfl rfl (hM7.get 2 rfl) Tryd.underlying25 rfl (info_WideC _) ?_; go_frame)
      | (go_at_call 12; (with_reducible change Calls _ _ #[Value.pointer (some ⟨w2.heap.size, 0, none⟩), Value.agg (wcells a)] _ _); refine (fInv_as hm (w2.heap.size) ma hz.out Hv54.out _ (hM7.get 1 rfl)).mono ?_; rintro e w8 ⟨rfl, hB8⟩; have hM8 := hM7.on hB8; clear hB8 hM7; (try unfold WV); go_frame)
      | ((with_reducible change wpList _ _ _ (Oper.mk (some 7) _ _ _ _ _ :: _) _ _); refine mmAlloc hM8 _ _ rfl rfl zero_Wide ?_; intro w9 hM9; clear hM8; go_frame)
      | ((with_reducible change wpList _ _ _ (Oper.mk none (Op.store _ (Operand.tmp 7) (Operand.tmp 55)) _ _ _ _ :: _) _ _); refine mmStoreAt hM9 0 _ _ _ _ _ _ (wcells v54) rfl rfl rfl rfl rfl (info_WideC _) (by simp only [wcells_size]) (wcells_one _) ?_; intro w10 hM10; dsimp only [List.set] at hM10; clear hM9; go_frame)
      | ((with_reducible change wpList _ _ _ (Oper.mk (some 58) _ _ _ _ _ :: _) _ _); refine kNeqI _ _ _ _ .i64 (0) (0) false rfl rfl rfl rfl (by decide) ?_; go_frame)
      | ((with_reducible change wpList _ _ _ (Oper.mk (some 61) _ _ _ _ _ :: _) _ _); refine kLoadRow _ _ _ _ _ _ rfl rfl rfl (hM10.get 3 rfl) Tryd.underlying25 rfl (info_WideC _) ?_; go_frame)
      | ((with_reducible change wpList _ _ _ (Oper.mk (some 62) _ _ _ _ _ :: _) _ _); refine kLoadRow _ _ _ _ _ _ rfl rfl rfl (hM10.get 0 rfl) Tryd.underlying25 rfl (info_WideC _) ?_; go_frame)
      | (go_at_call 25; (with_reducible change Calls _ _ #[Value.pointer (some ⟨w2.heap.size, 0, none⟩), Value.agg (wcells a), Value.agg (wcells v54)] _ _); refine (fMul_as hm (w2.heap.size) ma mv54 Hv63.out _ (hM10.get 2 rfl)).mono ?_; rintro e w11 ⟨rfl, hB11⟩; have hM11 := hM10.on hB11; clear hB11 hM10; (try unfold WV); go_frame)
      | (go_at_call 16; (with_reducible change Calls _ _ #[Value.int .u64 (1)] _ _); refine (wOf_lit n1 1 h1 E1.out _).mono ?_; rintro e w12 ⟨rfl, hB12⟩; have hM12 := hM11.on hB12; clear hB12 hM11; (try unfold WV); go_frame)
      | ((with_reducible change wpList _ _ _ (Oper.mk (some 65) _ _ _ _ _ :: _) _ _); refine kEqlW _ _ _ (v63) (n1) true rfl rfl rfl rfl (F65.out) ?_; go_frame)
      | ((with_reducible change wpList _ _ _ (Oper.mk (some 68) _ _ _ _ _ :: _) _ _); refine kLoadRow _ _ _ _ _ _ rfl rfl rfl (hM12.get 1 rfl) Tryd.underlying25 rfl (info_WideC _) ?_; go_frame)
      | ((with_reducible change wpList _ _ _ (Oper.mk (some 69) _ _ _ _ _ :: _) _ _); refine kLoadRow _ _ _ _ _ _ rfl rfl rfl (hM12.get 0 rfl) Tryd.underlying25 rfl (info_WideC _) ?_; go_frame)
      | (go_at_call 25; (with_reducible change Calls _ _ #[Value.pointer (some ⟨w2.heap.size, 0, none⟩), Value.agg (wcells v16), Value.agg (wcells v54)] _ _); refine (fMul_as hm (w2.heap.size) mv16 mv54 Hv70.out _ (hM12.get 2 rfl)).mono ?_; rintro e w13 ⟨rfl, hB13⟩; have hM13 := hM12.on hB13; clear hB13 hM12; (try unfold WV); go_frame)
      | ((with_reducible change wpList _ _ _ (Oper.mk (some 72) _ _ _ _ _ :: _) _ _); refine kBuildW0 rfl rfl ?_; go_frame)
      | (go_at_call 16; (with_reducible change Calls _ _ #[Value.int .u64 (1)] _ _); refine (wOf_lit n1 1 h1 E1.out _).mono ?_; rintro e w14 ⟨rfl, hB14⟩; have hM14 := hM13.on hB14; clear hB14 hM13; (try unfold WV); go_frame)
      | (go_at_call 23; (with_reducible change Calls _ _ #[Value.pointer (some ⟨w2.heap.size, 0, none⟩), Value.agg (wcells 0), Value.agg (wcells n1)] _ _); refine (fSub_as hm (w2.heap.size) M256_pos mn1 Hv74.out _ (hM14.get 2 rfl)).mono ?_; rintro e w15 ⟨rfl, hB15⟩; have hM15 := hM14.on hB15; clear hB15 hM14; (try unfold WV); go_frame)
      | ((with_reducible change wpList _ _ _ (Oper.mk (some 75) _ _ _ _ _ :: _) _ _); refine kEqlW _ _ _ (v70) (v74) true rfl rfl rfl rfl (F75.out) ?_; go_frame))
    go_ret
    exact ⟨rfl, hM15.below⟩
set_option maxRecDepth 100000 in
set_option maxHeartbeats 8000000 in
theorem FieldNegs_false (a : Nat) (ma : a < M256) (w : World) (hG : Glob 0 PP w) (hN : Glob 1 NN w) :
    Calls Tryd.prog 9 #[.bool false, WV a] w fun e w' => e = .returned (.bool true) ∧ Below w.heap.size w w' := by
  obtain ⟨m, Hm⟩ : ∃ m, Hid (m = NN) := ⟨_, Lib.hid rfl⟩
  have hm : Modu m := by rw [Hm.out]; exact modu_N
  have hp : IsPrime m := by rw [Hm.out]; exact NN_prime
  have hR : Glob 1 m w := by rw [Hm.out]; exact hN
  obtain ⟨n1, H1⟩ : ∃ n, Hid (n = 1) := ⟨1, Lib.hid rfl⟩
  have h1 : n1 < 18446744073709551616 := by rw [H1.out]; decide
  have mn1 : n1 < M256 := by rw [H1.out]; decide
  have E1 : (1 : Int) = (n1 : Int) := by rw [H1.out]; rfl
  replace E1 := Lib.hid E1
  obtain ⟨n2, H2⟩ : ∃ n, Hid (n = 2) := ⟨2, Lib.hid rfl⟩
  have h2 : n2 < 18446744073709551616 := by rw [H2.out]; decide
  have mn2 : n2 < M256 := by rw [H2.out]; decide
  have E2 : (2 : Int) = (n2 : Int) := by rw [H2.out]; rfl
  replace E2 := Lib.hid E2
  by_cases hz : a % m = 0
  · replace hz := Lib.hid hz
    obtain ⟨v16, Hv16⟩ : ∃ n, Hid ((0 % m + m - a % m) % m = n) := ⟨_, Lib.hid rfl⟩
    have mv16 : v16 < M256 := by rw [← Hv16.out]; exact hm.mod _
    obtain ⟨v20, Hv20⟩ : ∃ n, Hid ((a + v16) % m = n) := ⟨_, Lib.hid rfl⟩
    have mv20 : v20 < M256 := by rw [← Hv20.out]; exact hm.mod _
    obtain ⟨v27, Hv27⟩ : ∃ n, Hid (a * a % m = n) := ⟨_, Lib.hid rfl⟩
    have mv27 : v27 < M256 := by rw [← Hv27.out]; exact hm.mod _
    obtain ⟨v31, Hv31⟩ : ∃ n, Hid (v16 * v16 % m = n) := ⟨_, Lib.hid rfl⟩
    have mv31 : v31 < M256 := by rw [← Hv31.out]; exact hm.mod _
    obtain ⟨v44, Hv44⟩ : ∃ n, Hid (a ^ n2 % m = n) := ⟨_, Lib.hid rfl⟩
    have mv44 : v44 < M256 := by rw [← Hv44.out]; exact hm.mod _
    obtain ⟨v48, Hv48⟩ : ∃ n, Hid (a * a % m = n) := ⟨_, Lib.hid rfl⟩
    have mv48 : v48 < M256 := by rw [← Hv48.out]; exact hm.mod _
    have F22 := Lib.hid (neqW_no (show v20 = 0 by rw [← Hv20.out, ← Hv16.out]; exact neg_zero hm.pos))
    have F32 := Lib.hid (neqW_no (show v27 = v31 by rw [← Hv27.out, ← Hv31.out]; exact neg_sq (by rw [← Hv16.out]; exact neg_zero hm.pos)))
    have F37 := Lib.hid (show decide (v16 < m) = true by rw [← Hv16.out]; exact decide_eq_true (Nat.mod_lt _ hm.pos))
    have F49 := Lib.hid (neqW_no (show v44 = v48 by rw [← Hv44.out, ← Hv48.out, H2.out, Nat.pow_two]))
    have hM0 := mm_nil w
    (try unfold WV)
    go_enter Tryd.func9, Tryd.ntmps9
    go_wp2_with (first
      | ((with_reducible change wpList _ _ _ (Oper.mk (some 3) _ _ _ _ _ :: _) _ _); refine mmBox hM0 _ _ _ rfl rfl rfl ?_; intro w1 hM1; clear hM0; go_frame)
      | (go_at_call 10; refine (fieldAlive_any _ (hG.below hM1.below)).mono ?_; rintro e w2 ⟨rfl, hB2⟩; have hM2 := hM1.on hB2; clear hB2 hM1; (try unfold WV); go_frame)
      | (go_at_call 19; (with_reducible change Calls _ _ #[Value.bool false] _ _); refine (ring_false m _ (hR.below hM2.below)).mono ?_; rintro e w3 ⟨rfl, hR3, hB3⟩; have hM3 := hM2.new hR3 hB3; clear hB3 hR3 hM2; go_frame)
      | ((with_reducible change wpList _ _ _ (Oper.mk (some 14) _ _ _ _ _ :: _) _ _); refine kBuildW0 rfl rfl ?_; go_frame)
      | ((with_reducible change wpList _ _ _ (Oper.mk (some 15) _ _ _ _ _ :: _) _ _); refine kLoadRow _ _ _ _ _ _ rfl rfl rfl (hM3.get 1 rfl) Tryd.underlying25 rfl (info_WideC _) ?_; go_frame)
      | (go_at_call 23; (with_reducible change Calls _ _ #[Value.pointer (some ⟨w2.heap.size, 0, none⟩), Value.agg (wcells 0), Value.agg (wcells a)] _ _); refine (fSub_as hm (w2.heap.size) M256_pos ma Hv16.out _ (hM3.get 0 rfl)).mono ?_; rintro e w4 ⟨rfl, hB4⟩; have hM4 := hM3.on hB4; clear hB4 hM3; (try unfold WV); go_frame)
      | ((with_reducible change wpList _ _ _ (Oper.mk (some 6) _ _ _ _ _ :: _) _ _); refine mmAlloc hM4 _ _ rfl rfl zero_Wide ?_; intro w5 hM5; clear hM4; go_frame)
      | ((with_reducible change wpList _ _ _ (Oper.mk none (Op.store _ (Operand.tmp 6) (Operand.tmp 16)) _ _ _ _ :: _) _ _); refine mmStoreAt hM5 0 _ _ _ _ _ _ (wcells v16) rfl rfl rfl rfl rfl (info_WideC _) (by simp only [wcells_size]) (wcells_one _) ?_; intro w6 hM6; dsimp only [List.set] at hM6; clear hM5; go_frame))
    refine region_sym (fun _ => 0) [.val (.pointer (some ⟨w2.heap.size, 0, none⟩)), .val (.agg (wcells a)), .val (.agg (wcells v16)), .val (.agg (wcells v20)), .val (.agg (wcells 0)), .val (.bool false), .val (.bool false), .val (.pointer (some ⟨w2.heap.size, 0, none⟩)), .val (.agg (wcells a)), .val (.agg (wcells a)), .val (.agg (wcells v27)), .val (.pointer (some ⟨w2.heap.size, 0, none⟩)), .val (.agg (wcells v16)), .val (.agg (wcells v16)), .val (.agg (wcells v31)), .val (.bool false), .val (.bool false), .val (.bool false), .val (.pointer (some ⟨w2.heap.size, 0, none⟩)), .val (.agg (wcells v16)), .val (.bool true), .val (.bool false), .val (.bool false), .val (.bool false), .val (.pointer (some ⟨w2.heap.size, 0, none⟩)), .val (.agg (wcells a)), .val (.agg (wcells n2)), .val (.agg (wcells v44)), .val (.pointer (some ⟨w2.heap.size, 0, none⟩)), .val (.agg (wcells a)), .val (.agg (wcells a)), .val (.agg (wcells v48)), .val (.bool false), .val (.bool false)] [.val (.pointer (some ⟨w2.heap.size, 0, none⟩)), .val (.agg (wcells a)), .val (.agg (wcells v16)), .val (.agg (wcells v20)), .val (.agg (wcells 0)), .val (.bool false), .val (.bool false), .val (.pointer (some ⟨w2.heap.size, 0, none⟩)), .val (.agg (wcells a)), .val (.agg (wcells a)), .val (.agg (wcells v27)), .val (.pointer (some ⟨w2.heap.size, 0, none⟩)), .val (.agg (wcells v16)), .val (.agg (wcells v16)), .val (.agg (wcells v31)), .val (.bool false), .val (.bool false), .val (.bool false), .val (.pointer (some ⟨w2.heap.size, 0, none⟩)), .val (.agg (wcells v16)), .val (.bool true), .val (.bool false), .val (.bool false), .val (.bool false), .val (.pointer (some ⟨w2.heap.size, 0, none⟩)), .val (.agg (wcells a)), .val (.agg (wcells n2)), .val (.agg (wcells v44)), .val (.pointer (some ⟨w2.heap.size, 0, none⟩)), .val (.agg (wcells a)), .val (.agg (wcells a)), .val (.agg (wcells v48)), .val (.bool false), .val (.bool false)] (by kernel_rfl) (by kernel_rfl) rfl rfl (steps_all ⟨?_, ?_, ?_, ?_, ?_, ?_, ?_, ?_, ?_, ?_, ?_, ?_, ?_, ?_, ?_, ?_, ?_, ?_, ?_, ?_, ?_, ?_, ?_, ?_, ?_, ?_, ?_, ?_, ?_, ?_, ?_, ?_, ?_, ?_, trivial⟩) ?_
    · intro A W hsz hoth hbel hdep
      exact kMoveV _ (.pointer (some ⟨w2.heap.size, 0, none⟩)) rfl rfl ((hoth 5 (free2_of (by kernel_rfl))).trans rfl) (symV hbel hsz rfl rfl (show 17 < 78 by decide) (Below.refl _ _) rfl)
    · intro A W hsz hoth hbel hdep
      exact kLoadRow _ _ _ _ _ _ rfl rfl ((hoth 3 (free2_of (by kernel_rfl))).trans rfl) ((hM6.get 2 rfl).on hbel) Tryd.underlying25 rfl (info_WideC _) (symV hbel hsz rfl rfl (show 18 < 78 by decide) (Below.refl _ _) rfl)
    · intro A W hsz hoth hbel hdep
      exact kLoadRow _ _ _ _ _ _ rfl rfl ((hoth 6 (free2_of (by kernel_rfl))).trans rfl) ((hM6.get 0 rfl).on hbel) Tryd.underlying25 rfl (info_WideC _) (symV hbel hsz rfl rfl (show 19 < 78 by decide) (Below.refl _ _) rfl)
    · intro A W hsz hoth hbel hdep
      refine kCall3 21 _ _ _ _ _ _ _ rfl rfl (by kernel_rfl) (by have h := hdep ⟨0, .data⟩ (by simp) rfl; exact h) (by have h := hdep ⟨1, .data⟩ (by simp) rfl; exact h) (by have h := hdep ⟨2, .data⟩ (by simp) rfl; exact h) ?_
      refine (fAdd_as hm (w2.heap.size) ma mv16 Hv20.out.symm W ((hM6.get 1 rfl).on hbel)).mono ?_
      rintro e r ⟨rfl, hBc⟩
      exact ⟨_, rfl, (symV hbel hsz rfl rfl (show 20 < 78 by decide) hBc rfl)⟩
    · intro A W hsz hoth hbel hdep
      exact kBuildW0 rfl rfl (symV hbel hsz rfl rfl (show 21 < 78 by decide) (Below.refl _ _) rfl)
    · intro A W hsz hoth hbel hdep
      exact kNeqW _ _ _ (v20) (0) false rfl rfl (by have h := hdep ⟨3, .data⟩ (by simp) rfl; exact h) (by have h := hdep ⟨4, .data⟩ (by simp) rfl; exact h) (F22.out) (symV hbel hsz rfl rfl (show 22 < 78 by decide) (Below.refl _ _) rfl)
    · intro A W hsz hoth hbel hdep
      exact kMoveV _ (.bool false) rfl rfl (by have h := hdep ⟨5, .data⟩ (by simp) rfl; exact h) (symV hbel hsz rfl rfl (show 23 < 78 by decide) (Below.refl _ _) rfl)
    · intro A W hsz hoth hbel hdep
      exact kMoveV _ (.pointer (some ⟨w2.heap.size, 0, none⟩)) rfl (wanted_of rfl rfl (by have h := hdep ⟨6, .guard⟩ (by simp) rfl; exact h)) ((hoth 5 (free2_of (by kernel_rfl))).trans rfl) (symV hbel hsz rfl rfl (show 24 < 78 by decide) (Below.refl _ _) rfl)
    · intro A W hsz hoth hbel hdep
      exact kLoadRow _ _ _ _ _ _ rfl (wanted_of rfl rfl (by have h := hdep ⟨6, .guard⟩ (by simp) rfl; exact h)) ((hoth 3 (free2_of (by kernel_rfl))).trans rfl) ((hM6.get 2 rfl).on hbel) Tryd.underlying25 rfl (info_WideC _) (symV hbel hsz rfl rfl (show 25 < 78 by decide) (Below.refl _ _) rfl)
    · intro A W hsz hoth hbel hdep
      exact kLoadRow _ _ _ _ _ _ rfl (wanted_of rfl rfl (by have h := hdep ⟨6, .guard⟩ (by simp) rfl; exact h)) ((hoth 3 (free2_of (by kernel_rfl))).trans rfl) ((hM6.get 2 rfl).on hbel) Tryd.underlying25 rfl (info_WideC _) (symV hbel hsz rfl rfl (show 26 < 78 by decide) (Below.refl _ _) rfl)
    · intro A W hsz hoth hbel hdep
      refine kCall3 25 _ _ _ _ _ _ _ rfl (wanted_of rfl rfl (by have h := hdep ⟨6, .chain⟩ (by simp) rfl; exact h)) (by kernel_rfl) (by have h := hdep ⟨7, .data⟩ (by simp) rfl; exact h) (by have h := hdep ⟨8, .data⟩ (by simp) rfl; exact h) (by have h := hdep ⟨9, .data⟩ (by simp) rfl; exact h) ?_
      refine (fMul_as hm (w2.heap.size) ma ma Hv27.out W ((hM6.get 1 rfl).on hbel)).mono ?_
      rintro e r ⟨rfl, hBc⟩
      exact ⟨_, rfl, (symV hbel hsz rfl rfl (show 27 < 78 by decide) hBc rfl)⟩
    · intro A W hsz hoth hbel hdep
      exact kMoveV _ (.pointer (some ⟨w2.heap.size, 0, none⟩)) rfl (wanted_of rfl rfl (by have h := hdep ⟨6, .guard⟩ (by simp) rfl; exact h)) ((hoth 5 (free2_of (by kernel_rfl))).trans rfl) (symV hbel hsz rfl rfl (show 28 < 78 by decide) (Below.refl _ _) rfl)
    · intro A W hsz hoth hbel hdep
      exact kLoadRow _ _ _ _ _ _ rfl (wanted_of rfl rfl (by have h := hdep ⟨6, .guard⟩ (by simp) rfl; exact h)) ((hoth 6 (free2_of (by kernel_rfl))).trans rfl) ((hM6.get 0 rfl).on hbel) Tryd.underlying25 rfl (info_WideC _) (symV hbel hsz rfl rfl (show 29 < 78 by decide) (Below.refl _ _) rfl)
    · intro A W hsz hoth hbel hdep
      exact kLoadRow _ _ _ _ _ _ rfl (wanted_of rfl rfl (by have h := hdep ⟨6, .guard⟩ (by simp) rfl; exact h)) ((hoth 6 (free2_of (by kernel_rfl))).trans rfl) ((hM6.get 0 rfl).on hbel) Tryd.underlying25 rfl (info_WideC _) (symV hbel hsz rfl rfl (show 30 < 78 by decide) (Below.refl _ _) rfl)
    · intro A W hsz hoth hbel hdep
      refine kCall3 25 _ _ _ _ _ _ _ rfl (wanted_of rfl rfl (by have h := hdep ⟨6, .guard⟩ (by simp) rfl; exact h)) (by kernel_rfl) (by have h := hdep ⟨11, .data⟩ (by simp) rfl; exact h) (by have h := hdep ⟨12, .data⟩ (by simp) rfl; exact h) (by have h := hdep ⟨13, .data⟩ (by simp) rfl; exact h) ?_
      refine (fMul_as hm (w2.heap.size) mv16 mv16 Hv31.out W ((hM6.get 1 rfl).on hbel)).mono ?_
      rintro e r ⟨rfl, hBc⟩
      exact ⟨_, rfl, (symV hbel hsz rfl rfl (show 31 < 78 by decide) hBc rfl)⟩
    · intro A W hsz hoth hbel hdep
      exact kNeqW _ _ _ (v27) (v31) false rfl (wanted_of rfl rfl (by have h := hdep ⟨6, .guard⟩ (by simp) rfl; exact h)) (by have h := hdep ⟨10, .data⟩ (by simp) rfl; exact h) (by have h := hdep ⟨14, .data⟩ (by simp) rfl; exact h) (F32.out) (symV hbel hsz rfl rfl (show 32 < 78 by decide) (Below.refl _ _) rfl)
    · intro A W hsz hoth hbel hdep
      exact kPick _ _ _ false (.bool false) rfl rfl (by have h := hdep ⟨6, .data⟩ (by simp) rfl; exact h) (by have h := hdep ⟨15, .data⟩ (by simp) rfl; exact h) (symV hbel hsz rfl rfl (show 33 < 78 by decide) (Below.refl _ _) rfl)
    · intro A W hsz hoth hbel hdep
      exact kMoveV _ (.bool false) rfl rfl (by have h := hdep ⟨16, .data⟩ (by simp) rfl; exact h) (symV hbel hsz rfl rfl (show 34 < 78 by decide) (Below.refl _ _) rfl)
    · intro A W hsz hoth hbel hdep
      exact kMoveV _ (.pointer (some ⟨w2.heap.size, 0, none⟩)) rfl (wanted_of rfl rfl (by have h := hdep ⟨17, .guard⟩ (by simp) rfl; exact h)) ((hoth 5 (free2_of (by kernel_rfl))).trans rfl) (symV hbel hsz rfl rfl (show 35 < 78 by decide) (Below.refl _ _) rfl)
    · intro A W hsz hoth hbel hdep
      exact kLoadRow _ _ _ _ _ _ rfl (wanted_of rfl rfl (by have h := hdep ⟨17, .guard⟩ (by simp) rfl; exact h)) ((hoth 6 (free2_of (by kernel_rfl))).trans rfl) ((hM6.get 0 rfl).on hbel) Tryd.underlying25 rfl (info_WideC _) (symV hbel hsz rfl rfl (show 36 < 78 by decide) (Below.refl _ _) rfl)
    · intro A W hsz hoth hbel hdep
      refine kCall2 27 _ _ _ _ _ rfl (wanted_of rfl rfl (by have h := hdep ⟨17, .chain⟩ (by simp) rfl; exact h)) (by kernel_rfl) (by have h := hdep ⟨18, .data⟩ (by simp) rfl; exact h) (by have h := hdep ⟨19, .data⟩ (by simp) rfl; exact h) ?_
      refine (fIn_as hm (w2.heap.size) mv16 F37.out W ((hM6.get 1 rfl).on hbel)).mono ?_
      rintro e r ⟨rfl, hBc⟩
      exact ⟨_, rfl, (symV hbel hsz rfl rfl (show 37 < 78 by decide) hBc rfl)⟩
    · intro A W hsz hoth hbel hdep
      exact kNot _ _ true rfl (wanted_of rfl rfl (by have h := hdep ⟨17, .guard⟩ (by simp) rfl; exact h)) (by have h := hdep ⟨20, .data⟩ (by simp) rfl; exact h) (symV hbel hsz rfl rfl (show 38 < 78 by decide) (Below.refl _ _) rfl)
    · intro A W hsz hoth hbel hdep
      exact kPick _ _ _ false (.bool false) rfl rfl (by have h := hdep ⟨17, .data⟩ (by simp) rfl; exact h) (by have h := hdep ⟨21, .data⟩ (by simp) rfl; exact h) (symV hbel hsz rfl rfl (show 39 < 78 by decide) (Below.refl _ _) rfl)
    · intro A W hsz hoth hbel hdep
      exact kMoveV _ (.bool false) rfl rfl (by have h := hdep ⟨22, .data⟩ (by simp) rfl; exact h) (symV hbel hsz rfl rfl (show 40 < 78 by decide) (Below.refl _ _) rfl)
    · intro A W hsz hoth hbel hdep
      exact kMoveV _ (.pointer (some ⟨w2.heap.size, 0, none⟩)) rfl (wanted_of rfl rfl (by have h := hdep ⟨23, .guard⟩ (by simp) rfl; exact h)) ((hoth 5 (free2_of (by kernel_rfl))).trans rfl) (symV hbel hsz rfl rfl (show 41 < 78 by decide) (Below.refl _ _) rfl)
    · intro A W hsz hoth hbel hdep
      exact kLoadRow _ _ _ _ _ _ rfl (wanted_of rfl rfl (by have h := hdep ⟨23, .guard⟩ (by simp) rfl; exact h)) ((hoth 3 (free2_of (by kernel_rfl))).trans rfl) ((hM6.get 2 rfl).on hbel) Tryd.underlying25 rfl (info_WideC _) (symV hbel hsz rfl rfl (show 42 < 78 by decide) (Below.refl _ _) rfl)
    · intro A W hsz hoth hbel hdep
      refine kCall1 16 _ _ _ rfl (wanted_of rfl rfl (by have h := hdep ⟨23, .chain⟩ (by simp) rfl; exact h)) (by kernel_rfl) rfl ?_
      refine (wOf_lit n2 2 h2 E2.out W).mono ?_
      rintro e r ⟨rfl, hBc⟩
      exact ⟨_, rfl, (symV hbel hsz rfl rfl (show 43 < 78 by decide) hBc rfl)⟩
    · intro A W hsz hoth hbel hdep
      refine kCall3 32 _ _ _ _ _ _ _ rfl (wanted_of rfl rfl (by have h := hdep ⟨23, .guard⟩ (by simp) rfl; exact h)) (by kernel_rfl) (by have h := hdep ⟨24, .data⟩ (by simp) rfl; exact h) (by have h := hdep ⟨25, .data⟩ (by simp) rfl; exact h) (by have h := hdep ⟨26, .data⟩ (by simp) rfl; exact h) ?_
      refine (fPow_as hm (w2.heap.size) ma mn2 Hv44.out W ((hM6.get 1 rfl).on hbel)).mono ?_
      rintro e r ⟨rfl, hBc⟩
      exact ⟨_, rfl, (symV hbel hsz rfl rfl (show 44 < 78 by decide) hBc rfl)⟩
    · intro A W hsz hoth hbel hdep
      exact kMoveV _ (.pointer (some ⟨w2.heap.size, 0, none⟩)) rfl (wanted_of rfl rfl (by have h := hdep ⟨23, .guard⟩ (by simp) rfl; exact h)) ((hoth 5 (free2_of (by kernel_rfl))).trans rfl) (symV hbel hsz rfl rfl (show 45 < 78 by decide) (Below.refl _ _) rfl)
    · intro A W hsz hoth hbel hdep
      exact kLoadRow _ _ _ _ _ _ rfl (wanted_of rfl rfl (by have h := hdep ⟨23, .guard⟩ (by simp) rfl; exact h)) ((hoth 3 (free2_of (by kernel_rfl))).trans rfl) ((hM6.get 2 rfl).on hbel) Tryd.underlying25 rfl (info_WideC _) (symV hbel hsz rfl rfl (show 46 < 78 by decide) (Below.refl _ _) rfl)
    · intro A W hsz hoth hbel hdep
      exact kLoadRow _ _ _ _ _ _ rfl (wanted_of rfl rfl (by have h := hdep ⟨23, .guard⟩ (by simp) rfl; exact h)) ((hoth 3 (free2_of (by kernel_rfl))).trans rfl) ((hM6.get 2 rfl).on hbel) Tryd.underlying25 rfl (info_WideC _) (symV hbel hsz rfl rfl (show 47 < 78 by decide) (Below.refl _ _) rfl)
    · intro A W hsz hoth hbel hdep
      refine kCall3 25 _ _ _ _ _ _ _ rfl (wanted_of rfl rfl (by have h := hdep ⟨23, .guard⟩ (by simp) rfl; exact h)) (by kernel_rfl) (by have h := hdep ⟨28, .data⟩ (by simp) rfl; exact h) (by have h := hdep ⟨29, .data⟩ (by simp) rfl; exact h) (by have h := hdep ⟨30, .data⟩ (by simp) rfl; exact h) ?_
      refine (fMul_as hm (w2.heap.size) ma ma Hv48.out W ((hM6.get 1 rfl).on hbel)).mono ?_
      rintro e r ⟨rfl, hBc⟩
      exact ⟨_, rfl, (symV hbel hsz rfl rfl (show 48 < 78 by decide) hBc rfl)⟩
    · intro A W hsz hoth hbel hdep
      exact kNeqW _ _ _ (v44) (v48) false rfl (wanted_of rfl rfl (by have h := hdep ⟨23, .guard⟩ (by simp) rfl; exact h)) (by have h := hdep ⟨27, .data⟩ (by simp) rfl; exact h) (by have h := hdep ⟨31, .data⟩ (by simp) rfl; exact h) (F49.out) (symV hbel hsz rfl rfl (show 49 < 78 by decide) (Below.refl _ _) rfl)
    · intro A W hsz hoth hbel hdep
      exact kPick _ _ _ false (.bool false) rfl rfl (by have h := hdep ⟨23, .data⟩ (by simp) rfl; exact h) (by have h := hdep ⟨32, .data⟩ (by simp) rfl; exact h) (symV hbel hsz rfl rfl (show 50 < 78 by decide) (Below.refl _ _) rfl)
    intro w7 hB7
    dsimp only [AllV]
    dsimp only [putAll]
    go_frame
    have hM7 := hM6.on hB7
    clear hB7 hM6
    go_wp2_with (first
      | ((with_reducible change wpList _ _ _ (Oper.mk (some 53) _ _ _ _ _ :: _) _ _); refine kLoadRow _ _ _ _ _ _ rfl rfl rfl (hM7.get 2 rfl) Tryd.underlying25 rfl (info_WideC _) ?_; go_frame)
      | (go_at_call 12; (with_reducible change Calls _ _ #[Value.pointer (some ⟨w2.heap.size, 0, none⟩), Value.agg (wcells a)] _ _); refine (fInv_zero hm a (w2.heap.size) ma hz.out _ (hM7.get 1 rfl)).mono ?_; rintro e w8 ⟨rfl, hB8⟩; have hM8 := hM7.on hB8; clear hB8 hM7; (try unfold WV); go_frame)
      | ((with_reducible change wpList _ _ _ (Oper.mk (some 7) _ _ _ _ _ :: _) _ _); refine mmAlloc hM8 _ _ rfl rfl zero_Wide ?_; intro w9 hM9; clear hM8; go_frame)
      | ((with_reducible change wpList _ _ _ (Oper.mk none (Op.store _ (Operand.tmp 7) (Operand.tmp 55)) _ _ _ _ :: _) _ _); refine mmStoreAt hM9 0 _ _ _ _ _ _ (wcells 0) rfl rfl rfl rfl rfl (info_WideC _) (by simp only [wcells_size]) (wcells_one _) ?_; intro w10 hM10; dsimp only [List.set] at hM10; clear hM9; go_frame)
      | ((with_reducible change wpList _ _ _ (Oper.mk (some 58) _ _ _ _ _ :: _) _ _); refine kNeqI _ _ _ _ .i64 (31) (0) true rfl rfl rfl rfl (by decide) ?_; go_frame))
    go_ret
    exact ⟨rfl, hM10.below⟩
  · replace hz := Lib.hid hz
    obtain ⟨v16, Hv16⟩ : ∃ n, Hid ((0 % m + m - a % m) % m = n) := ⟨_, Lib.hid rfl⟩
    have mv16 : v16 < M256 := by rw [← Hv16.out]; exact hm.mod _
    obtain ⟨v20, Hv20⟩ : ∃ n, Hid ((a + v16) % m = n) := ⟨_, Lib.hid rfl⟩
    have mv20 : v20 < M256 := by rw [← Hv20.out]; exact hm.mod _
    obtain ⟨v27, Hv27⟩ : ∃ n, Hid (a * a % m = n) := ⟨_, Lib.hid rfl⟩
    have mv27 : v27 < M256 := by rw [← Hv27.out]; exact hm.mod _
    obtain ⟨v31, Hv31⟩ : ∃ n, Hid (v16 * v16 % m = n) := ⟨_, Lib.hid rfl⟩
    have mv31 : v31 < M256 := by rw [← Hv31.out]; exact hm.mod _
    obtain ⟨v44, Hv44⟩ : ∃ n, Hid (a ^ n2 % m = n) := ⟨_, Lib.hid rfl⟩
    have mv44 : v44 < M256 := by rw [← Hv44.out]; exact hm.mod _
    obtain ⟨v48, Hv48⟩ : ∃ n, Hid (a * a % m = n) := ⟨_, Lib.hid rfl⟩
    have mv48 : v48 < M256 := by rw [← Hv48.out]; exact hm.mod _
    obtain ⟨v54, Hv54⟩ : ∃ n, Hid (a ^ (m - 2) % m = n) := ⟨_, Lib.hid rfl⟩
    have mv54 : v54 < M256 := by rw [← Hv54.out]; exact hm.mod _
    obtain ⟨v63, Hv63⟩ : ∃ n, Hid (a * v54 % m = n) := ⟨_, Lib.hid rfl⟩
    have mv63 : v63 < M256 := by rw [← Hv63.out]; exact hm.mod _
    obtain ⟨v70, Hv70⟩ : ∃ n, Hid (v16 * v54 % m = n) := ⟨_, Lib.hid rfl⟩
    have mv70 : v70 < M256 := by rw [← Hv70.out]; exact hm.mod _
    obtain ⟨v74, Hv74⟩ : ∃ n, Hid ((0 % m + m - n1 % m) % m = n) := ⟨_, Lib.hid rfl⟩
    have mv74 : v74 < M256 := by rw [← Hv74.out]; exact hm.mod _
    have F22 := Lib.hid (neqW_no (show v20 = 0 by rw [← Hv20.out, ← Hv16.out]; exact neg_zero hm.pos))
    have F32 := Lib.hid (neqW_no (show v27 = v31 by rw [← Hv27.out, ← Hv31.out]; exact neg_sq (by rw [← Hv16.out]; exact neg_zero hm.pos)))
    have F37 := Lib.hid (show decide (v16 < m) = true by rw [← Hv16.out]; exact decide_eq_true (Nat.mod_lt _ hm.pos))
    have F49 := Lib.hid (neqW_no (show v44 = v48 by rw [← Hv44.out, ← Hv48.out, H2.out, Nat.pow_two]))
    have F65 := Lib.hid (eqlW_yes (show v63 = n1 by rw [← Hv63.out, ← Hv54.out, H1.out]; exact inv_one hp hz.out))
    have F75 := Lib.hid (eqlW_yes (show v70 = v74 by rw [← Hv70.out, ← Hv54.out, ← Hv74.out, H1.out]; exact neg_inv hp hz.out Hv16.out.symm))
    have hM0 := mm_nil w
    (try unfold WV)
    go_enter Tryd.func9, Tryd.ntmps9
    go_wp2_with (first
      | ((with_reducible change wpList _ _ _ (Oper.mk (some 3) _ _ _ _ _ :: _) _ _); refine mmBox hM0 _ _ _ rfl rfl rfl ?_; intro w1 hM1; clear hM0; go_frame)
      | (go_at_call 10; refine (fieldAlive_any _ (hG.below hM1.below)).mono ?_; rintro e w2 ⟨rfl, hB2⟩; have hM2 := hM1.on hB2; clear hB2 hM1; (try unfold WV); go_frame)
      | (go_at_call 19; (with_reducible change Calls _ _ #[Value.bool false] _ _); refine (ring_false m _ (hR.below hM2.below)).mono ?_; rintro e w3 ⟨rfl, hR3, hB3⟩; have hM3 := hM2.new hR3 hB3; clear hB3 hR3 hM2; go_frame)
      | ((with_reducible change wpList _ _ _ (Oper.mk (some 14) _ _ _ _ _ :: _) _ _); refine kBuildW0 rfl rfl ?_; go_frame)
      | ((with_reducible change wpList _ _ _ (Oper.mk (some 15) _ _ _ _ _ :: _) _ _); refine kLoadRow _ _ _ _ _ _ rfl rfl rfl (hM3.get 1 rfl) Tryd.underlying25 rfl (info_WideC _) ?_; go_frame)
      | (go_at_call 23; (with_reducible change Calls _ _ #[Value.pointer (some ⟨w2.heap.size, 0, none⟩), Value.agg (wcells 0), Value.agg (wcells a)] _ _); refine (fSub_as hm (w2.heap.size) M256_pos ma Hv16.out _ (hM3.get 0 rfl)).mono ?_; rintro e w4 ⟨rfl, hB4⟩; have hM4 := hM3.on hB4; clear hB4 hM3; (try unfold WV); go_frame)
      | ((with_reducible change wpList _ _ _ (Oper.mk (some 6) _ _ _ _ _ :: _) _ _); refine mmAlloc hM4 _ _ rfl rfl zero_Wide ?_; intro w5 hM5; clear hM4; go_frame)
      | ((with_reducible change wpList _ _ _ (Oper.mk none (Op.store _ (Operand.tmp 6) (Operand.tmp 16)) _ _ _ _ :: _) _ _); refine mmStoreAt hM5 0 _ _ _ _ _ _ (wcells v16) rfl rfl rfl rfl rfl (info_WideC _) (by simp only [wcells_size]) (wcells_one _) ?_; intro w6 hM6; dsimp only [List.set] at hM6; clear hM5; go_frame))
    refine region_sym (fun _ => 0) [.val (.pointer (some ⟨w2.heap.size, 0, none⟩)), .val (.agg (wcells a)), .val (.agg (wcells v16)), .val (.agg (wcells v20)), .val (.agg (wcells 0)), .val (.bool false), .val (.bool false), .val (.pointer (some ⟨w2.heap.size, 0, none⟩)), .val (.agg (wcells a)), .val (.agg (wcells a)), .val (.agg (wcells v27)), .val (.pointer (some ⟨w2.heap.size, 0, none⟩)), .val (.agg (wcells v16)), .val (.agg (wcells v16)), .val (.agg (wcells v31)), .val (.bool false), .val (.bool false), .val (.bool false), .val (.pointer (some ⟨w2.heap.size, 0, none⟩)), .val (.agg (wcells v16)), .val (.bool true), .val (.bool false), .val (.bool false), .val (.bool false), .val (.pointer (some ⟨w2.heap.size, 0, none⟩)), .val (.agg (wcells a)), .val (.agg (wcells n2)), .val (.agg (wcells v44)), .val (.pointer (some ⟨w2.heap.size, 0, none⟩)), .val (.agg (wcells a)), .val (.agg (wcells a)), .val (.agg (wcells v48)), .val (.bool false), .val (.bool false)] [.val (.pointer (some ⟨w2.heap.size, 0, none⟩)), .val (.agg (wcells a)), .val (.agg (wcells v16)), .val (.agg (wcells v20)), .val (.agg (wcells 0)), .val (.bool false), .val (.bool false), .val (.pointer (some ⟨w2.heap.size, 0, none⟩)), .val (.agg (wcells a)), .val (.agg (wcells a)), .val (.agg (wcells v27)), .val (.pointer (some ⟨w2.heap.size, 0, none⟩)), .val (.agg (wcells v16)), .val (.agg (wcells v16)), .val (.agg (wcells v31)), .val (.bool false), .val (.bool false), .val (.bool false), .val (.pointer (some ⟨w2.heap.size, 0, none⟩)), .val (.agg (wcells v16)), .val (.bool true), .val (.bool false), .val (.bool false), .val (.bool false), .val (.pointer (some ⟨w2.heap.size, 0, none⟩)), .val (.agg (wcells a)), .val (.agg (wcells n2)), .val (.agg (wcells v44)), .val (.pointer (some ⟨w2.heap.size, 0, none⟩)), .val (.agg (wcells a)), .val (.agg (wcells a)), .val (.agg (wcells v48)), .val (.bool false), .val (.bool false)] (by kernel_rfl) (by kernel_rfl) rfl rfl (steps_all ⟨?_, ?_, ?_, ?_, ?_, ?_, ?_, ?_, ?_, ?_, ?_, ?_, ?_, ?_, ?_, ?_, ?_, ?_, ?_, ?_, ?_, ?_, ?_, ?_, ?_, ?_, ?_, ?_, ?_, ?_, ?_, ?_, ?_, ?_, trivial⟩) ?_
    · intro A W hsz hoth hbel hdep
      exact kMoveV _ (.pointer (some ⟨w2.heap.size, 0, none⟩)) rfl rfl ((hoth 5 (free2_of (by kernel_rfl))).trans rfl) (symV hbel hsz rfl rfl (show 17 < 78 by decide) (Below.refl _ _) rfl)
    · intro A W hsz hoth hbel hdep
      exact kLoadRow _ _ _ _ _ _ rfl rfl ((hoth 3 (free2_of (by kernel_rfl))).trans rfl) ((hM6.get 2 rfl).on hbel) Tryd.underlying25 rfl (info_WideC _) (symV hbel hsz rfl rfl (show 18 < 78 by decide) (Below.refl _ _) rfl)
    · intro A W hsz hoth hbel hdep
      exact kLoadRow _ _ _ _ _ _ rfl rfl ((hoth 6 (free2_of (by kernel_rfl))).trans rfl) ((hM6.get 0 rfl).on hbel) Tryd.underlying25 rfl (info_WideC _) (symV hbel hsz rfl rfl (show 19 < 78 by decide) (Below.refl _ _) rfl)
    · intro A W hsz hoth hbel hdep
      refine kCall3 21 _ _ _ _ _ _ _ rfl rfl (by kernel_rfl) (by have h := hdep ⟨0, .data⟩ (by simp) rfl; exact h) (by have h := hdep ⟨1, .data⟩ (by simp) rfl; exact h) (by have h := hdep ⟨2, .data⟩ (by simp) rfl; exact h) ?_
      refine (fAdd_as hm (w2.heap.size) ma mv16 Hv20.out.symm W ((hM6.get 1 rfl).on hbel)).mono ?_
      rintro e r ⟨rfl, hBc⟩
      exact ⟨_, rfl, (symV hbel hsz rfl rfl (show 20 < 78 by decide) hBc rfl)⟩
    · intro A W hsz hoth hbel hdep
      exact kBuildW0 rfl rfl (symV hbel hsz rfl rfl (show 21 < 78 by decide) (Below.refl _ _) rfl)
    · intro A W hsz hoth hbel hdep
      exact kNeqW _ _ _ (v20) (0) false rfl rfl (by have h := hdep ⟨3, .data⟩ (by simp) rfl; exact h) (by have h := hdep ⟨4, .data⟩ (by simp) rfl; exact h) (F22.out) (symV hbel hsz rfl rfl (show 22 < 78 by decide) (Below.refl _ _) rfl)
    · intro A W hsz hoth hbel hdep
      exact kMoveV _ (.bool false) rfl rfl (by have h := hdep ⟨5, .data⟩ (by simp) rfl; exact h) (symV hbel hsz rfl rfl (show 23 < 78 by decide) (Below.refl _ _) rfl)
    · intro A W hsz hoth hbel hdep
      exact kMoveV _ (.pointer (some ⟨w2.heap.size, 0, none⟩)) rfl (wanted_of rfl rfl (by have h := hdep ⟨6, .guard⟩ (by simp) rfl; exact h)) ((hoth 5 (free2_of (by kernel_rfl))).trans rfl) (symV hbel hsz rfl rfl (show 24 < 78 by decide) (Below.refl _ _) rfl)
    · intro A W hsz hoth hbel hdep
      exact kLoadRow _ _ _ _ _ _ rfl (wanted_of rfl rfl (by have h := hdep ⟨6, .guard⟩ (by simp) rfl; exact h)) ((hoth 3 (free2_of (by kernel_rfl))).trans rfl) ((hM6.get 2 rfl).on hbel) Tryd.underlying25 rfl (info_WideC _) (symV hbel hsz rfl rfl (show 25 < 78 by decide) (Below.refl _ _) rfl)
    · intro A W hsz hoth hbel hdep
      exact kLoadRow _ _ _ _ _ _ rfl (wanted_of rfl rfl (by have h := hdep ⟨6, .guard⟩ (by simp) rfl; exact h)) ((hoth 3 (free2_of (by kernel_rfl))).trans rfl) ((hM6.get 2 rfl).on hbel) Tryd.underlying25 rfl (info_WideC _) (symV hbel hsz rfl rfl (show 26 < 78 by decide) (Below.refl _ _) rfl)
    · intro A W hsz hoth hbel hdep
      refine kCall3 25 _ _ _ _ _ _ _ rfl (wanted_of rfl rfl (by have h := hdep ⟨6, .chain⟩ (by simp) rfl; exact h)) (by kernel_rfl) (by have h := hdep ⟨7, .data⟩ (by simp) rfl; exact h) (by have h := hdep ⟨8, .data⟩ (by simp) rfl; exact h) (by have h := hdep ⟨9, .data⟩ (by simp) rfl; exact h) ?_
      refine (fMul_as hm (w2.heap.size) ma ma Hv27.out W ((hM6.get 1 rfl).on hbel)).mono ?_
      rintro e r ⟨rfl, hBc⟩
      exact ⟨_, rfl, (symV hbel hsz rfl rfl (show 27 < 78 by decide) hBc rfl)⟩
    · intro A W hsz hoth hbel hdep
      exact kMoveV _ (.pointer (some ⟨w2.heap.size, 0, none⟩)) rfl (wanted_of rfl rfl (by have h := hdep ⟨6, .guard⟩ (by simp) rfl; exact h)) ((hoth 5 (free2_of (by kernel_rfl))).trans rfl) (symV hbel hsz rfl rfl (show 28 < 78 by decide) (Below.refl _ _) rfl)
    · intro A W hsz hoth hbel hdep
      exact kLoadRow _ _ _ _ _ _ rfl (wanted_of rfl rfl (by have h := hdep ⟨6, .guard⟩ (by simp) rfl; exact h)) ((hoth 6 (free2_of (by kernel_rfl))).trans rfl) ((hM6.get 0 rfl).on hbel) Tryd.underlying25 rfl (info_WideC _) (symV hbel hsz rfl rfl (show 29 < 78 by decide) (Below.refl _ _) rfl)
    · intro A W hsz hoth hbel hdep
      exact kLoadRow _ _ _ _ _ _ rfl (wanted_of rfl rfl (by have h := hdep ⟨6, .guard⟩ (by simp) rfl; exact h)) ((hoth 6 (free2_of (by kernel_rfl))).trans rfl) ((hM6.get 0 rfl).on hbel) Tryd.underlying25 rfl (info_WideC _) (symV hbel hsz rfl rfl (show 30 < 78 by decide) (Below.refl _ _) rfl)
    · intro A W hsz hoth hbel hdep
      refine kCall3 25 _ _ _ _ _ _ _ rfl (wanted_of rfl rfl (by have h := hdep ⟨6, .guard⟩ (by simp) rfl; exact h)) (by kernel_rfl) (by have h := hdep ⟨11, .data⟩ (by simp) rfl; exact h) (by have h := hdep ⟨12, .data⟩ (by simp) rfl; exact h) (by have h := hdep ⟨13, .data⟩ (by simp) rfl; exact h) ?_
      refine (fMul_as hm (w2.heap.size) mv16 mv16 Hv31.out W ((hM6.get 1 rfl).on hbel)).mono ?_
      rintro e r ⟨rfl, hBc⟩
      exact ⟨_, rfl, (symV hbel hsz rfl rfl (show 31 < 78 by decide) hBc rfl)⟩
    · intro A W hsz hoth hbel hdep
      exact kNeqW _ _ _ (v27) (v31) false rfl (wanted_of rfl rfl (by have h := hdep ⟨6, .guard⟩ (by simp) rfl; exact h)) (by have h := hdep ⟨10, .data⟩ (by simp) rfl; exact h) (by have h := hdep ⟨14, .data⟩ (by simp) rfl; exact h) (F32.out) (symV hbel hsz rfl rfl (show 32 < 78 by decide) (Below.refl _ _) rfl)
    · intro A W hsz hoth hbel hdep
      exact kPick _ _ _ false (.bool false) rfl rfl (by have h := hdep ⟨6, .data⟩ (by simp) rfl; exact h) (by have h := hdep ⟨15, .data⟩ (by simp) rfl; exact h) (symV hbel hsz rfl rfl (show 33 < 78 by decide) (Below.refl _ _) rfl)
    · intro A W hsz hoth hbel hdep
      exact kMoveV _ (.bool false) rfl rfl (by have h := hdep ⟨16, .data⟩ (by simp) rfl; exact h) (symV hbel hsz rfl rfl (show 34 < 78 by decide) (Below.refl _ _) rfl)
    · intro A W hsz hoth hbel hdep
      exact kMoveV _ (.pointer (some ⟨w2.heap.size, 0, none⟩)) rfl (wanted_of rfl rfl (by have h := hdep ⟨17, .guard⟩ (by simp) rfl; exact h)) ((hoth 5 (free2_of (by kernel_rfl))).trans rfl) (symV hbel hsz rfl rfl (show 35 < 78 by decide) (Below.refl _ _) rfl)
    · intro A W hsz hoth hbel hdep
      exact kLoadRow _ _ _ _ _ _ rfl (wanted_of rfl rfl (by have h := hdep ⟨17, .guard⟩ (by simp) rfl; exact h)) ((hoth 6 (free2_of (by kernel_rfl))).trans rfl) ((hM6.get 0 rfl).on hbel) Tryd.underlying25 rfl (info_WideC _) (symV hbel hsz rfl rfl (show 36 < 78 by decide) (Below.refl _ _) rfl)
    · intro A W hsz hoth hbel hdep
      refine kCall2 27 _ _ _ _ _ rfl (wanted_of rfl rfl (by have h := hdep ⟨17, .chain⟩ (by simp) rfl; exact h)) (by kernel_rfl) (by have h := hdep ⟨18, .data⟩ (by simp) rfl; exact h) (by have h := hdep ⟨19, .data⟩ (by simp) rfl; exact h) ?_
      refine (fIn_as hm (w2.heap.size) mv16 F37.out W ((hM6.get 1 rfl).on hbel)).mono ?_
      rintro e r ⟨rfl, hBc⟩
      exact ⟨_, rfl, (symV hbel hsz rfl rfl (show 37 < 78 by decide) hBc rfl)⟩
    · intro A W hsz hoth hbel hdep
      exact kNot _ _ true rfl (wanted_of rfl rfl (by have h := hdep ⟨17, .guard⟩ (by simp) rfl; exact h)) (by have h := hdep ⟨20, .data⟩ (by simp) rfl; exact h) (symV hbel hsz rfl rfl (show 38 < 78 by decide) (Below.refl _ _) rfl)
    · intro A W hsz hoth hbel hdep
      exact kPick _ _ _ false (.bool false) rfl rfl (by have h := hdep ⟨17, .data⟩ (by simp) rfl; exact h) (by have h := hdep ⟨21, .data⟩ (by simp) rfl; exact h) (symV hbel hsz rfl rfl (show 39 < 78 by decide) (Below.refl _ _) rfl)
    · intro A W hsz hoth hbel hdep
      exact kMoveV _ (.bool false) rfl rfl (by have h := hdep ⟨22, .data⟩ (by simp) rfl; exact h) (symV hbel hsz rfl rfl (show 40 < 78 by decide) (Below.refl _ _) rfl)
    · intro A W hsz hoth hbel hdep
      exact kMoveV _ (.pointer (some ⟨w2.heap.size, 0, none⟩)) rfl (wanted_of rfl rfl (by have h := hdep ⟨23, .guard⟩ (by simp) rfl; exact h)) ((hoth 5 (free2_of (by kernel_rfl))).trans rfl) (symV hbel hsz rfl rfl (show 41 < 78 by decide) (Below.refl _ _) rfl)
    · intro A W hsz hoth hbel hdep
      exact kLoadRow _ _ _ _ _ _ rfl (wanted_of rfl rfl (by have h := hdep ⟨23, .guard⟩ (by simp) rfl; exact h)) ((hoth 3 (free2_of (by kernel_rfl))).trans rfl) ((hM6.get 2 rfl).on hbel) Tryd.underlying25 rfl (info_WideC _) (symV hbel hsz rfl rfl (show 42 < 78 by decide) (Below.refl _ _) rfl)
    · intro A W hsz hoth hbel hdep
      refine kCall1 16 _ _ _ rfl (wanted_of rfl rfl (by have h := hdep ⟨23, .chain⟩ (by simp) rfl; exact h)) (by kernel_rfl) rfl ?_
      refine (wOf_lit n2 2 h2 E2.out W).mono ?_
      rintro e r ⟨rfl, hBc⟩
      exact ⟨_, rfl, (symV hbel hsz rfl rfl (show 43 < 78 by decide) hBc rfl)⟩
    · intro A W hsz hoth hbel hdep
      refine kCall3 32 _ _ _ _ _ _ _ rfl (wanted_of rfl rfl (by have h := hdep ⟨23, .guard⟩ (by simp) rfl; exact h)) (by kernel_rfl) (by have h := hdep ⟨24, .data⟩ (by simp) rfl; exact h) (by have h := hdep ⟨25, .data⟩ (by simp) rfl; exact h) (by have h := hdep ⟨26, .data⟩ (by simp) rfl; exact h) ?_
      refine (fPow_as hm (w2.heap.size) ma mn2 Hv44.out W ((hM6.get 1 rfl).on hbel)).mono ?_
      rintro e r ⟨rfl, hBc⟩
      exact ⟨_, rfl, (symV hbel hsz rfl rfl (show 44 < 78 by decide) hBc rfl)⟩
    · intro A W hsz hoth hbel hdep
      exact kMoveV _ (.pointer (some ⟨w2.heap.size, 0, none⟩)) rfl (wanted_of rfl rfl (by have h := hdep ⟨23, .guard⟩ (by simp) rfl; exact h)) ((hoth 5 (free2_of (by kernel_rfl))).trans rfl) (symV hbel hsz rfl rfl (show 45 < 78 by decide) (Below.refl _ _) rfl)
    · intro A W hsz hoth hbel hdep
      exact kLoadRow _ _ _ _ _ _ rfl (wanted_of rfl rfl (by have h := hdep ⟨23, .guard⟩ (by simp) rfl; exact h)) ((hoth 3 (free2_of (by kernel_rfl))).trans rfl) ((hM6.get 2 rfl).on hbel) Tryd.underlying25 rfl (info_WideC _) (symV hbel hsz rfl rfl (show 46 < 78 by decide) (Below.refl _ _) rfl)
    · intro A W hsz hoth hbel hdep
      exact kLoadRow _ _ _ _ _ _ rfl (wanted_of rfl rfl (by have h := hdep ⟨23, .guard⟩ (by simp) rfl; exact h)) ((hoth 3 (free2_of (by kernel_rfl))).trans rfl) ((hM6.get 2 rfl).on hbel) Tryd.underlying25 rfl (info_WideC _) (symV hbel hsz rfl rfl (show 47 < 78 by decide) (Below.refl _ _) rfl)
    · intro A W hsz hoth hbel hdep
      refine kCall3 25 _ _ _ _ _ _ _ rfl (wanted_of rfl rfl (by have h := hdep ⟨23, .guard⟩ (by simp) rfl; exact h)) (by kernel_rfl) (by have h := hdep ⟨28, .data⟩ (by simp) rfl; exact h) (by have h := hdep ⟨29, .data⟩ (by simp) rfl; exact h) (by have h := hdep ⟨30, .data⟩ (by simp) rfl; exact h) ?_
      refine (fMul_as hm (w2.heap.size) ma ma Hv48.out W ((hM6.get 1 rfl).on hbel)).mono ?_
      rintro e r ⟨rfl, hBc⟩
      exact ⟨_, rfl, (symV hbel hsz rfl rfl (show 48 < 78 by decide) hBc rfl)⟩
    · intro A W hsz hoth hbel hdep
      exact kNeqW _ _ _ (v44) (v48) false rfl (wanted_of rfl rfl (by have h := hdep ⟨23, .guard⟩ (by simp) rfl; exact h)) (by have h := hdep ⟨27, .data⟩ (by simp) rfl; exact h) (by have h := hdep ⟨31, .data⟩ (by simp) rfl; exact h) (F49.out) (symV hbel hsz rfl rfl (show 49 < 78 by decide) (Below.refl _ _) rfl)
    · intro A W hsz hoth hbel hdep
      exact kPick _ _ _ false (.bool false) rfl rfl (by have h := hdep ⟨23, .data⟩ (by simp) rfl; exact h) (by have h := hdep ⟨32, .data⟩ (by simp) rfl; exact h) (symV hbel hsz rfl rfl (show 50 < 78 by decide) (Below.refl _ _) rfl)
    intro w7 hB7
    dsimp only [AllV]
    dsimp only [putAll]
    go_frame
    have hM7 := hM6.on hB7
    clear hB7 hM6
    go_wp2_with (first
      | ((with_reducible change wpList _ _ _ (Oper.mk (some 53) _ _ _ _ _ :: _) _ _); refine kLoadRow _ _ _ _ _ _ rfl rfl rfl (hM7.get 2 rfl) Tryd.underlying25 rfl (info_WideC _) ?_; go_frame)
      | (go_at_call 12; (with_reducible change Calls _ _ #[Value.pointer (some ⟨w2.heap.size, 0, none⟩), Value.agg (wcells a)] _ _); refine (fInv_as hm (w2.heap.size) ma hz.out Hv54.out _ (hM7.get 1 rfl)).mono ?_; rintro e w8 ⟨rfl, hB8⟩; have hM8 := hM7.on hB8; clear hB8 hM7; (try unfold WV); go_frame)
      | ((with_reducible change wpList _ _ _ (Oper.mk (some 7) _ _ _ _ _ :: _) _ _); refine mmAlloc hM8 _ _ rfl rfl zero_Wide ?_; intro w9 hM9; clear hM8; go_frame)
      | ((with_reducible change wpList _ _ _ (Oper.mk none (Op.store _ (Operand.tmp 7) (Operand.tmp 55)) _ _ _ _ :: _) _ _); refine mmStoreAt hM9 0 _ _ _ _ _ _ (wcells v54) rfl rfl rfl rfl rfl (info_WideC _) (by simp only [wcells_size]) (wcells_one _) ?_; intro w10 hM10; dsimp only [List.set] at hM10; clear hM9; go_frame)
      | ((with_reducible change wpList _ _ _ (Oper.mk (some 58) _ _ _ _ _ :: _) _ _); refine kNeqI _ _ _ _ .i64 (0) (0) false rfl rfl rfl rfl (by decide) ?_; go_frame)
      | ((with_reducible change wpList _ _ _ (Oper.mk (some 61) _ _ _ _ _ :: _) _ _); refine kLoadRow _ _ _ _ _ _ rfl rfl rfl (hM10.get 3 rfl) Tryd.underlying25 rfl (info_WideC _) ?_; go_frame)
      | ((with_reducible change wpList _ _ _ (Oper.mk (some 62) _ _ _ _ _ :: _) _ _); refine kLoadRow _ _ _ _ _ _ rfl rfl rfl (hM10.get 0 rfl) Tryd.underlying25 rfl (info_WideC _) ?_; go_frame)
      | (go_at_call 25; (with_reducible change Calls _ _ #[Value.pointer (some ⟨w2.heap.size, 0, none⟩), Value.agg (wcells a), Value.agg (wcells v54)] _ _); refine (fMul_as hm (w2.heap.size) ma mv54 Hv63.out _ (hM10.get 2 rfl)).mono ?_; rintro e w11 ⟨rfl, hB11⟩; have hM11 := hM10.on hB11; clear hB11 hM10; (try unfold WV); go_frame)
      | (go_at_call 16; (with_reducible change Calls _ _ #[Value.int .u64 (1)] _ _); refine (wOf_lit n1 1 h1 E1.out _).mono ?_; rintro e w12 ⟨rfl, hB12⟩; have hM12 := hM11.on hB12; clear hB12 hM11; (try unfold WV); go_frame)
      | ((with_reducible change wpList _ _ _ (Oper.mk (some 65) _ _ _ _ _ :: _) _ _); refine kEqlW _ _ _ (v63) (n1) true rfl rfl rfl rfl (F65.out) ?_; go_frame)
      | ((with_reducible change wpList _ _ _ (Oper.mk (some 68) _ _ _ _ _ :: _) _ _); refine kLoadRow _ _ _ _ _ _ rfl rfl rfl (hM12.get 1 rfl) Tryd.underlying25 rfl (info_WideC _) ?_; go_frame)
      | ((with_reducible change wpList _ _ _ (Oper.mk (some 69) _ _ _ _ _ :: _) _ _); refine kLoadRow _ _ _ _ _ _ rfl rfl rfl (hM12.get 0 rfl) Tryd.underlying25 rfl (info_WideC _) ?_; go_frame)
      | (go_at_call 25; (with_reducible change Calls _ _ #[Value.pointer (some ⟨w2.heap.size, 0, none⟩), Value.agg (wcells v16), Value.agg (wcells v54)] _ _); refine (fMul_as hm (w2.heap.size) mv16 mv54 Hv70.out _ (hM12.get 2 rfl)).mono ?_; rintro e w13 ⟨rfl, hB13⟩; have hM13 := hM12.on hB13; clear hB13 hM12; (try unfold WV); go_frame)
      | ((with_reducible change wpList _ _ _ (Oper.mk (some 72) _ _ _ _ _ :: _) _ _); refine kBuildW0 rfl rfl ?_; go_frame)
      | (go_at_call 16; (with_reducible change Calls _ _ #[Value.int .u64 (1)] _ _); refine (wOf_lit n1 1 h1 E1.out _).mono ?_; rintro e w14 ⟨rfl, hB14⟩; have hM14 := hM13.on hB14; clear hB14 hM13; (try unfold WV); go_frame)
      | (go_at_call 23; (with_reducible change Calls _ _ #[Value.pointer (some ⟨w2.heap.size, 0, none⟩), Value.agg (wcells 0), Value.agg (wcells n1)] _ _); refine (fSub_as hm (w2.heap.size) M256_pos mn1 Hv74.out _ (hM14.get 2 rfl)).mono ?_; rintro e w15 ⟨rfl, hB15⟩; have hM15 := hM14.on hB15; clear hB15 hM14; (try unfold WV); go_frame)
      | ((with_reducible change wpList _ _ _ (Oper.mk (some 75) _ _ _ _ _ :: _) _ _); refine kEqlW _ _ _ (v70) (v74) true rfl rfl rfl rfl (F75.out) ?_; go_frame))
    go_ret
    exact ⟨rfl, hM15.below⟩
end Go.Proofs.YtajpdmcbdekpbaaDoor
