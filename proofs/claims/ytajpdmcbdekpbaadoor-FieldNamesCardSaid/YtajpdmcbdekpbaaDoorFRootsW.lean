/-
  The walk of the statement FieldRoots.
-/
import Derived.Test.YtajpdmcbdekpbaaDoorFNegsW
namespace Go.Proofs.YtajpdmcbdekpbaaDoor
open Go Go.RowKit

/-- the power that is a root, if any is -/
def rootOf (m a : Nat) : Nat := a ^ ((m + 1) / 4) % m
/-- the even one of both -/
def evenRoot (m a : Nat) : Nat := if rootOf m a % 2 = 0 then rootOf m a else (m - rootOf m a) % m
def HasRoot (m a : Nat) : Prop := rootOf m a * rootOf m a % m = a % m
theorem evenRoot_lt {m a : Nat} (hm : 0 < m) : evenRoot m a < m := by unfold evenRoot rootOf; split <;> exact Nat.mod_lt _ hm
theorem evenRoot_even {m a : Nat} (hm : m % 2 = 1) : evenRoot m a % 2 = 0 := by
  have hl : rootOf m a < m := Nat.mod_lt _ (by omega)
  unfold evenRoot
  split
  · assumption
  · rename_i h
    have e : (m - rootOf m a) % m = m - rootOf m a := Nat.mod_eq_of_lt (by omega)
    rw [e]; omega
theorem evenRoot_sq {m a : Nat} (hm : 0 < m) (h : HasRoot m a) : evenRoot m a * evenRoot m a % m = a % m := by
  have hl : rootOf m a < m := Nat.mod_lt _ hm
  unfold evenRoot
  split
  · exact h
  · rw [← h]
    refine (neg_sq ?_).symm
    rw [Nat.add_mod_mod, show rootOf m a + (m - rootOf m a) = m by omega, Nat.mod_self]
theorem hasRoot_mod {m a : Nat} : HasRoot m a ↔ a ^ ((m + 1) / 4) * a ^ ((m + 1) / 4) % m = a % m := by unfold HasRoot rootOf; rw [← Nat.mul_mod]
theorem hasRoot_square {m a x : Nat} (hp : IsPrime m) (h4 : m % 4 = 3) (h : x = a * a % m) : HasRoot m x := by
  rw [hasRoot_mod]; exact root_sq (y := a) hp h4 (by rw [h, Nat.mod_mod])
theorem root_own {m a x : Nat} (hp : IsPrime m) (h4 : m % 4 = 3) (hx : x = a * a % m) : evenRoot m x = a % m ∨ evenRoot m x = (0 % m + m - a % m) % m := by
  have hm : 0 < m := by omega
  have h := evenRoot_sq hm (hasRoot_square hp h4 hx)
  have h2 : x % m = a * a % m := by rw [hx, Nat.mod_mod]
  rw [h2] at h
  have hl := evenRoot_lt (a := x) hm
  rcases sq_eq hp h with h' | h'
  · left; rw [← h', Nat.mod_eq_of_lt hl]
  · right
    rw [Nat.add_comm] at h'
    have := neg_unique hm h'
    rw [neg_form, ← this, Nat.mod_eq_of_lt hl]
theorem hasRoot_neg {m b n : Nat} (hp : IsPrime m) (h4 : m % 4 = 3) (hn : n = (0 % m + m - b % m) % m) (h : ¬ HasRoot m b) : HasRoot m n := by
  rw [hasRoot_mod] at h ⊢
  have h0 := neg_zero (a := b) (show 0 < m by omega)
  rw [← hn] at h0
  rcases root_or hp h4 h0 with h' | h'
  · exact absurd h' h
  · exact h'
theorem fRoot_some {m a x : Nat} (hm : Modu m) (g : Nat) (ma : a < M256) (h : HasRoot m a) (hx : evenRoot m a = x) (hm1 : m + 1 < M256) (w : World) (hr : Row w g 54 (wcells m)) (hG : Glob 0 m w) :
    Calls Tryd.prog 15 #[.pointer (some ⟨g, 0, none⟩), WV a] w fun e w' => e = .returned (.tuple #[WV x, .int .i64 0]) ∧ Below w.heap.size w w' := by
  subst hx
  unfold evenRoot
  split
  · rename_i hq; exact fRoot_even hm a g ma w hr hG hm1 rfl h hq
  · rename_i hq; exact fRoot_odd hm a g ma w hr hG hm1 rfl h (by omega)
theorem fRoot_no {m a : Nat} (hm : Modu m) (g : Nat) (ma : a < M256) (h : ¬ HasRoot m a) (hm1 : m + 1 < M256) (w : World) (hr : Row w g 54 (wcells m)) (hG : Glob 0 m w) :
    Calls Tryd.prog 15 #[.pointer (some ⟨g, 0, none⟩), WV a] w fun e w' => e = .returned (.tuple #[WV 0, .int .i64 31]) ∧ Below w.heap.size w w' :=
  fRoot_none hm a g ma w hr hG hm1 rfl h
theorem kRemU {P : Program} {ops : Array Oper} {Q : Exit → Act → World → Prop} {rest : List Oper} {o : Oper} {a : Act} {w : World} (T T2 : TypeId) (x y : Operand) (m : Nat) (n z : Int) (ho : o.op = .binOp .rem T x y T2) (hg : Region.wanted o (yielded ops a.tmps) = true) (hx : a.eval x = .int .u64 (m : Int)) (hy : a.eval y = .int .u64 n) (hz : n = 2 ∧ (m : Int) % 2 = z) (h : wpList P ops Q rest (a.put o.dst (.int .u64 z)) w) : wpList P ops Q (o :: rest) a w := by
  obtain ⟨rfl, rfl⟩ := hz
  refine kPure _ hg ?_ h
  unfold execOp
  simp only [ho, hx, hy]
  have e : (m : Int).tmod 2 = (m : Int) % 2 := Int.tmod_eq_emod_of_nonneg (by omega)
  simp [eqGuard, binOp, Op.intDiv, e]
set_option maxRecDepth 100000 in
set_option maxHeartbeats 8000000 in
theorem FieldRoots_any (a : Nat) (ma : a < M256) (b : Nat) (mb : b < M256) (w : World) (hG : Glob 0 PP w) :
    Calls Tryd.prog 7 #[WV a, WV b] w fun e w' => e = .returned (.bool true) ∧ Below w.heap.size w w' := by
  obtain ⟨m, Hm⟩ : ∃ m, Hid (m = PP) := ⟨_, Lib.hid rfl⟩
  have hm : Modu m := by rw [Hm.out]; exact modu_P
  have hp : IsPrime m := by rw [Hm.out]; exact PP_prime
  have h4 : m % 4 = 3 := by rw [Hm.out]; exact PP_four
  replace h4 := Lib.hid h4
  have hm1 : m + 1 < M256 := by rw [Hm.out]; decide
  have hR : Glob 0 m w := by rw [Hm.out]; exact hG
  by_cases hown : evenRoot m (a * a % m) = a % m
  · by_cases hb : HasRoot m b
    · replace hb := Lib.hid hb
      obtain ⟨v20, Hv20⟩ : ∃ n, Hid (a * a % m = n) := ⟨_, Lib.hid rfl⟩
      have mv20 : v20 < M256 := by rw [← Hv20.out]; exact hm.mod _
      obtain ⟨v24, Hv24⟩ : ∃ n, Hid (evenRoot m v20 = n) := ⟨_, Lib.hid rfl⟩
      have mv24 : v24 < M256 := by rw [← Hv24.out]; exact Nat.lt_trans (evenRoot_lt hm.pos) hm.lt
      obtain ⟨v30, Hv30⟩ : ∃ n, Hid ((a + 0 * M256) % m = n) := ⟨_, Lib.hid rfl⟩
      have mv30 : v30 < M256 := by rw [← Hv30.out]; exact hm.mod _
      obtain ⟨v55, Hv55⟩ : ∃ n, Hid (evenRoot m b = n) := ⟨_, Lib.hid rfl⟩
      have mv55 : v55 < M256 := by rw [← Hv55.out]; exact Nat.lt_trans (evenRoot_lt hm.pos) hm.lt
      obtain ⟨v83, Hv83⟩ : ∃ n, Hid (v55 * v55 % m = n) := ⟨_, Lib.hid rfl⟩
      have mv83 : v83 < M256 := by rw [← Hv83.out]; exact hm.mod _
      obtain ⟨v87, Hv87⟩ : ∃ n, Hid ((b + 0 * M256) % m = n) := ⟨_, Lib.hid rfl⟩
      have mv87 : v87 < M256 := by rw [← Hv87.out]; exact hm.mod _
      have F36 := Lib.hid (show ((limb v24 0 : Nat) : Int) % 2 = 0 by rw [limb0_rem, ← Hv24.out, evenRoot_even (by have := h4.out; omega)]; rfl)
      have F42 := Lib.hid (neqW_no (show v24 = v30 by rw [← Hv24.out, ← Hv20.out, ← Hv30.out, fold_zero]; exact hown))
      have F88 := Lib.hid (eqlW_yes (show v83 = v87 by rw [← Hv83.out, ← Hv87.out, ← Hv55.out, fold_zero]; exact evenRoot_sq hm.pos hb.out))
      clear hown
      have hM0 := mm_nil w
      (try unfold WV)
      go_enter Tryd.func7, Tryd.ntmps7
      go_wp2_with (first
        | ((with_reducible change wpList _ _ _ (Oper.mk (some 2) _ _ _ _ _ :: _) _ _); refine mmBox hM0 _ _ _ rfl rfl rfl ?_; intro w1 hM1; clear hM0; go_frame)
        | ((with_reducible change wpList _ _ _ (Oper.mk (some 3) _ _ _ _ _ :: _) _ _); refine mmBox hM1 _ _ _ rfl rfl rfl ?_; intro w2 hM2; clear hM1; go_frame)
        | (go_at_call 10; refine (fieldAlive_any _ (hG.below hM2.below)).mono ?_; rintro e w3 ⟨rfl, hB3⟩; have hM3 := hM2.on hB3; clear hB3 hM2; (try unfold WV); go_frame)
        | (go_at_call 11; refine (fP_any m _ (hR.below hM3.below)).mono ?_; rintro e w4 ⟨rfl, hR4, hB4⟩; have hM4 := hM3.new hR4 hB4; clear hB4 hR4 hM3; go_frame)
        | ((with_reducible change wpList _ _ _ (Oper.mk (some 18) _ _ _ _ _ :: _) _ _); refine kLoadRow _ _ _ _ _ _ rfl rfl rfl (hM4.get 2 rfl) Tryd.underlying25 rfl (info_WideC _) ?_; go_frame)
        | ((with_reducible change wpList _ _ _ (Oper.mk (some 19) _ _ _ _ _ :: _) _ _); refine kLoadRow _ _ _ _ _ _ rfl rfl rfl (hM4.get 2 rfl) Tryd.underlying25 rfl (info_WideC _) ?_; go_frame)
        | (go_at_call 25; (with_reducible change Calls _ _ #[Value.pointer (some ⟨w3.heap.size, 0, none⟩), Value.agg (wcells a), Value.agg (wcells a)] _ _); refine (fMul_as hm (w3.heap.size) ma ma Hv20.out _ (hM4.get 0 rfl)).mono ?_; rintro e w5 ⟨rfl, hB5⟩; have hM5 := hM4.on hB5; clear hB5 hM4; (try unfold WV); go_frame)
        | ((with_reducible change wpList _ _ _ (Oper.mk (some 6) _ _ _ _ _ :: _) _ _); refine mmAlloc hM5 _ _ rfl rfl zero_Wide ?_; intro w6 hM6; clear hM5; go_frame)
        | ((with_reducible change wpList _ _ _ (Oper.mk none (Op.store _ (Operand.tmp 6) (Operand.tmp 20)) _ _ _ _ :: _) _ _); refine mmStoreAt hM6 0 _ _ _ _ _ _ (wcells v20) rfl rfl rfl rfl rfl (info_WideC _) (by simp only [wcells_size]) (wcells_one _) ?_; intro w7 hM7; dsimp only [List.set] at hM7; clear hM6; go_frame)
        | ((with_reducible change wpList _ _ _ (Oper.mk (some 23) _ _ _ _ _ :: _) _ _); refine kLoadRow _ _ _ _ _ _ rfl rfl rfl (hM7.get 0 rfl) Tryd.underlying25 rfl (info_WideC _) ?_; go_frame)
        | (go_at_call 15; (with_reducible change Calls _ _ #[Value.pointer (some ⟨w3.heap.size, 0, none⟩), Value.agg (wcells v20)] _ _); refine (fRoot_some hm (w3.heap.size) mv20 (hasRoot_square hp h4.out Hv20.out.symm) Hv24.out hm1 _ (hM7.get 1 rfl) (hR.below hM7.below)).mono ?_; rintro e w8 ⟨rfl, hB8⟩; have hM8 := hM7.on hB8; clear hB8 hM7; (try unfold WV); go_frame)
        | ((with_reducible change wpList _ _ _ (Oper.mk (some 7) _ _ _ _ _ :: _) _ _); refine mmAlloc hM8 _ _ rfl rfl zero_Wide ?_; intro w9 hM9; clear hM8; go_frame)
        | ((with_reducible change wpList _ _ _ (Oper.mk none (Op.store _ (Operand.tmp 7) (Operand.tmp 25)) _ _ _ _ :: _) _ _); refine mmStoreAt hM9 0 _ _ _ _ _ _ (wcells v24) rfl rfl rfl rfl rfl (info_WideC _) (by simp only [wcells_size]) (wcells_one _) ?_; intro w10 hM10; dsimp only [List.set] at hM10; clear hM9; go_frame)
        | ((with_reducible change wpList _ _ _ (Oper.mk (some 28) _ _ _ _ _ :: _) _ _); refine kLoadRow _ _ _ _ _ _ rfl rfl rfl (hM10.get 4 rfl) Tryd.underlying25 rfl (info_WideC _) ?_; go_frame)
        | ((with_reducible change wpList _ _ _ (Oper.mk (some 29) _ _ _ _ _ :: _) _ _); refine kBuildW0 rfl rfl ?_; go_frame)
        | (go_at_call 30; (with_reducible change Calls _ _ #[Value.pointer (some ⟨w3.heap.size, 0, none⟩), Value.agg (wcells a), Value.agg (wcells 0)] _ _); refine (fFold_as hm (w3.heap.size) ma M256_pos Hv30.out _ (hM10.get 2 rfl)).mono ?_; rintro e w11 ⟨rfl, hB11⟩; have hM11 := hM10.on hB11; clear hB11 hM10; (try unfold WV); go_frame)
        | ((with_reducible change wpList _ _ _ (Oper.mk (some 9) _ _ _ _ _ :: _) _ _); refine mmAlloc hM11 _ _ rfl rfl zero_Wide ?_; intro w12 hM12; clear hM11; go_frame)
        | ((with_reducible change wpList _ _ _ (Oper.mk none (Op.store _ (Operand.tmp 9) (Operand.tmp 30)) _ _ _ _ :: _) _ _); refine mmStoreAt hM12 0 _ _ _ _ _ _ (wcells v30) rfl rfl rfl rfl rfl (info_WideC _) (by simp only [wcells_size]) (wcells_one _) ?_; intro w13 hM13; dsimp only [List.set] at hM13; clear hM12; go_frame))
      refine region_sym (fun _ => 0) [.val (.int .i64 (0)), .val (.bool false), .val (.bool false), .val (.pointer (some ⟨w8.heap.size, 0, none⟩)), .val (.int .u64 ((limb v24 0 : Int))), .val (.int .u64 (0)), .val (.bool false), .val (.bool false), .val (.bool false), .val (.agg (wcells v24)), .val (.agg (wcells v30)), .val (.bool false), .val (.bool false), .val (undef), .val (undef), .val (undef), .val (undef), .val (undef), .val (undef), .val (.bool false), .val (.bool false)] [.val (.int .i64 (0)), .val (.bool false), .val (.bool false), .val (.pointer (some ⟨w8.heap.size, 0, none⟩)), .val (.int .u64 ((limb v24 0 : Int))), .val (.int .u64 (0)), .val (.bool false), .val (.bool false), .val (.bool false), .val (.agg (wcells v24)), .val (.agg (wcells v30)), .val (.bool false), .val (.bool false), .val (undef), .val (undef), .val (undef), .val (undef), .val (undef), .val (undef), .val (.bool false), .val (.bool false)] (by kernel_rfl) (by kernel_rfl) rfl rfl (steps_all ⟨?_, ?_, ?_, ?_, ?_, ?_, ?_, ?_, ?_, ?_, ?_, ?_, ?_, ?_, ?_, ?_, ?_, ?_, ?_, ?_, ?_, trivial⟩) ?_
      · intro A W hsz hoth hbel hdep
        exact kMoveV _ (.int .i64 (0)) rfl rfl ((hoth 8 (free2_of (by kernel_rfl))).trans rfl) (symV hbel hsz rfl rfl (show 31 < 89 by decide) (Below.refl _ _) rfl)
      · intro A W hsz hoth hbel hdep
        exact kNeqI _ _ _ _ .i64 (0) (0) false rfl rfl (by have h := hdep ⟨0, .data⟩ (by simp) rfl; exact h) rfl (by decide) (symV hbel hsz rfl rfl (show 32 < 89 by decide) (Below.refl _ _) rfl)
      · intro A W hsz hoth hbel hdep
        exact kMoveV _ (.bool false) rfl rfl (by have h := hdep ⟨1, .data⟩ (by simp) rfl; exact h) (symV hbel hsz rfl rfl (show 33 < 89 by decide) (Below.refl _ _) rfl)
      · intro A W hsz hoth hbel hdep
        exact kIndexAddr1 _ _ _ _ _ _ _ 0 _ rfl (wanted_of rfl rfl (by have h := hdep ⟨2, .guard⟩ (by simp) rfl; exact h)) ((hoth 7 (free2_of (by kernel_rfl))).trans rfl) rfl Tryd.underlying25 info_w64 rfl (by decide) (symV hbel hsz rfl rfl (show 34 < 89 by decide) (Below.refl _ _) rfl)
      · intro A W hsz hoth hbel hdep
        exact kLoad1 _ _ _ _ _ _ _ _ rfl (wanted_of rfl rfl (by have h := hdep ⟨2, .guard⟩ (by simp) rfl; exact h)) (by have h := hdep ⟨3, .data⟩ (by simp) rfl; exact h) ((hM13.get 1 rfl).on hbel) Tryd.underlying23 rfl (wcells_get v24 0 (by decide)) (symV hbel hsz rfl rfl (show 35 < 89 by decide) (Below.refl _ _) rfl)
      · intro A W hsz hoth hbel hdep
        exact kRemU _ _ _ _ _ _ (0) rfl (wanted_of rfl rfl (by have h := hdep ⟨2, .guard⟩ (by simp) rfl; exact h)) (by have h := hdep ⟨4, .data⟩ (by simp) rfl; exact h) rfl (⟨rfl, F36.out⟩) (symV hbel hsz rfl rfl (show 36 < 89 by decide) (Below.refl _ _) rfl)
      · intro A W hsz hoth hbel hdep
        exact kEqlI _ _ _ _ .u64 (0) (1) false rfl (wanted_of rfl rfl (by have h := hdep ⟨2, .guard⟩ (by simp) rfl; exact h)) (by have h := hdep ⟨5, .data⟩ (by simp) rfl; exact h) rfl (by decide) (symV hbel hsz rfl rfl (show 37 < 89 by decide) (Below.refl _ _) rfl)
      · intro A W hsz hoth hbel hdep
        exact kPick _ _ _ false (.bool false) rfl rfl (by have h := hdep ⟨2, .data⟩ (by simp) rfl; exact h) (by have h := hdep ⟨6, .data⟩ (by simp) rfl; exact h) (symV hbel hsz rfl rfl (show 38 < 89 by decide) (Below.refl _ _) rfl)
      · intro A W hsz hoth hbel hdep
        exact kMoveV _ (.bool false) rfl rfl (by have h := hdep ⟨7, .data⟩ (by simp) rfl; exact h) (symV hbel hsz rfl rfl (show 39 < 89 by decide) (Below.refl _ _) rfl)
      · intro A W hsz hoth hbel hdep
        exact kLoadRow _ _ _ _ _ _ rfl (wanted_of rfl rfl (by have h := hdep ⟨8, .guard⟩ (by simp) rfl; exact h)) ((hoth 7 (free2_of (by kernel_rfl))).trans rfl) ((hM13.get 1 rfl).on hbel) Tryd.underlying25 rfl (info_WideC _) (symV hbel hsz rfl rfl (show 40 < 89 by decide) (Below.refl _ _) rfl)
      · intro A W hsz hoth hbel hdep
        exact kLoadRow _ _ _ _ _ _ rfl (wanted_of rfl rfl (by have h := hdep ⟨8, .guard⟩ (by simp) rfl; exact h)) ((hoth 9 (free2_of (by kernel_rfl))).trans rfl) ((hM13.get 0 rfl).on hbel) Tryd.underlying25 rfl (info_WideC _) (symV hbel hsz rfl rfl (show 41 < 89 by decide) (Below.refl _ _) rfl)
      · intro A W hsz hoth hbel hdep
        exact kNeqW _ _ _ (v24) (v30) false rfl (wanted_of rfl rfl (by have h := hdep ⟨8, .guard⟩ (by simp) rfl; exact h)) (by have h := hdep ⟨9, .data⟩ (by simp) rfl; exact h) (by have h := hdep ⟨10, .data⟩ (by simp) rfl; exact h) (F42.out) (symV hbel hsz rfl rfl (show 42 < 89 by decide) (Below.refl _ _) rfl)
      · intro A W hsz hoth hbel hdep
        exact kMoveV _ (.bool false) rfl (wanted_of rfl rfl (by have h := hdep ⟨8, .chain⟩ (by simp) rfl; exact h)) (by have h := hdep ⟨11, .data⟩ (by simp) rfl; exact h) (symV hbel hsz rfl rfl (show 43 < 89 by decide) (Below.refl _ _) rfl)
      · intro A W hsz hoth hbel hdep
        exact wpList_skip (unwanted_of rfl rfl (by have h := hdep ⟨12, .guard⟩ (by simp) rfl; exact h) (.inl rfl)) (symV hbel hsz rfl rfl (show 44 < 89 by decide) (Below.refl _ _) rfl)
      · intro A W hsz hoth hbel hdep
        exact wpList_skip (unwanted_of rfl rfl (by have h := hdep ⟨12, .guard⟩ (by simp) rfl; exact h) (.inl rfl)) (symV hbel hsz rfl rfl (show 45 < 89 by decide) (Below.refl _ _) rfl)
      · intro A W hsz hoth hbel hdep
        exact wpList_skip (unwanted_of rfl rfl (by have h := hdep ⟨12, .guard⟩ (by simp) rfl; exact h) (.inl rfl)) (symV hbel hsz rfl rfl (show 46 < 89 by decide) (Below.refl _ _) rfl)
      · intro A W hsz hoth hbel hdep
        exact wpList_skip (unwanted_of rfl rfl (by have h := hdep ⟨12, .guard⟩ (by simp) rfl; exact h) (.inl rfl)) (symV hbel hsz rfl rfl (show 47 < 89 by decide) (Below.refl _ _) rfl)
      · intro A W hsz hoth hbel hdep
        exact wpList_skip (unwanted_of rfl rfl (by have h := hdep ⟨12, .chain⟩ (by simp) rfl; exact h) (.inl rfl)) (symV hbel hsz rfl rfl (show 48 < 89 by decide) (Below.refl _ _) rfl)
      · intro A W hsz hoth hbel hdep
        exact wpList_skip (unwanted_of rfl rfl (by have h := hdep ⟨12, .guard⟩ (by simp) rfl; exact h) (.inl rfl)) (symV hbel hsz rfl rfl (show 49 < 89 by decide) (Below.refl _ _) rfl)
      · intro A W hsz hoth hbel hdep
        exact kPick _ _ _ false (.bool false) rfl (wanted_of rfl rfl (by have h := hdep ⟨8, .guard⟩ (by simp) rfl; exact h)) (by have h := hdep ⟨12, .data⟩ (by simp) rfl; exact h) rfl (symV hbel hsz rfl rfl (show 50 < 89 by decide) (Below.refl _ _) rfl)
      · intro A W hsz hoth hbel hdep
        exact kPick _ _ _ false (.bool false) rfl rfl (by have h := hdep ⟨8, .data⟩ (by simp) rfl; exact h) (by have h := hdep ⟨19, .data⟩ (by simp) rfl; exact h) (symV hbel hsz rfl rfl (show 51 < 89 by decide) (Below.refl _ _) rfl)
      intro w14 hB14
      dsimp only [AllV]
      dsimp only [putAll]
      go_frame
      have hM14 := hM13.on hB14
      clear hB14 hM13
      go_wp2_with (first
        | ((with_reducible change wpList _ _ _ (Oper.mk (some 54) _ _ _ _ _ :: _) _ _); refine kLoadRow _ _ _ _ _ _ rfl rfl rfl (hM14.get 4 rfl) Tryd.underlying25 rfl (info_WideC _) ?_; go_frame)
        | (go_at_call 15; (with_reducible change Calls _ _ #[Value.pointer (some ⟨w3.heap.size, 0, none⟩), Value.agg (wcells b)] _ _); refine (fRoot_some hm (w3.heap.size) mb hb.out Hv55.out hm1 _ (hM14.get 3 rfl) (hR.below hM14.below)).mono ?_; rintro e w15 ⟨rfl, hB15⟩; have hM15 := hM14.on hB15; clear hB15 hM14; (try unfold WV); go_frame)
        | ((with_reducible change wpList _ _ _ (Oper.mk (some 10) _ _ _ _ _ :: _) _ _); refine mmAlloc hM15 _ _ rfl rfl zero_Wide ?_; intro w16 hM16; clear hM15; go_frame)
        | ((with_reducible change wpList _ _ _ (Oper.mk none (Op.store _ (Operand.tmp 10) (Operand.tmp 56)) _ _ _ _ :: _) _ _); refine mmStoreAt hM16 0 _ _ _ _ _ _ (wcells v55) rfl rfl rfl rfl rfl (info_WideC _) (by simp only [wcells_size]) (wcells_one _) ?_; intro w17 hM17; dsimp only [List.set] at hM17; clear hM16; go_frame)
        | ((with_reducible change wpList _ _ _ (Oper.mk (some 59) _ _ _ _ _ :: _) _ _); refine kNeqI _ _ _ _ .i64 (0) (0) false rfl rfl rfl rfl (by decide) ?_; go_frame))
      refine region_sym (fun _ => 0) [.val (.pointer (some ⟨w3.heap.size, 0, none⟩)), .val (.agg (wcells v55)), .val (.agg (wcells v55)), .val (.agg (wcells v83)), .val (.pointer (some ⟨w3.heap.size, 0, none⟩)), .val (.agg (wcells b)), .val (.agg (wcells 0)), .val (.agg (wcells v87)), .val (.bool true), .val (.bool true)] [.val (.pointer (some ⟨w3.heap.size, 0, none⟩)), .val (.agg (wcells v55)), .val (.agg (wcells v55)), .val (.agg (wcells v83)), .val (.pointer (some ⟨w3.heap.size, 0, none⟩)), .val (.agg (wcells b)), .val (.agg (wcells 0)), .val (.agg (wcells v87)), .val (.bool true), .val (.bool true)] (by kernel_rfl) (by kernel_rfl) rfl rfl (steps_all ⟨?_, ?_, ?_, ?_, ?_, ?_, ?_, ?_, ?_, ?_, trivial⟩) ?_
      · intro A W hsz hoth hbel hdep
        exact kMoveV _ (.pointer (some ⟨w3.heap.size, 0, none⟩)) rfl rfl ((hoth 5 (free2_of (by kernel_rfl))).trans rfl) (symV hbel hsz rfl rfl (show 80 < 89 by decide) (Below.refl _ _) rfl)
      · intro A W hsz hoth hbel hdep
        exact kLoadRow _ _ _ _ _ _ rfl rfl ((hoth 10 (free2_of (by kernel_rfl))).trans rfl) ((hM17.get 0 rfl).on hbel) Tryd.underlying25 rfl (info_WideC _) (symV hbel hsz rfl rfl (show 81 < 89 by decide) (Below.refl _ _) rfl)
      · intro A W hsz hoth hbel hdep
        exact kLoadRow _ _ _ _ _ _ rfl rfl ((hoth 10 (free2_of (by kernel_rfl))).trans rfl) ((hM17.get 0 rfl).on hbel) Tryd.underlying25 rfl (info_WideC _) (symV hbel hsz rfl rfl (show 82 < 89 by decide) (Below.refl _ _) rfl)
      · intro A W hsz hoth hbel hdep
        refine kCall3 25 _ _ _ _ _ _ _ rfl rfl (by kernel_rfl) (by have h := hdep ⟨0, .data⟩ (by simp) rfl; exact h) (by have h := hdep ⟨1, .data⟩ (by simp) rfl; exact h) (by have h := hdep ⟨2, .data⟩ (by simp) rfl; exact h) ?_
        refine (fMul_as hm (w3.heap.size) mv55 mv55 Hv83.out W ((hM17.get 4 rfl).on hbel)).mono ?_
        rintro e r ⟨rfl, hBc⟩
        exact ⟨_, rfl, (symV hbel hsz rfl rfl (show 83 < 89 by decide) hBc rfl)⟩
      · intro A W hsz hoth hbel hdep
        exact kMoveV _ (.pointer (some ⟨w3.heap.size, 0, none⟩)) rfl rfl ((hoth 5 (free2_of (by kernel_rfl))).trans rfl) (symV hbel hsz rfl rfl (show 84 < 89 by decide) (Below.refl _ _) rfl)
      · intro A W hsz hoth hbel hdep
        exact kLoadRow _ _ _ _ _ _ rfl rfl ((hoth 3 (free2_of (by kernel_rfl))).trans rfl) ((hM17.get 5 rfl).on hbel) Tryd.underlying25 rfl (info_WideC _) (symV hbel hsz rfl rfl (show 85 < 89 by decide) (Below.refl _ _) rfl)
      · intro A W hsz hoth hbel hdep
        exact kBuildW0 rfl rfl (symV hbel hsz rfl rfl (show 86 < 89 by decide) (Below.refl _ _) rfl)
      · intro A W hsz hoth hbel hdep
        refine kCall3 30 _ _ _ _ _ _ _ rfl rfl (by kernel_rfl) (by have h := hdep ⟨4, .data⟩ (by simp) rfl; exact h) (by have h := hdep ⟨5, .data⟩ (by simp) rfl; exact h) (by have h := hdep ⟨6, .data⟩ (by simp) rfl; exact h) ?_
        refine (fFold_as hm (w3.heap.size) mb M256_pos Hv87.out W ((hM17.get 4 rfl).on hbel)).mono ?_
        rintro e r ⟨rfl, hBc⟩
        exact ⟨_, rfl, (symV hbel hsz rfl rfl (show 87 < 89 by decide) hBc rfl)⟩
      · intro A W hsz hoth hbel hdep
        exact kEqlW _ _ _ (v83) (v87) true rfl rfl (by have h := hdep ⟨3, .data⟩ (by simp) rfl; exact h) (by have h := hdep ⟨7, .data⟩ (by simp) rfl; exact h) (F88.out) (symV hbel hsz rfl rfl (show 88 < 89 by decide) (Below.refl _ _) rfl)
      · intro A W hsz hoth hbel hdep
        exact kAssignV _ (.bool true) rfl rfl (by have h := hdep ⟨8, .data⟩ (by simp) rfl; exact h) (symV hbel hsz rfl rfl (show 4 < 89 by decide) (Below.refl _ _) rfl)
      intro w18 hB18
      dsimp only [AllV]
      dsimp only [putAll]
      go_frame
      have hM18 := hM17.on hB18
      clear hB18 hM17
      go_wp2_with fail
      go_ret
      exact ⟨rfl, hM18.below⟩
    · replace hb := Lib.hid hb
      obtain ⟨v20, Hv20⟩ : ∃ n, Hid (a * a % m = n) := ⟨_, Lib.hid rfl⟩
      have mv20 : v20 < M256 := by rw [← Hv20.out]; exact hm.mod _
      obtain ⟨v24, Hv24⟩ : ∃ n, Hid (evenRoot m v20 = n) := ⟨_, Lib.hid rfl⟩
      have mv24 : v24 < M256 := by rw [← Hv24.out]; exact Nat.lt_trans (evenRoot_lt hm.pos) hm.lt
      obtain ⟨v30, Hv30⟩ : ∃ n, Hid ((a + 0 * M256) % m = n) := ⟨_, Lib.hid rfl⟩
      have mv30 : v30 < M256 := by rw [← Hv30.out]; exact hm.mod _
      obtain ⟨v65, Hv65⟩ : ∃ n, Hid ((0 % m + m - b % m) % m = n) := ⟨_, Lib.hid rfl⟩
      have mv65 : v65 < M256 := by rw [← Hv65.out]; exact hm.mod _
      obtain ⟨v66, Hv66⟩ : ∃ n, Hid (evenRoot m v65 = n) := ⟨_, Lib.hid rfl⟩
      have mv66 : v66 < M256 := by rw [← Hv66.out]; exact Nat.lt_trans (evenRoot_lt hm.pos) hm.lt
      have F36 := Lib.hid (show ((limb v24 0 : Nat) : Int) % 2 = 0 by rw [limb0_rem, ← Hv24.out, evenRoot_even (by have := h4.out; omega)]; rfl)
      have F42 := Lib.hid (neqW_no (show v24 = v30 by rw [← Hv24.out, ← Hv20.out, ← Hv30.out, fold_zero]; exact hown))
      clear hown
      have hM0 := mm_nil w
      (try unfold WV)
      go_enter Tryd.func7, Tryd.ntmps7
      go_wp2_with (first
        | ((with_reducible change wpList _ _ _ (Oper.mk (some 2) _ _ _ _ _ :: _) _ _); refine mmBox hM0 _ _ _ rfl rfl rfl ?_; intro w1 hM1; clear hM0; go_frame)
        | ((with_reducible change wpList _ _ _ (Oper.mk (some 3) _ _ _ _ _ :: _) _ _); refine mmBox hM1 _ _ _ rfl rfl rfl ?_; intro w2 hM2; clear hM1; go_frame)
        | (go_at_call 10; refine (fieldAlive_any _ (hG.below hM2.below)).mono ?_; rintro e w3 ⟨rfl, hB3⟩; have hM3 := hM2.on hB3; clear hB3 hM2; (try unfold WV); go_frame)
        | (go_at_call 11; refine (fP_any m _ (hR.below hM3.below)).mono ?_; rintro e w4 ⟨rfl, hR4, hB4⟩; have hM4 := hM3.new hR4 hB4; clear hB4 hR4 hM3; go_frame)
        | ((with_reducible change wpList _ _ _ (Oper.mk (some 18) _ _ _ _ _ :: _) _ _); refine kLoadRow _ _ _ _ _ _ rfl rfl rfl (hM4.get 2 rfl) Tryd.underlying25 rfl (info_WideC _) ?_; go_frame)
        | ((with_reducible change wpList _ _ _ (Oper.mk (some 19) _ _ _ _ _ :: _) _ _); refine kLoadRow _ _ _ _ _ _ rfl rfl rfl (hM4.get 2 rfl) Tryd.underlying25 rfl (info_WideC _) ?_; go_frame)
        | (go_at_call 25; (with_reducible change Calls _ _ #[Value.pointer (some ⟨w3.heap.size, 0, none⟩), Value.agg (wcells a), Value.agg (wcells a)] _ _); refine (fMul_as hm (w3.heap.size) ma ma Hv20.out _ (hM4.get 0 rfl)).mono ?_; rintro e w5 ⟨rfl, hB5⟩; have hM5 := hM4.on hB5; clear hB5 hM4; (try unfold WV); go_frame)
        | ((with_reducible change wpList _ _ _ (Oper.mk (some 6) _ _ _ _ _ :: _) _ _); refine mmAlloc hM5 _ _ rfl rfl zero_Wide ?_; intro w6 hM6; clear hM5; go_frame)
        | ((with_reducible change wpList _ _ _ (Oper.mk none (Op.store _ (Operand.tmp 6) (Operand.tmp 20)) _ _ _ _ :: _) _ _); refine mmStoreAt hM6 0 _ _ _ _ _ _ (wcells v20) rfl rfl rfl rfl rfl (info_WideC _) (by simp only [wcells_size]) (wcells_one _) ?_; intro w7 hM7; dsimp only [List.set] at hM7; clear hM6; go_frame)
        | ((with_reducible change wpList _ _ _ (Oper.mk (some 23) _ _ _ _ _ :: _) _ _); refine kLoadRow _ _ _ _ _ _ rfl rfl rfl (hM7.get 0 rfl) Tryd.underlying25 rfl (info_WideC _) ?_; go_frame)
        | (go_at_call 15; (with_reducible change Calls _ _ #[Value.pointer (some ⟨w3.heap.size, 0, none⟩), Value.agg (wcells v20)] _ _); refine (fRoot_some hm (w3.heap.size) mv20 (hasRoot_square hp h4.out Hv20.out.symm) Hv24.out hm1 _ (hM7.get 1 rfl) (hR.below hM7.below)).mono ?_; rintro e w8 ⟨rfl, hB8⟩; have hM8 := hM7.on hB8; clear hB8 hM7; (try unfold WV); go_frame)
        | ((with_reducible change wpList _ _ _ (Oper.mk (some 7) _ _ _ _ _ :: _) _ _); refine mmAlloc hM8 _ _ rfl rfl zero_Wide ?_; intro w9 hM9; clear hM8; go_frame)
        | ((with_reducible change wpList _ _ _ (Oper.mk none (Op.store _ (Operand.tmp 7) (Operand.tmp 25)) _ _ _ _ :: _) _ _); refine mmStoreAt hM9 0 _ _ _ _ _ _ (wcells v24) rfl rfl rfl rfl rfl (info_WideC _) (by simp only [wcells_size]) (wcells_one _) ?_; intro w10 hM10; dsimp only [List.set] at hM10; clear hM9; go_frame)
        | ((with_reducible change wpList _ _ _ (Oper.mk (some 28) _ _ _ _ _ :: _) _ _); refine kLoadRow _ _ _ _ _ _ rfl rfl rfl (hM10.get 4 rfl) Tryd.underlying25 rfl (info_WideC _) ?_; go_frame)
        | ((with_reducible change wpList _ _ _ (Oper.mk (some 29) _ _ _ _ _ :: _) _ _); refine kBuildW0 rfl rfl ?_; go_frame)
        | (go_at_call 30; (with_reducible change Calls _ _ #[Value.pointer (some ⟨w3.heap.size, 0, none⟩), Value.agg (wcells a), Value.agg (wcells 0)] _ _); refine (fFold_as hm (w3.heap.size) ma M256_pos Hv30.out _ (hM10.get 2 rfl)).mono ?_; rintro e w11 ⟨rfl, hB11⟩; have hM11 := hM10.on hB11; clear hB11 hM10; (try unfold WV); go_frame)
        | ((with_reducible change wpList _ _ _ (Oper.mk (some 9) _ _ _ _ _ :: _) _ _); refine mmAlloc hM11 _ _ rfl rfl zero_Wide ?_; intro w12 hM12; clear hM11; go_frame)
        | ((with_reducible change wpList _ _ _ (Oper.mk none (Op.store _ (Operand.tmp 9) (Operand.tmp 30)) _ _ _ _ :: _) _ _); refine mmStoreAt hM12 0 _ _ _ _ _ _ (wcells v30) rfl rfl rfl rfl rfl (info_WideC _) (by simp only [wcells_size]) (wcells_one _) ?_; intro w13 hM13; dsimp only [List.set] at hM13; clear hM12; go_frame))
      refine region_sym (fun _ => 0) [.val (.int .i64 (0)), .val (.bool false), .val (.bool false), .val (.pointer (some ⟨w8.heap.size, 0, none⟩)), .val (.int .u64 ((limb v24 0 : Int))), .val (.int .u64 (0)), .val (.bool false), .val (.bool false), .val (.bool false), .val (.agg (wcells v24)), .val (.agg (wcells v30)), .val (.bool false), .val (.bool false), .val (undef), .val (undef), .val (undef), .val (undef), .val (undef), .val (undef), .val (.bool false), .val (.bool false)] [.val (.int .i64 (0)), .val (.bool false), .val (.bool false), .val (.pointer (some ⟨w8.heap.size, 0, none⟩)), .val (.int .u64 ((limb v24 0 : Int))), .val (.int .u64 (0)), .val (.bool false), .val (.bool false), .val (.bool false), .val (.agg (wcells v24)), .val (.agg (wcells v30)), .val (.bool false), .val (.bool false), .val (undef), .val (undef), .val (undef), .val (undef), .val (undef), .val (undef), .val (.bool false), .val (.bool false)] (by kernel_rfl) (by kernel_rfl) rfl rfl (steps_all ⟨?_, ?_, ?_, ?_, ?_, ?_, ?_, ?_, ?_, ?_, ?_, ?_, ?_, ?_, ?_, ?_, ?_, ?_, ?_, ?_, ?_, trivial⟩) ?_
      · intro A W hsz hoth hbel hdep
        exact kMoveV _ (.int .i64 (0)) rfl rfl ((hoth 8 (free2_of (by kernel_rfl))).trans rfl) (symV hbel hsz rfl rfl (show 31 < 89 by decide) (Below.refl _ _) rfl)
      · intro A W hsz hoth hbel hdep
        exact kNeqI _ _ _ _ .i64 (0) (0) false rfl rfl (by have h := hdep ⟨0, .data⟩ (by simp) rfl; exact h) rfl (by decide) (symV hbel hsz rfl rfl (show 32 < 89 by decide) (Below.refl _ _) rfl)
      · intro A W hsz hoth hbel hdep
        exact kMoveV _ (.bool false) rfl rfl (by have h := hdep ⟨1, .data⟩ (by simp) rfl; exact h) (symV hbel hsz rfl rfl (show 33 < 89 by decide) (Below.refl _ _) rfl)
      · intro A W hsz hoth hbel hdep
        exact kIndexAddr1 _ _ _ _ _ _ _ 0 _ rfl (wanted_of rfl rfl (by have h := hdep ⟨2, .guard⟩ (by simp) rfl; exact h)) ((hoth 7 (free2_of (by kernel_rfl))).trans rfl) rfl Tryd.underlying25 info_w64 rfl (by decide) (symV hbel hsz rfl rfl (show 34 < 89 by decide) (Below.refl _ _) rfl)
      · intro A W hsz hoth hbel hdep
        exact kLoad1 _ _ _ _ _ _ _ _ rfl (wanted_of rfl rfl (by have h := hdep ⟨2, .guard⟩ (by simp) rfl; exact h)) (by have h := hdep ⟨3, .data⟩ (by simp) rfl; exact h) ((hM13.get 1 rfl).on hbel) Tryd.underlying23 rfl (wcells_get v24 0 (by decide)) (symV hbel hsz rfl rfl (show 35 < 89 by decide) (Below.refl _ _) rfl)
      · intro A W hsz hoth hbel hdep
        exact kRemU _ _ _ _ _ _ (0) rfl (wanted_of rfl rfl (by have h := hdep ⟨2, .guard⟩ (by simp) rfl; exact h)) (by have h := hdep ⟨4, .data⟩ (by simp) rfl; exact h) rfl (⟨rfl, F36.out⟩) (symV hbel hsz rfl rfl (show 36 < 89 by decide) (Below.refl _ _) rfl)
      · intro A W hsz hoth hbel hdep
        exact kEqlI _ _ _ _ .u64 (0) (1) false rfl (wanted_of rfl rfl (by have h := hdep ⟨2, .guard⟩ (by simp) rfl; exact h)) (by have h := hdep ⟨5, .data⟩ (by simp) rfl; exact h) rfl (by decide) (symV hbel hsz rfl rfl (show 37 < 89 by decide) (Below.refl _ _) rfl)
      · intro A W hsz hoth hbel hdep
        exact kPick _ _ _ false (.bool false) rfl rfl (by have h := hdep ⟨2, .data⟩ (by simp) rfl; exact h) (by have h := hdep ⟨6, .data⟩ (by simp) rfl; exact h) (symV hbel hsz rfl rfl (show 38 < 89 by decide) (Below.refl _ _) rfl)
      · intro A W hsz hoth hbel hdep
        exact kMoveV _ (.bool false) rfl rfl (by have h := hdep ⟨7, .data⟩ (by simp) rfl; exact h) (symV hbel hsz rfl rfl (show 39 < 89 by decide) (Below.refl _ _) rfl)
      · intro A W hsz hoth hbel hdep
        exact kLoadRow _ _ _ _ _ _ rfl (wanted_of rfl rfl (by have h := hdep ⟨8, .guard⟩ (by simp) rfl; exact h)) ((hoth 7 (free2_of (by kernel_rfl))).trans rfl) ((hM13.get 1 rfl).on hbel) Tryd.underlying25 rfl (info_WideC _) (symV hbel hsz rfl rfl (show 40 < 89 by decide) (Below.refl _ _) rfl)
      · intro A W hsz hoth hbel hdep
        exact kLoadRow _ _ _ _ _ _ rfl (wanted_of rfl rfl (by have h := hdep ⟨8, .guard⟩ (by simp) rfl; exact h)) ((hoth 9 (free2_of (by kernel_rfl))).trans rfl) ((hM13.get 0 rfl).on hbel) Tryd.underlying25 rfl (info_WideC _) (symV hbel hsz rfl rfl (show 41 < 89 by decide) (Below.refl _ _) rfl)
      · intro A W hsz hoth hbel hdep
        exact kNeqW _ _ _ (v24) (v30) false rfl (wanted_of rfl rfl (by have h := hdep ⟨8, .guard⟩ (by simp) rfl; exact h)) (by have h := hdep ⟨9, .data⟩ (by simp) rfl; exact h) (by have h := hdep ⟨10, .data⟩ (by simp) rfl; exact h) (F42.out) (symV hbel hsz rfl rfl (show 42 < 89 by decide) (Below.refl _ _) rfl)
      · intro A W hsz hoth hbel hdep
        exact kMoveV _ (.bool false) rfl (wanted_of rfl rfl (by have h := hdep ⟨8, .chain⟩ (by simp) rfl; exact h)) (by have h := hdep ⟨11, .data⟩ (by simp) rfl; exact h) (symV hbel hsz rfl rfl (show 43 < 89 by decide) (Below.refl _ _) rfl)
      · intro A W hsz hoth hbel hdep
        exact wpList_skip (unwanted_of rfl rfl (by have h := hdep ⟨12, .guard⟩ (by simp) rfl; exact h) (.inl rfl)) (symV hbel hsz rfl rfl (show 44 < 89 by decide) (Below.refl _ _) rfl)
      · intro A W hsz hoth hbel hdep
        exact wpList_skip (unwanted_of rfl rfl (by have h := hdep ⟨12, .guard⟩ (by simp) rfl; exact h) (.inl rfl)) (symV hbel hsz rfl rfl (show 45 < 89 by decide) (Below.refl _ _) rfl)
      · intro A W hsz hoth hbel hdep
        exact wpList_skip (unwanted_of rfl rfl (by have h := hdep ⟨12, .guard⟩ (by simp) rfl; exact h) (.inl rfl)) (symV hbel hsz rfl rfl (show 46 < 89 by decide) (Below.refl _ _) rfl)
      · intro A W hsz hoth hbel hdep
        exact wpList_skip (unwanted_of rfl rfl (by have h := hdep ⟨12, .guard⟩ (by simp) rfl; exact h) (.inl rfl)) (symV hbel hsz rfl rfl (show 47 < 89 by decide) (Below.refl _ _) rfl)
      · intro A W hsz hoth hbel hdep
        exact wpList_skip (unwanted_of rfl rfl (by have h := hdep ⟨12, .chain⟩ (by simp) rfl; exact h) (.inl rfl)) (symV hbel hsz rfl rfl (show 48 < 89 by decide) (Below.refl _ _) rfl)
      · intro A W hsz hoth hbel hdep
        exact wpList_skip (unwanted_of rfl rfl (by have h := hdep ⟨12, .guard⟩ (by simp) rfl; exact h) (.inl rfl)) (symV hbel hsz rfl rfl (show 49 < 89 by decide) (Below.refl _ _) rfl)
      · intro A W hsz hoth hbel hdep
        exact kPick _ _ _ false (.bool false) rfl (wanted_of rfl rfl (by have h := hdep ⟨8, .guard⟩ (by simp) rfl; exact h)) (by have h := hdep ⟨12, .data⟩ (by simp) rfl; exact h) rfl (symV hbel hsz rfl rfl (show 50 < 89 by decide) (Below.refl _ _) rfl)
      · intro A W hsz hoth hbel hdep
        exact kPick _ _ _ false (.bool false) rfl rfl (by have h := hdep ⟨8, .data⟩ (by simp) rfl; exact h) (by have h := hdep ⟨19, .data⟩ (by simp) rfl; exact h) (symV hbel hsz rfl rfl (show 51 < 89 by decide) (Below.refl _ _) rfl)
      intro w14 hB14
      dsimp only [AllV]
      dsimp only [putAll]
      go_frame
      have hM14 := hM13.on hB14
      clear hB14 hM13
      go_wp2_with (first
        | ((with_reducible change wpList _ _ _ (Oper.mk (some 54) _ _ _ _ _ :: _) _ _); refine kLoadRow _ _ _ _ _ _ rfl rfl rfl (hM14.get 4 rfl) Tryd.underlying25 rfl (info_WideC _) ?_; go_frame)
        | (go_at_call 15; (with_reducible change Calls _ _ #[Value.pointer (some ⟨w3.heap.size, 0, none⟩), Value.agg (wcells b)] _ _); refine (fRoot_no hm (w3.heap.size) mb hb.out hm1 _ (hM14.get 3 rfl) (hR.below hM14.below)).mono ?_; rintro e w15 ⟨rfl, hB15⟩; have hM15 := hM14.on hB15; clear hB15 hM14; (try unfold WV); go_frame)
        | ((with_reducible change wpList _ _ _ (Oper.mk (some 10) _ _ _ _ _ :: _) _ _); refine mmAlloc hM15 _ _ rfl rfl zero_Wide ?_; intro w16 hM16; clear hM15; go_frame)
        | ((with_reducible change wpList _ _ _ (Oper.mk none (Op.store _ (Operand.tmp 10) (Operand.tmp 56)) _ _ _ _ :: _) _ _); refine mmStoreAt hM16 0 _ _ _ _ _ _ (wcells 0) rfl rfl rfl rfl rfl (info_WideC _) (by simp only [wcells_size]) (wcells_one _) ?_; intro w17 hM17; dsimp only [List.set] at hM17; clear hM16; go_frame)
        | ((with_reducible change wpList _ _ _ (Oper.mk (some 59) _ _ _ _ _ :: _) _ _); refine kNeqI _ _ _ _ .i64 (31) (0) true rfl rfl rfl rfl (by decide) ?_; go_frame)
        | ((with_reducible change wpList _ _ _ (Oper.mk (some 63) _ _ _ _ _ :: _) _ _); refine kBuildW0 rfl rfl ?_; go_frame)
        | ((with_reducible change wpList _ _ _ (Oper.mk (some 64) _ _ _ _ _ :: _) _ _); refine kLoadRow _ _ _ _ _ _ rfl rfl rfl (hM17.get 5 rfl) Tryd.underlying25 rfl (info_WideC _) ?_; go_frame)
        | (go_at_call 23; (with_reducible change Calls _ _ #[Value.pointer (some ⟨w3.heap.size, 0, none⟩), Value.agg (wcells 0), Value.agg (wcells b)] _ _); refine (fSub_as hm (w3.heap.size) M256_pos mb Hv65.out _ (hM17.get 4 rfl)).mono ?_; rintro e w18 ⟨rfl, hB18⟩; have hM18 := hM17.on hB18; clear hB18 hM17; (try unfold WV); go_frame)
        | (go_at_call 15; (with_reducible change Calls _ _ #[Value.pointer (some ⟨w3.heap.size, 0, none⟩), Value.agg (wcells v65)] _ _); refine (fRoot_some hm (w3.heap.size) mv65 (hasRoot_neg hp h4.out Hv65.out.symm hb.out) Hv66.out hm1 _ (hM18.get 4 rfl) (hR.below hM18.below)).mono ?_; rintro e w19 ⟨rfl, hB19⟩; have hM19 := hM18.on hB19; clear hB19 hM18; (try unfold WV); go_frame)
        | ((with_reducible change wpList _ _ _ (Oper.mk (some 12) _ _ _ _ _ :: _) _ _); refine mmAlloc hM19 _ _ rfl rfl zero_Wide ?_; intro w20 hM20; clear hM19; go_frame)
        | ((with_reducible change wpList _ _ _ (Oper.mk none (Op.store _ (Operand.tmp 12) (Operand.tmp 67)) _ _ _ _ :: _) _ _); refine mmStoreAt hM20 0 _ _ _ _ _ _ (wcells v66) rfl rfl rfl rfl rfl (info_WideC _) (by simp only [wcells_size]) (wcells_one _) ?_; intro w21 hM21; dsimp only [List.set] at hM21; clear hM20; go_frame)
        | ((with_reducible change wpList _ _ _ (Oper.mk (some 70) _ _ _ _ _ :: _) _ _); refine kEqlI _ _ _ _ .i64 (31) (31) true rfl rfl rfl rfl (by decide) ?_; go_frame)
        | ((with_reducible change wpList _ _ _ (Oper.mk (some 73) _ _ _ _ _ :: _) _ _); refine kEqlI _ _ _ _ .i64 (0) (0) true rfl rfl rfl rfl (by decide) ?_; go_frame)
        | ((with_reducible change wpList _ _ _ (Oper.mk (some 76) _ _ _ _ _ :: _) _ _); refine kLoadRow _ _ _ _ _ _ rfl rfl rfl (hM21.get 1 rfl) Tryd.underlying25 rfl (info_WideC _) ?_; go_frame)
        | ((with_reducible change wpList _ _ _ (Oper.mk (some 77) _ _ _ _ _ :: _) _ _); refine kBuildW0 rfl rfl ?_; go_frame)
        | ((with_reducible change wpList _ _ _ (Oper.mk (some 78) _ _ _ _ _ :: _) _ _); refine kEqlW _ _ _ (0) (0) true rfl rfl rfl rfl (by simp) ?_; go_frame))
      go_ret
      exact ⟨rfl, hM21.below⟩
  · by_cases hb : HasRoot m b
    · replace hb := Lib.hid hb
      obtain ⟨v20, Hv20⟩ : ∃ n, Hid (a * a % m = n) := ⟨_, Lib.hid rfl⟩
      have mv20 : v20 < M256 := by rw [← Hv20.out]; exact hm.mod _
      obtain ⟨v24, Hv24⟩ : ∃ n, Hid (evenRoot m v20 = n) := ⟨_, Lib.hid rfl⟩
      have mv24 : v24 < M256 := by rw [← Hv24.out]; exact Nat.lt_trans (evenRoot_lt hm.pos) hm.lt
      obtain ⟨v30, Hv30⟩ : ∃ n, Hid ((a + 0 * M256) % m = n) := ⟨_, Lib.hid rfl⟩
      have mv30 : v30 < M256 := by rw [← Hv30.out]; exact hm.mod _
      obtain ⟨v48, Hv48⟩ : ∃ n, Hid ((0 % m + m - v30 % m) % m = n) := ⟨_, Lib.hid rfl⟩
      have mv48 : v48 < M256 := by rw [← Hv48.out]; exact hm.mod _
      obtain ⟨v55, Hv55⟩ : ∃ n, Hid (evenRoot m b = n) := ⟨_, Lib.hid rfl⟩
      have mv55 : v55 < M256 := by rw [← Hv55.out]; exact Nat.lt_trans (evenRoot_lt hm.pos) hm.lt
      obtain ⟨v83, Hv83⟩ : ∃ n, Hid (v55 * v55 % m = n) := ⟨_, Lib.hid rfl⟩
      have mv83 : v83 < M256 := by rw [← Hv83.out]; exact hm.mod _
      obtain ⟨v87, Hv87⟩ : ∃ n, Hid ((b + 0 * M256) % m = n) := ⟨_, Lib.hid rfl⟩
      have mv87 : v87 < M256 := by rw [← Hv87.out]; exact hm.mod _
      have F36 := Lib.hid (show ((limb v24 0 : Nat) : Int) % 2 = 0 by rw [limb0_rem, ← Hv24.out, evenRoot_even (by have := h4.out; omega)]; rfl)
      have F42 := Lib.hid (neqW_yes mv24 mv30 (show v24 ≠ v30 by rw [← Hv24.out, ← Hv20.out, ← Hv30.out, fold_zero]; exact hown))
      have F49 := Lib.hid (neqW_no (show v24 = v48 by rw [← Hv24.out, ← Hv20.out, ← Hv48.out, ← Hv30.out, fold_zero, Nat.mod_mod]; exact (root_own hp h4.out rfl).resolve_left hown))
      have F88 := Lib.hid (eqlW_yes (show v83 = v87 by rw [← Hv83.out, ← Hv87.out, ← Hv55.out, fold_zero]; exact evenRoot_sq hm.pos hb.out))
      clear hown
      have hM0 := mm_nil w
      (try unfold WV)
      go_enter Tryd.func7, Tryd.ntmps7
      go_wp2_with (first
        | ((with_reducible change wpList _ _ _ (Oper.mk (some 2) _ _ _ _ _ :: _) _ _); refine mmBox hM0 _ _ _ rfl rfl rfl ?_; intro w1 hM1; clear hM0; go_frame)
        | ((with_reducible change wpList _ _ _ (Oper.mk (some 3) _ _ _ _ _ :: _) _ _); refine mmBox hM1 _ _ _ rfl rfl rfl ?_; intro w2 hM2; clear hM1; go_frame)
        | (go_at_call 10; refine (fieldAlive_any _ (hG.below hM2.below)).mono ?_; rintro e w3 ⟨rfl, hB3⟩; have hM3 := hM2.on hB3; clear hB3 hM2; (try unfold WV); go_frame)
        | (go_at_call 11; refine (fP_any m _ (hR.below hM3.below)).mono ?_; rintro e w4 ⟨rfl, hR4, hB4⟩; have hM4 := hM3.new hR4 hB4; clear hB4 hR4 hM3; go_frame)
        | ((with_reducible change wpList _ _ _ (Oper.mk (some 18) _ _ _ _ _ :: _) _ _); refine kLoadRow _ _ _ _ _ _ rfl rfl rfl (hM4.get 2 rfl) Tryd.underlying25 rfl (info_WideC _) ?_; go_frame)
        | ((with_reducible change wpList _ _ _ (Oper.mk (some 19) _ _ _ _ _ :: _) _ _); refine kLoadRow _ _ _ _ _ _ rfl rfl rfl (hM4.get 2 rfl) Tryd.underlying25 rfl (info_WideC _) ?_; go_frame)
        | (go_at_call 25; (with_reducible change Calls _ _ #[Value.pointer (some ⟨w3.heap.size, 0, none⟩), Value.agg (wcells a), Value.agg (wcells a)] _ _); refine (fMul_as hm (w3.heap.size) ma ma Hv20.out _ (hM4.get 0 rfl)).mono ?_; rintro e w5 ⟨rfl, hB5⟩; have hM5 := hM4.on hB5; clear hB5 hM4; (try unfold WV); go_frame)
        | ((with_reducible change wpList _ _ _ (Oper.mk (some 6) _ _ _ _ _ :: _) _ _); refine mmAlloc hM5 _ _ rfl rfl zero_Wide ?_; intro w6 hM6; clear hM5; go_frame)
        | ((with_reducible change wpList _ _ _ (Oper.mk none (Op.store _ (Operand.tmp 6) (Operand.tmp 20)) _ _ _ _ :: _) _ _); refine mmStoreAt hM6 0 _ _ _ _ _ _ (wcells v20) rfl rfl rfl rfl rfl (info_WideC _) (by simp only [wcells_size]) (wcells_one _) ?_; intro w7 hM7; dsimp only [List.set] at hM7; clear hM6; go_frame)
        | ((with_reducible change wpList _ _ _ (Oper.mk (some 23) _ _ _ _ _ :: _) _ _); refine kLoadRow _ _ _ _ _ _ rfl rfl rfl (hM7.get 0 rfl) Tryd.underlying25 rfl (info_WideC _) ?_; go_frame)
        | (go_at_call 15; (with_reducible change Calls _ _ #[Value.pointer (some ⟨w3.heap.size, 0, none⟩), Value.agg (wcells v20)] _ _); refine (fRoot_some hm (w3.heap.size) mv20 (hasRoot_square hp h4.out Hv20.out.symm) Hv24.out hm1 _ (hM7.get 1 rfl) (hR.below hM7.below)).mono ?_; rintro e w8 ⟨rfl, hB8⟩; have hM8 := hM7.on hB8; clear hB8 hM7; (try unfold WV); go_frame)
        | ((with_reducible change wpList _ _ _ (Oper.mk (some 7) _ _ _ _ _ :: _) _ _); refine mmAlloc hM8 _ _ rfl rfl zero_Wide ?_; intro w9 hM9; clear hM8; go_frame)
        | ((with_reducible change wpList _ _ _ (Oper.mk none (Op.store _ (Operand.tmp 7) (Operand.tmp 25)) _ _ _ _ :: _) _ _); refine mmStoreAt hM9 0 _ _ _ _ _ _ (wcells v24) rfl rfl rfl rfl rfl (info_WideC _) (by simp only [wcells_size]) (wcells_one _) ?_; intro w10 hM10; dsimp only [List.set] at hM10; clear hM9; go_frame)
        | ((with_reducible change wpList _ _ _ (Oper.mk (some 28) _ _ _ _ _ :: _) _ _); refine kLoadRow _ _ _ _ _ _ rfl rfl rfl (hM10.get 4 rfl) Tryd.underlying25 rfl (info_WideC _) ?_; go_frame)
        | ((with_reducible change wpList _ _ _ (Oper.mk (some 29) _ _ _ _ _ :: _) _ _); refine kBuildW0 rfl rfl ?_; go_frame)
        | (go_at_call 30; (with_reducible change Calls _ _ #[Value.pointer (some ⟨w3.heap.size, 0, none⟩), Value.agg (wcells a), Value.agg (wcells 0)] _ _); refine (fFold_as hm (w3.heap.size) ma M256_pos Hv30.out _ (hM10.get 2 rfl)).mono ?_; rintro e w11 ⟨rfl, hB11⟩; have hM11 := hM10.on hB11; clear hB11 hM10; (try unfold WV); go_frame)
        | ((with_reducible change wpList _ _ _ (Oper.mk (some 9) _ _ _ _ _ :: _) _ _); refine mmAlloc hM11 _ _ rfl rfl zero_Wide ?_; intro w12 hM12; clear hM11; go_frame)
        | ((with_reducible change wpList _ _ _ (Oper.mk none (Op.store _ (Operand.tmp 9) (Operand.tmp 30)) _ _ _ _ :: _) _ _); refine mmStoreAt hM12 0 _ _ _ _ _ _ (wcells v30) rfl rfl rfl rfl rfl (info_WideC _) (by simp only [wcells_size]) (wcells_one _) ?_; intro w13 hM13; dsimp only [List.set] at hM13; clear hM12; go_frame))
      refine region_sym (fun _ => 0) [.val (.int .i64 (0)), .val (.bool false), .val (.bool false), .val (.pointer (some ⟨w8.heap.size, 0, none⟩)), .val (.int .u64 ((limb v24 0 : Int))), .val (.int .u64 (0)), .val (.bool false), .val (.bool false), .val (.bool false), .val (.agg (wcells v24)), .val (.agg (wcells v30)), .val (.bool true), .val (.bool true), .val (.agg (wcells v24)), .val (.pointer (some ⟨w3.heap.size, 0, none⟩)), .val (.agg (wcells 0)), .val (.agg (wcells v30)), .val (.agg (wcells v48)), .val (.bool false), .val (.bool false), .val (.bool false)] [.val (.int .i64 (0)), .val (.bool false), .val (.bool false), .val (.pointer (some ⟨w8.heap.size, 0, none⟩)), .val (.int .u64 ((limb v24 0 : Int))), .val (.int .u64 (0)), .val (.bool false), .val (.bool false), .val (.bool false), .val (.agg (wcells v24)), .val (.agg (wcells v30)), .val (.bool true), .val (.bool true), .val (.agg (wcells v24)), .val (.pointer (some ⟨w3.heap.size, 0, none⟩)), .val (.agg (wcells 0)), .val (.agg (wcells v30)), .val (.agg (wcells v48)), .val (.bool false), .val (.bool false), .val (.bool false)] (by kernel_rfl) (by kernel_rfl) rfl rfl (steps_all ⟨?_, ?_, ?_, ?_, ?_, ?_, ?_, ?_, ?_, ?_, ?_, ?_, ?_, ?_, ?_, ?_, ?_, ?_, ?_, ?_, ?_, trivial⟩) ?_
      · intro A W hsz hoth hbel hdep
        exact kMoveV _ (.int .i64 (0)) rfl rfl ((hoth 8 (free2_of (by kernel_rfl))).trans rfl) (symV hbel hsz rfl rfl (show 31 < 89 by decide) (Below.refl _ _) rfl)
      · intro A W hsz hoth hbel hdep
        exact kNeqI _ _ _ _ .i64 (0) (0) false rfl rfl (by have h := hdep ⟨0, .data⟩ (by simp) rfl; exact h) rfl (by decide) (symV hbel hsz rfl rfl (show 32 < 89 by decide) (Below.refl _ _) rfl)
      · intro A W hsz hoth hbel hdep
        exact kMoveV _ (.bool false) rfl rfl (by have h := hdep ⟨1, .data⟩ (by simp) rfl; exact h) (symV hbel hsz rfl rfl (show 33 < 89 by decide) (Below.refl _ _) rfl)
      · intro A W hsz hoth hbel hdep
        exact kIndexAddr1 _ _ _ _ _ _ _ 0 _ rfl (wanted_of rfl rfl (by have h := hdep ⟨2, .guard⟩ (by simp) rfl; exact h)) ((hoth 7 (free2_of (by kernel_rfl))).trans rfl) rfl Tryd.underlying25 info_w64 rfl (by decide) (symV hbel hsz rfl rfl (show 34 < 89 by decide) (Below.refl _ _) rfl)
      · intro A W hsz hoth hbel hdep
        exact kLoad1 _ _ _ _ _ _ _ _ rfl (wanted_of rfl rfl (by have h := hdep ⟨2, .guard⟩ (by simp) rfl; exact h)) (by have h := hdep ⟨3, .data⟩ (by simp) rfl; exact h) ((hM13.get 1 rfl).on hbel) Tryd.underlying23 rfl (wcells_get v24 0 (by decide)) (symV hbel hsz rfl rfl (show 35 < 89 by decide) (Below.refl _ _) rfl)
      · intro A W hsz hoth hbel hdep
        exact kRemU _ _ _ _ _ _ (0) rfl (wanted_of rfl rfl (by have h := hdep ⟨2, .guard⟩ (by simp) rfl; exact h)) (by have h := hdep ⟨4, .data⟩ (by simp) rfl; exact h) rfl (⟨rfl, F36.out⟩) (symV hbel hsz rfl rfl (show 36 < 89 by decide) (Below.refl _ _) rfl)
      · intro A W hsz hoth hbel hdep
        exact kEqlI _ _ _ _ .u64 (0) (1) false rfl (wanted_of rfl rfl (by have h := hdep ⟨2, .guard⟩ (by simp) rfl; exact h)) (by have h := hdep ⟨5, .data⟩ (by simp) rfl; exact h) rfl (by decide) (symV hbel hsz rfl rfl (show 37 < 89 by decide) (Below.refl _ _) rfl)
      · intro A W hsz hoth hbel hdep
        exact kPick _ _ _ false (.bool false) rfl rfl (by have h := hdep ⟨2, .data⟩ (by simp) rfl; exact h) (by have h := hdep ⟨6, .data⟩ (by simp) rfl; exact h) (symV hbel hsz rfl rfl (show 38 < 89 by decide) (Below.refl _ _) rfl)
      · intro A W hsz hoth hbel hdep
        exact kMoveV _ (.bool false) rfl rfl (by have h := hdep ⟨7, .data⟩ (by simp) rfl; exact h) (symV hbel hsz rfl rfl (show 39 < 89 by decide) (Below.refl _ _) rfl)
      · intro A W hsz hoth hbel hdep
        exact kLoadRow _ _ _ _ _ _ rfl (wanted_of rfl rfl (by have h := hdep ⟨8, .guard⟩ (by simp) rfl; exact h)) ((hoth 7 (free2_of (by kernel_rfl))).trans rfl) ((hM13.get 1 rfl).on hbel) Tryd.underlying25 rfl (info_WideC _) (symV hbel hsz rfl rfl (show 40 < 89 by decide) (Below.refl _ _) rfl)
      · intro A W hsz hoth hbel hdep
        exact kLoadRow _ _ _ _ _ _ rfl (wanted_of rfl rfl (by have h := hdep ⟨8, .guard⟩ (by simp) rfl; exact h)) ((hoth 9 (free2_of (by kernel_rfl))).trans rfl) ((hM13.get 0 rfl).on hbel) Tryd.underlying25 rfl (info_WideC _) (symV hbel hsz rfl rfl (show 41 < 89 by decide) (Below.refl _ _) rfl)
      · intro A W hsz hoth hbel hdep
        exact kNeqW _ _ _ (v24) (v30) true rfl (wanted_of rfl rfl (by have h := hdep ⟨8, .guard⟩ (by simp) rfl; exact h)) (by have h := hdep ⟨9, .data⟩ (by simp) rfl; exact h) (by have h := hdep ⟨10, .data⟩ (by simp) rfl; exact h) (F42.out) (symV hbel hsz rfl rfl (show 42 < 89 by decide) (Below.refl _ _) rfl)
      · intro A W hsz hoth hbel hdep
        exact kMoveV _ (.bool true) rfl (wanted_of rfl rfl (by have h := hdep ⟨8, .chain⟩ (by simp) rfl; exact h)) (by have h := hdep ⟨11, .data⟩ (by simp) rfl; exact h) (symV hbel hsz rfl rfl (show 43 < 89 by decide) (Below.refl _ _) rfl)
      · intro A W hsz hoth hbel hdep
        exact kLoadRow _ _ _ _ _ _ rfl (wanted_of rfl rfl (by have h := hdep ⟨12, .guard⟩ (by simp) rfl; exact h)) ((hoth 7 (free2_of (by kernel_rfl))).trans rfl) ((hM13.get 1 rfl).on hbel) Tryd.underlying25 rfl (info_WideC _) (symV hbel hsz rfl rfl (show 44 < 89 by decide) (Below.refl _ _) rfl)
      · intro A W hsz hoth hbel hdep
        exact kMoveV _ (.pointer (some ⟨w3.heap.size, 0, none⟩)) rfl (wanted_of rfl rfl (by have h := hdep ⟨12, .guard⟩ (by simp) rfl; exact h)) ((hoth 5 (free2_of (by kernel_rfl))).trans rfl) (symV hbel hsz rfl rfl (show 45 < 89 by decide) (Below.refl _ _) rfl)
      · intro A W hsz hoth hbel hdep
        exact kBuildW0 rfl (wanted_of rfl rfl (by have h := hdep ⟨12, .guard⟩ (by simp) rfl; exact h)) (symV hbel hsz rfl rfl (show 46 < 89 by decide) (Below.refl _ _) rfl)
      · intro A W hsz hoth hbel hdep
        exact kLoadRow _ _ _ _ _ _ rfl (wanted_of rfl rfl (by have h := hdep ⟨12, .guard⟩ (by simp) rfl; exact h)) ((hoth 9 (free2_of (by kernel_rfl))).trans rfl) ((hM13.get 0 rfl).on hbel) Tryd.underlying25 rfl (info_WideC _) (symV hbel hsz rfl rfl (show 47 < 89 by decide) (Below.refl _ _) rfl)
      · intro A W hsz hoth hbel hdep
        refine kCall3 23 _ _ _ _ _ _ _ rfl (wanted_of rfl rfl (by have h := hdep ⟨12, .chain⟩ (by simp) rfl; exact h)) (by kernel_rfl) (by have h := hdep ⟨14, .data⟩ (by simp) rfl; exact h) (by have h := hdep ⟨15, .data⟩ (by simp) rfl; exact h) (by have h := hdep ⟨16, .data⟩ (by simp) rfl; exact h) ?_
        refine (fSub_as hm (w3.heap.size) M256_pos mv30 Hv48.out W ((hM13.get 3 rfl).on hbel)).mono ?_
        rintro e r ⟨rfl, hBc⟩
        exact ⟨_, rfl, (symV hbel hsz rfl rfl (show 48 < 89 by decide) hBc rfl)⟩
      · intro A W hsz hoth hbel hdep
        exact kNeqW _ _ _ (v24) (v48) false rfl (wanted_of rfl rfl (by have h := hdep ⟨12, .guard⟩ (by simp) rfl; exact h)) (by have h := hdep ⟨13, .data⟩ (by simp) rfl; exact h) (by have h := hdep ⟨17, .data⟩ (by simp) rfl; exact h) (F49.out) (symV hbel hsz rfl rfl (show 49 < 89 by decide) (Below.refl _ _) rfl)
      · intro A W hsz hoth hbel hdep
        exact kPick _ _ _ true (.bool false) rfl (wanted_of rfl rfl (by have h := hdep ⟨8, .guard⟩ (by simp) rfl; exact h)) (by have h := hdep ⟨12, .data⟩ (by simp) rfl; exact h) (by have h := hdep ⟨18, .data⟩ (by simp) rfl; exact h) (symV hbel hsz rfl rfl (show 50 < 89 by decide) (Below.refl _ _) rfl)
      · intro A W hsz hoth hbel hdep
        exact kPick _ _ _ false (.bool false) rfl rfl (by have h := hdep ⟨8, .data⟩ (by simp) rfl; exact h) (by have h := hdep ⟨19, .data⟩ (by simp) rfl; exact h) (symV hbel hsz rfl rfl (show 51 < 89 by decide) (Below.refl _ _) rfl)
      intro w14 hB14
      dsimp only [AllV]
      dsimp only [putAll]
      go_frame
      have hM14 := hM13.on hB14
      clear hB14 hM13
      go_wp2_with (first
        | ((with_reducible change wpList _ _ _ (Oper.mk (some 54) _ _ _ _ _ :: _) _ _); refine kLoadRow _ _ _ _ _ _ rfl rfl rfl (hM14.get 4 rfl) Tryd.underlying25 rfl (info_WideC _) ?_; go_frame)
        | (go_at_call 15; (with_reducible change Calls _ _ #[Value.pointer (some ⟨w3.heap.size, 0, none⟩), Value.agg (wcells b)] _ _); refine (fRoot_some hm (w3.heap.size) mb hb.out Hv55.out hm1 _ (hM14.get 3 rfl) (hR.below hM14.below)).mono ?_; rintro e w15 ⟨rfl, hB15⟩; have hM15 := hM14.on hB15; clear hB15 hM14; (try unfold WV); go_frame)
        | ((with_reducible change wpList _ _ _ (Oper.mk (some 10) _ _ _ _ _ :: _) _ _); refine mmAlloc hM15 _ _ rfl rfl zero_Wide ?_; intro w16 hM16; clear hM15; go_frame)
        | ((with_reducible change wpList _ _ _ (Oper.mk none (Op.store _ (Operand.tmp 10) (Operand.tmp 56)) _ _ _ _ :: _) _ _); refine mmStoreAt hM16 0 _ _ _ _ _ _ (wcells v55) rfl rfl rfl rfl rfl (info_WideC _) (by simp only [wcells_size]) (wcells_one _) ?_; intro w17 hM17; dsimp only [List.set] at hM17; clear hM16; go_frame)
        | ((with_reducible change wpList _ _ _ (Oper.mk (some 59) _ _ _ _ _ :: _) _ _); refine kNeqI _ _ _ _ .i64 (0) (0) false rfl rfl rfl rfl (by decide) ?_; go_frame))
      refine region_sym (fun _ => 0) [.val (.pointer (some ⟨w3.heap.size, 0, none⟩)), .val (.agg (wcells v55)), .val (.agg (wcells v55)), .val (.agg (wcells v83)), .val (.pointer (some ⟨w3.heap.size, 0, none⟩)), .val (.agg (wcells b)), .val (.agg (wcells 0)), .val (.agg (wcells v87)), .val (.bool true), .val (.bool true)] [.val (.pointer (some ⟨w3.heap.size, 0, none⟩)), .val (.agg (wcells v55)), .val (.agg (wcells v55)), .val (.agg (wcells v83)), .val (.pointer (some ⟨w3.heap.size, 0, none⟩)), .val (.agg (wcells b)), .val (.agg (wcells 0)), .val (.agg (wcells v87)), .val (.bool true), .val (.bool true)] (by kernel_rfl) (by kernel_rfl) rfl rfl (steps_all ⟨?_, ?_, ?_, ?_, ?_, ?_, ?_, ?_, ?_, ?_, trivial⟩) ?_
      · intro A W hsz hoth hbel hdep
        exact kMoveV _ (.pointer (some ⟨w3.heap.size, 0, none⟩)) rfl rfl ((hoth 5 (free2_of (by kernel_rfl))).trans rfl) (symV hbel hsz rfl rfl (show 80 < 89 by decide) (Below.refl _ _) rfl)
      · intro A W hsz hoth hbel hdep
        exact kLoadRow _ _ _ _ _ _ rfl rfl ((hoth 10 (free2_of (by kernel_rfl))).trans rfl) ((hM17.get 0 rfl).on hbel) Tryd.underlying25 rfl (info_WideC _) (symV hbel hsz rfl rfl (show 81 < 89 by decide) (Below.refl _ _) rfl)
      · intro A W hsz hoth hbel hdep
        exact kLoadRow _ _ _ _ _ _ rfl rfl ((hoth 10 (free2_of (by kernel_rfl))).trans rfl) ((hM17.get 0 rfl).on hbel) Tryd.underlying25 rfl (info_WideC _) (symV hbel hsz rfl rfl (show 82 < 89 by decide) (Below.refl _ _) rfl)
      · intro A W hsz hoth hbel hdep
        refine kCall3 25 _ _ _ _ _ _ _ rfl rfl (by kernel_rfl) (by have h := hdep ⟨0, .data⟩ (by simp) rfl; exact h) (by have h := hdep ⟨1, .data⟩ (by simp) rfl; exact h) (by have h := hdep ⟨2, .data⟩ (by simp) rfl; exact h) ?_
        refine (fMul_as hm (w3.heap.size) mv55 mv55 Hv83.out W ((hM17.get 4 rfl).on hbel)).mono ?_
        rintro e r ⟨rfl, hBc⟩
        exact ⟨_, rfl, (symV hbel hsz rfl rfl (show 83 < 89 by decide) hBc rfl)⟩
      · intro A W hsz hoth hbel hdep
        exact kMoveV _ (.pointer (some ⟨w3.heap.size, 0, none⟩)) rfl rfl ((hoth 5 (free2_of (by kernel_rfl))).trans rfl) (symV hbel hsz rfl rfl (show 84 < 89 by decide) (Below.refl _ _) rfl)
      · intro A W hsz hoth hbel hdep
        exact kLoadRow _ _ _ _ _ _ rfl rfl ((hoth 3 (free2_of (by kernel_rfl))).trans rfl) ((hM17.get 5 rfl).on hbel) Tryd.underlying25 rfl (info_WideC _) (symV hbel hsz rfl rfl (show 85 < 89 by decide) (Below.refl _ _) rfl)
      · intro A W hsz hoth hbel hdep
        exact kBuildW0 rfl rfl (symV hbel hsz rfl rfl (show 86 < 89 by decide) (Below.refl _ _) rfl)
      · intro A W hsz hoth hbel hdep
        refine kCall3 30 _ _ _ _ _ _ _ rfl rfl (by kernel_rfl) (by have h := hdep ⟨4, .data⟩ (by simp) rfl; exact h) (by have h := hdep ⟨5, .data⟩ (by simp) rfl; exact h) (by have h := hdep ⟨6, .data⟩ (by simp) rfl; exact h) ?_
        refine (fFold_as hm (w3.heap.size) mb M256_pos Hv87.out W ((hM17.get 4 rfl).on hbel)).mono ?_
        rintro e r ⟨rfl, hBc⟩
        exact ⟨_, rfl, (symV hbel hsz rfl rfl (show 87 < 89 by decide) hBc rfl)⟩
      · intro A W hsz hoth hbel hdep
        exact kEqlW _ _ _ (v83) (v87) true rfl rfl (by have h := hdep ⟨3, .data⟩ (by simp) rfl; exact h) (by have h := hdep ⟨7, .data⟩ (by simp) rfl; exact h) (F88.out) (symV hbel hsz rfl rfl (show 88 < 89 by decide) (Below.refl _ _) rfl)
      · intro A W hsz hoth hbel hdep
        exact kAssignV _ (.bool true) rfl rfl (by have h := hdep ⟨8, .data⟩ (by simp) rfl; exact h) (symV hbel hsz rfl rfl (show 4 < 89 by decide) (Below.refl _ _) rfl)
      intro w18 hB18
      dsimp only [AllV]
      dsimp only [putAll]
      go_frame
      have hM18 := hM17.on hB18
      clear hB18 hM17
      go_wp2_with fail
      go_ret
      exact ⟨rfl, hM18.below⟩
    · replace hb := Lib.hid hb
      obtain ⟨v20, Hv20⟩ : ∃ n, Hid (a * a % m = n) := ⟨_, Lib.hid rfl⟩
      have mv20 : v20 < M256 := by rw [← Hv20.out]; exact hm.mod _
      obtain ⟨v24, Hv24⟩ : ∃ n, Hid (evenRoot m v20 = n) := ⟨_, Lib.hid rfl⟩
      have mv24 : v24 < M256 := by rw [← Hv24.out]; exact Nat.lt_trans (evenRoot_lt hm.pos) hm.lt
      obtain ⟨v30, Hv30⟩ : ∃ n, Hid ((a + 0 * M256) % m = n) := ⟨_, Lib.hid rfl⟩
      have mv30 : v30 < M256 := by rw [← Hv30.out]; exact hm.mod _
      obtain ⟨v48, Hv48⟩ : ∃ n, Hid ((0 % m + m - v30 % m) % m = n) := ⟨_, Lib.hid rfl⟩
      have mv48 : v48 < M256 := by rw [← Hv48.out]; exact hm.mod _
      obtain ⟨v65, Hv65⟩ : ∃ n, Hid ((0 % m + m - b % m) % m = n) := ⟨_, Lib.hid rfl⟩
      have mv65 : v65 < M256 := by rw [← Hv65.out]; exact hm.mod _
      obtain ⟨v66, Hv66⟩ : ∃ n, Hid (evenRoot m v65 = n) := ⟨_, Lib.hid rfl⟩
      have mv66 : v66 < M256 := by rw [← Hv66.out]; exact Nat.lt_trans (evenRoot_lt hm.pos) hm.lt
      have F36 := Lib.hid (show ((limb v24 0 : Nat) : Int) % 2 = 0 by rw [limb0_rem, ← Hv24.out, evenRoot_even (by have := h4.out; omega)]; rfl)
      have F42 := Lib.hid (neqW_yes mv24 mv30 (show v24 ≠ v30 by rw [← Hv24.out, ← Hv20.out, ← Hv30.out, fold_zero]; exact hown))
      have F49 := Lib.hid (neqW_no (show v24 = v48 by rw [← Hv24.out, ← Hv20.out, ← Hv48.out, ← Hv30.out, fold_zero, Nat.mod_mod]; exact (root_own hp h4.out rfl).resolve_left hown))
      clear hown
      have hM0 := mm_nil w
      (try unfold WV)
      go_enter Tryd.func7, Tryd.ntmps7
      go_wp2_with (first
        | ((with_reducible change wpList _ _ _ (Oper.mk (some 2) _ _ _ _ _ :: _) _ _); refine mmBox hM0 _ _ _ rfl rfl rfl ?_; intro w1 hM1; clear hM0; go_frame)
        | ((with_reducible change wpList _ _ _ (Oper.mk (some 3) _ _ _ _ _ :: _) _ _); refine mmBox hM1 _ _ _ rfl rfl rfl ?_; intro w2 hM2; clear hM1; go_frame)
        | (go_at_call 10; refine (fieldAlive_any _ (hG.below hM2.below)).mono ?_; rintro e w3 ⟨rfl, hB3⟩; have hM3 := hM2.on hB3; clear hB3 hM2; (try unfold WV); go_frame)
        | (go_at_call 11; refine (fP_any m _ (hR.below hM3.below)).mono ?_; rintro e w4 ⟨rfl, hR4, hB4⟩; have hM4 := hM3.new hR4 hB4; clear hB4 hR4 hM3; go_frame)
        | ((with_reducible change wpList _ _ _ (Oper.mk (some 18) _ _ _ _ _ :: _) _ _); refine kLoadRow _ _ _ _ _ _ rfl rfl rfl (hM4.get 2 rfl) Tryd.underlying25 rfl (info_WideC _) ?_; go_frame)
        | ((with_reducible change wpList _ _ _ (Oper.mk (some 19) _ _ _ _ _ :: _) _ _); refine kLoadRow _ _ _ _ _ _ rfl rfl rfl (hM4.get 2 rfl) Tryd.underlying25 rfl (info_WideC _) ?_; go_frame)
        | (go_at_call 25; (with_reducible change Calls _ _ #[Value.pointer (some ⟨w3.heap.size, 0, none⟩), Value.agg (wcells a), Value.agg (wcells a)] _ _); refine (fMul_as hm (w3.heap.size) ma ma Hv20.out _ (hM4.get 0 rfl)).mono ?_; rintro e w5 ⟨rfl, hB5⟩; have hM5 := hM4.on hB5; clear hB5 hM4; (try unfold WV); go_frame)
        | ((with_reducible change wpList _ _ _ (Oper.mk (some 6) _ _ _ _ _ :: _) _ _); refine mmAlloc hM5 _ _ rfl rfl zero_Wide ?_; intro w6 hM6; clear hM5; go_frame)
        | ((with_reducible change wpList _ _ _ (Oper.mk none (Op.store _ (Operand.tmp 6) (Operand.tmp 20)) _ _ _ _ :: _) _ _); refine mmStoreAt hM6 0 _ _ _ _ _ _ (wcells v20) rfl rfl rfl rfl rfl (info_WideC _) (by simp only [wcells_size]) (wcells_one _) ?_; intro w7 hM7; dsimp only [List.set] at hM7; clear hM6; go_frame)
        | ((with_reducible change wpList _ _ _ (Oper.mk (some 23) _ _ _ _ _ :: _) _ _); refine kLoadRow _ _ _ _ _ _ rfl rfl rfl (hM7.get 0 rfl) Tryd.underlying25 rfl (info_WideC _) ?_; go_frame)
        | (go_at_call 15; (with_reducible change Calls _ _ #[Value.pointer (some ⟨w3.heap.size, 0, none⟩), Value.agg (wcells v20)] _ _); refine (fRoot_some hm (w3.heap.size) mv20 (hasRoot_square hp h4.out Hv20.out.symm) Hv24.out hm1 _ (hM7.get 1 rfl) (hR.below hM7.below)).mono ?_; rintro e w8 ⟨rfl, hB8⟩; have hM8 := hM7.on hB8; clear hB8 hM7; (try unfold WV); go_frame)
        | ((with_reducible change wpList _ _ _ (Oper.mk (some 7) _ _ _ _ _ :: _) _ _); refine mmAlloc hM8 _ _ rfl rfl zero_Wide ?_; intro w9 hM9; clear hM8; go_frame)
        | ((with_reducible change wpList _ _ _ (Oper.mk none (Op.store _ (Operand.tmp 7) (Operand.tmp 25)) _ _ _ _ :: _) _ _); refine mmStoreAt hM9 0 _ _ _ _ _ _ (wcells v24) rfl rfl rfl rfl rfl (info_WideC _) (by simp only [wcells_size]) (wcells_one _) ?_; intro w10 hM10; dsimp only [List.set] at hM10; clear hM9; go_frame)
        | ((with_reducible change wpList _ _ _ (Oper.mk (some 28) _ _ _ _ _ :: _) _ _); refine kLoadRow _ _ _ _ _ _ rfl rfl rfl (hM10.get 4 rfl) Tryd.underlying25 rfl (info_WideC _) ?_; go_frame)
        | ((with_reducible change wpList _ _ _ (Oper.mk (some 29) _ _ _ _ _ :: _) _ _); refine kBuildW0 rfl rfl ?_; go_frame)
        | (go_at_call 30; (with_reducible change Calls _ _ #[Value.pointer (some ⟨w3.heap.size, 0, none⟩), Value.agg (wcells a), Value.agg (wcells 0)] _ _); refine (fFold_as hm (w3.heap.size) ma M256_pos Hv30.out _ (hM10.get 2 rfl)).mono ?_; rintro e w11 ⟨rfl, hB11⟩; have hM11 := hM10.on hB11; clear hB11 hM10; (try unfold WV); go_frame)
        | ((with_reducible change wpList _ _ _ (Oper.mk (some 9) _ _ _ _ _ :: _) _ _); refine mmAlloc hM11 _ _ rfl rfl zero_Wide ?_; intro w12 hM12; clear hM11; go_frame)
        | ((with_reducible change wpList _ _ _ (Oper.mk none (Op.store _ (Operand.tmp 9) (Operand.tmp 30)) _ _ _ _ :: _) _ _); refine mmStoreAt hM12 0 _ _ _ _ _ _ (wcells v30) rfl rfl rfl rfl rfl (info_WideC _) (by simp only [wcells_size]) (wcells_one _) ?_; intro w13 hM13; dsimp only [List.set] at hM13; clear hM12; go_frame))
      refine region_sym (fun _ => 0) [.val (.int .i64 (0)), .val (.bool false), .val (.bool false), .val (.pointer (some ⟨w8.heap.size, 0, none⟩)), .val (.int .u64 ((limb v24 0 : Int))), .val (.int .u64 (0)), .val (.bool false), .val (.bool false), .val (.bool false), .val (.agg (wcells v24)), .val (.agg (wcells v30)), .val (.bool true), .val (.bool true), .val (.agg (wcells v24)), .val (.pointer (some ⟨w3.heap.size, 0, none⟩)), .val (.agg (wcells 0)), .val (.agg (wcells v30)), .val (.agg (wcells v48)), .val (.bool false), .val (.bool false), .val (.bool false)] [.val (.int .i64 (0)), .val (.bool false), .val (.bool false), .val (.pointer (some ⟨w8.heap.size, 0, none⟩)), .val (.int .u64 ((limb v24 0 : Int))), .val (.int .u64 (0)), .val (.bool false), .val (.bool false), .val (.bool false), .val (.agg (wcells v24)), .val (.agg (wcells v30)), .val (.bool true), .val (.bool true), .val (.agg (wcells v24)), .val (.pointer (some ⟨w3.heap.size, 0, none⟩)), .val (.agg (wcells 0)), .val (.agg (wcells v30)), .val (.agg (wcells v48)), .val (.bool false), .val (.bool false), .val (.bool false)] (by kernel_rfl) (by kernel_rfl) rfl rfl (steps_all ⟨?_, ?_, ?_, ?_, ?_, ?_, ?_, ?_, ?_, ?_, ?_, ?_, ?_, ?_, ?_, ?_, ?_, ?_, ?_, ?_, ?_, trivial⟩) ?_
      · intro A W hsz hoth hbel hdep
        exact kMoveV _ (.int .i64 (0)) rfl rfl ((hoth 8 (free2_of (by kernel_rfl))).trans rfl) (symV hbel hsz rfl rfl (show 31 < 89 by decide) (Below.refl _ _) rfl)
      · intro A W hsz hoth hbel hdep
        exact kNeqI _ _ _ _ .i64 (0) (0) false rfl rfl (by have h := hdep ⟨0, .data⟩ (by simp) rfl; exact h) rfl (by decide) (symV hbel hsz rfl rfl (show 32 < 89 by decide) (Below.refl _ _) rfl)
      · intro A W hsz hoth hbel hdep
        exact kMoveV _ (.bool false) rfl rfl (by have h := hdep ⟨1, .data⟩ (by simp) rfl; exact h) (symV hbel hsz rfl rfl (show 33 < 89 by decide) (Below.refl _ _) rfl)
      · intro A W hsz hoth hbel hdep
        exact kIndexAddr1 _ _ _ _ _ _ _ 0 _ rfl (wanted_of rfl rfl (by have h := hdep ⟨2, .guard⟩ (by simp) rfl; exact h)) ((hoth 7 (free2_of (by kernel_rfl))).trans rfl) rfl Tryd.underlying25 info_w64 rfl (by decide) (symV hbel hsz rfl rfl (show 34 < 89 by decide) (Below.refl _ _) rfl)
      · intro A W hsz hoth hbel hdep
        exact kLoad1 _ _ _ _ _ _ _ _ rfl (wanted_of rfl rfl (by have h := hdep ⟨2, .guard⟩ (by simp) rfl; exact h)) (by have h := hdep ⟨3, .data⟩ (by simp) rfl; exact h) ((hM13.get 1 rfl).on hbel) Tryd.underlying23 rfl (wcells_get v24 0 (by decide)) (symV hbel hsz rfl rfl (show 35 < 89 by decide) (Below.refl _ _) rfl)
      · intro A W hsz hoth hbel hdep
        exact kRemU _ _ _ _ _ _ (0) rfl (wanted_of rfl rfl (by have h := hdep ⟨2, .guard⟩ (by simp) rfl; exact h)) (by have h := hdep ⟨4, .data⟩ (by simp) rfl; exact h) rfl (⟨rfl, F36.out⟩) (symV hbel hsz rfl rfl (show 36 < 89 by decide) (Below.refl _ _) rfl)
      · intro A W hsz hoth hbel hdep
        exact kEqlI _ _ _ _ .u64 (0) (1) false rfl (wanted_of rfl rfl (by have h := hdep ⟨2, .guard⟩ (by simp) rfl; exact h)) (by have h := hdep ⟨5, .data⟩ (by simp) rfl; exact h) rfl (by decide) (symV hbel hsz rfl rfl (show 37 < 89 by decide) (Below.refl _ _) rfl)
      · intro A W hsz hoth hbel hdep
        exact kPick _ _ _ false (.bool false) rfl rfl (by have h := hdep ⟨2, .data⟩ (by simp) rfl; exact h) (by have h := hdep ⟨6, .data⟩ (by simp) rfl; exact h) (symV hbel hsz rfl rfl (show 38 < 89 by decide) (Below.refl _ _) rfl)
      · intro A W hsz hoth hbel hdep
        exact kMoveV _ (.bool false) rfl rfl (by have h := hdep ⟨7, .data⟩ (by simp) rfl; exact h) (symV hbel hsz rfl rfl (show 39 < 89 by decide) (Below.refl _ _) rfl)
      · intro A W hsz hoth hbel hdep
        exact kLoadRow _ _ _ _ _ _ rfl (wanted_of rfl rfl (by have h := hdep ⟨8, .guard⟩ (by simp) rfl; exact h)) ((hoth 7 (free2_of (by kernel_rfl))).trans rfl) ((hM13.get 1 rfl).on hbel) Tryd.underlying25 rfl (info_WideC _) (symV hbel hsz rfl rfl (show 40 < 89 by decide) (Below.refl _ _) rfl)
      · intro A W hsz hoth hbel hdep
        exact kLoadRow _ _ _ _ _ _ rfl (wanted_of rfl rfl (by have h := hdep ⟨8, .guard⟩ (by simp) rfl; exact h)) ((hoth 9 (free2_of (by kernel_rfl))).trans rfl) ((hM13.get 0 rfl).on hbel) Tryd.underlying25 rfl (info_WideC _) (symV hbel hsz rfl rfl (show 41 < 89 by decide) (Below.refl _ _) rfl)
      · intro A W hsz hoth hbel hdep
        exact kNeqW _ _ _ (v24) (v30) true rfl (wanted_of rfl rfl (by have h := hdep ⟨8, .guard⟩ (by simp) rfl; exact h)) (by have h := hdep ⟨9, .data⟩ (by simp) rfl; exact h) (by have h := hdep ⟨10, .data⟩ (by simp) rfl; exact h) (F42.out) (symV hbel hsz rfl rfl (show 42 < 89 by decide) (Below.refl _ _) rfl)
      · intro A W hsz hoth hbel hdep
        exact kMoveV _ (.bool true) rfl (wanted_of rfl rfl (by have h := hdep ⟨8, .chain⟩ (by simp) rfl; exact h)) (by have h := hdep ⟨11, .data⟩ (by simp) rfl; exact h) (symV hbel hsz rfl rfl (show 43 < 89 by decide) (Below.refl _ _) rfl)
      · intro A W hsz hoth hbel hdep
        exact kLoadRow _ _ _ _ _ _ rfl (wanted_of rfl rfl (by have h := hdep ⟨12, .guard⟩ (by simp) rfl; exact h)) ((hoth 7 (free2_of (by kernel_rfl))).trans rfl) ((hM13.get 1 rfl).on hbel) Tryd.underlying25 rfl (info_WideC _) (symV hbel hsz rfl rfl (show 44 < 89 by decide) (Below.refl _ _) rfl)
      · intro A W hsz hoth hbel hdep
        exact kMoveV _ (.pointer (some ⟨w3.heap.size, 0, none⟩)) rfl (wanted_of rfl rfl (by have h := hdep ⟨12, .guard⟩ (by simp) rfl; exact h)) ((hoth 5 (free2_of (by kernel_rfl))).trans rfl) (symV hbel hsz rfl rfl (show 45 < 89 by decide) (Below.refl _ _) rfl)
      · intro A W hsz hoth hbel hdep
        exact kBuildW0 rfl (wanted_of rfl rfl (by have h := hdep ⟨12, .guard⟩ (by simp) rfl; exact h)) (symV hbel hsz rfl rfl (show 46 < 89 by decide) (Below.refl _ _) rfl)
      · intro A W hsz hoth hbel hdep
        exact kLoadRow _ _ _ _ _ _ rfl (wanted_of rfl rfl (by have h := hdep ⟨12, .guard⟩ (by simp) rfl; exact h)) ((hoth 9 (free2_of (by kernel_rfl))).trans rfl) ((hM13.get 0 rfl).on hbel) Tryd.underlying25 rfl (info_WideC _) (symV hbel hsz rfl rfl (show 47 < 89 by decide) (Below.refl _ _) rfl)
      · intro A W hsz hoth hbel hdep
        refine kCall3 23 _ _ _ _ _ _ _ rfl (wanted_of rfl rfl (by have h := hdep ⟨12, .chain⟩ (by simp) rfl; exact h)) (by kernel_rfl) (by have h := hdep ⟨14, .data⟩ (by simp) rfl; exact h) (by have h := hdep ⟨15, .data⟩ (by simp) rfl; exact h) (by have h := hdep ⟨16, .data⟩ (by simp) rfl; exact h) ?_
        refine (fSub_as hm (w3.heap.size) M256_pos mv30 Hv48.out W ((hM13.get 3 rfl).on hbel)).mono ?_
        rintro e r ⟨rfl, hBc⟩
        exact ⟨_, rfl, (symV hbel hsz rfl rfl (show 48 < 89 by decide) hBc rfl)⟩
      · intro A W hsz hoth hbel hdep
        exact kNeqW _ _ _ (v24) (v48) false rfl (wanted_of rfl rfl (by have h := hdep ⟨12, .guard⟩ (by simp) rfl; exact h)) (by have h := hdep ⟨13, .data⟩ (by simp) rfl; exact h) (by have h := hdep ⟨17, .data⟩ (by simp) rfl; exact h) (F49.out) (symV hbel hsz rfl rfl (show 49 < 89 by decide) (Below.refl _ _) rfl)
      · intro A W hsz hoth hbel hdep
        exact kPick _ _ _ true (.bool false) rfl (wanted_of rfl rfl (by have h := hdep ⟨8, .guard⟩ (by simp) rfl; exact h)) (by have h := hdep ⟨12, .data⟩ (by simp) rfl; exact h) (by have h := hdep ⟨18, .data⟩ (by simp) rfl; exact h) (symV hbel hsz rfl rfl (show 50 < 89 by decide) (Below.refl _ _) rfl)
      · intro A W hsz hoth hbel hdep
        exact kPick _ _ _ false (.bool false) rfl rfl (by have h := hdep ⟨8, .data⟩ (by simp) rfl; exact h) (by have h := hdep ⟨19, .data⟩ (by simp) rfl; exact h) (symV hbel hsz rfl rfl (show 51 < 89 by decide) (Below.refl _ _) rfl)
      intro w14 hB14
      dsimp only [AllV]
      dsimp only [putAll]
      go_frame
      have hM14 := hM13.on hB14
      clear hB14 hM13
      go_wp2_with (first
        | ((with_reducible change wpList _ _ _ (Oper.mk (some 54) _ _ _ _ _ :: _) _ _); refine kLoadRow _ _ _ _ _ _ rfl rfl rfl (hM14.get 4 rfl) Tryd.underlying25 rfl (info_WideC _) ?_; go_frame)
        | (go_at_call 15; (with_reducible change Calls _ _ #[Value.pointer (some ⟨w3.heap.size, 0, none⟩), Value.agg (wcells b)] _ _); refine (fRoot_no hm (w3.heap.size) mb hb.out hm1 _ (hM14.get 3 rfl) (hR.below hM14.below)).mono ?_; rintro e w15 ⟨rfl, hB15⟩; have hM15 := hM14.on hB15; clear hB15 hM14; (try unfold WV); go_frame)
        | ((with_reducible change wpList _ _ _ (Oper.mk (some 10) _ _ _ _ _ :: _) _ _); refine mmAlloc hM15 _ _ rfl rfl zero_Wide ?_; intro w16 hM16; clear hM15; go_frame)
        | ((with_reducible change wpList _ _ _ (Oper.mk none (Op.store _ (Operand.tmp 10) (Operand.tmp 56)) _ _ _ _ :: _) _ _); refine mmStoreAt hM16 0 _ _ _ _ _ _ (wcells 0) rfl rfl rfl rfl rfl (info_WideC _) (by simp only [wcells_size]) (wcells_one _) ?_; intro w17 hM17; dsimp only [List.set] at hM17; clear hM16; go_frame)
        | ((with_reducible change wpList _ _ _ (Oper.mk (some 59) _ _ _ _ _ :: _) _ _); refine kNeqI _ _ _ _ .i64 (31) (0) true rfl rfl rfl rfl (by decide) ?_; go_frame)
        | ((with_reducible change wpList _ _ _ (Oper.mk (some 63) _ _ _ _ _ :: _) _ _); refine kBuildW0 rfl rfl ?_; go_frame)
        | ((with_reducible change wpList _ _ _ (Oper.mk (some 64) _ _ _ _ _ :: _) _ _); refine kLoadRow _ _ _ _ _ _ rfl rfl rfl (hM17.get 5 rfl) Tryd.underlying25 rfl (info_WideC _) ?_; go_frame)
        | (go_at_call 23; (with_reducible change Calls _ _ #[Value.pointer (some ⟨w3.heap.size, 0, none⟩), Value.agg (wcells 0), Value.agg (wcells b)] _ _); refine (fSub_as hm (w3.heap.size) M256_pos mb Hv65.out _ (hM17.get 4 rfl)).mono ?_; rintro e w18 ⟨rfl, hB18⟩; have hM18 := hM17.on hB18; clear hB18 hM17; (try unfold WV); go_frame)
        | (go_at_call 15; (with_reducible change Calls _ _ #[Value.pointer (some ⟨w3.heap.size, 0, none⟩), Value.agg (wcells v65)] _ _); refine (fRoot_some hm (w3.heap.size) mv65 (hasRoot_neg hp h4.out Hv65.out.symm hb.out) Hv66.out hm1 _ (hM18.get 4 rfl) (hR.below hM18.below)).mono ?_; rintro e w19 ⟨rfl, hB19⟩; have hM19 := hM18.on hB19; clear hB19 hM18; (try unfold WV); go_frame)
        | ((with_reducible change wpList _ _ _ (Oper.mk (some 12) _ _ _ _ _ :: _) _ _); refine mmAlloc hM19 _ _ rfl rfl zero_Wide ?_; intro w20 hM20; clear hM19; go_frame)
        | ((with_reducible change wpList _ _ _ (Oper.mk none (Op.store _ (Operand.tmp 12) (Operand.tmp 67)) _ _ _ _ :: _) _ _); refine mmStoreAt hM20 0 _ _ _ _ _ _ (wcells v66) rfl rfl rfl rfl rfl (info_WideC _) (by simp only [wcells_size]) (wcells_one _) ?_; intro w21 hM21; dsimp only [List.set] at hM21; clear hM20; go_frame)
        | ((with_reducible change wpList _ _ _ (Oper.mk (some 70) _ _ _ _ _ :: _) _ _); refine kEqlI _ _ _ _ .i64 (31) (31) true rfl rfl rfl rfl (by decide) ?_; go_frame)
        | ((with_reducible change wpList _ _ _ (Oper.mk (some 73) _ _ _ _ _ :: _) _ _); refine kEqlI _ _ _ _ .i64 (0) (0) true rfl rfl rfl rfl (by decide) ?_; go_frame)
        | ((with_reducible change wpList _ _ _ (Oper.mk (some 76) _ _ _ _ _ :: _) _ _); refine kLoadRow _ _ _ _ _ _ rfl rfl rfl (hM21.get 1 rfl) Tryd.underlying25 rfl (info_WideC _) ?_; go_frame)
        | ((with_reducible change wpList _ _ _ (Oper.mk (some 77) _ _ _ _ _ :: _) _ _); refine kBuildW0 rfl rfl ?_; go_frame)
        | ((with_reducible change wpList _ _ _ (Oper.mk (some 78) _ _ _ _ _ :: _) _ _); refine kEqlW _ _ _ (0) (0) true rfl rfl rfl rfl (by simp) ?_; go_frame))
      go_ret
      exact ⟨rfl, hM21.below⟩
end Go.Proofs.YtajpdmcbdekpbaaDoor
