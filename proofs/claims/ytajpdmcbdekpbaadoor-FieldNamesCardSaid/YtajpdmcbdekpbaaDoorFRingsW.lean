/-
  The walk of the statement FieldRings.
-/
import Derived.Test.YtajpdmcbdekpbaaDoorFAlive
namespace Go.Proofs.YtajpdmcbdekpbaaDoor
open Go Go.RowKit

theorem sub_back {m x y : Nat} (hm : 0 < m) : ((x + y) % m % m + m - y % m) % m = x % m := by
  rw [Nat.mod_mod]
  have h1 := Nat.mod_lt x hm
  have h2 := Nat.mod_lt y hm
  rw [Nat.add_mod x y]
  by_cases h : x % m + y % m < m
  · rw [Nat.mod_eq_of_lt h, show x % m + y % m + m - y % m = x % m + m by omega, Nat.add_mod_right, Nat.mod_mod]
  · rw [Nat.mod_eq_sub_mod (show m ≤ x % m + y % m by omega), Nat.mod_eq_of_lt (show x % m + y % m - m < m by omega), show x % m + y % m - m + m - y % m = x % m by omega, Nat.mod_mod]
theorem inv_back {m x z : Nat} (hp : IsPrime m) (hz : z % m ≠ 0) : x * z % m * (z ^ (m - 2) % m) % m = x % m := by
  have h := inv_mul hp (not_dvd_mod.2 hz)
  rw [← Nat.mul_mod, Nat.mul_assoc, Nat.mul_mod, h, Nat.mul_one, Nat.mod_mod]
theorem ring_dist {m x y z : Nat} : (x + y) % m * z % m = (x * z % m + y * z % m) % m := by rw [Nat.mod_mul_mod, Nat.add_mul, ← Nat.add_mod]
theorem ring_assoc {m x y z : Nat} : x * (y * z % m) % m = x * y % m * z % m := by rw [Nat.mul_mod_mod, Nat.mod_mul_mod, Nat.mul_assoc]
theorem fold_zero {m x : Nat} : (x + 0 * M256) % m = x % m := by rw [Nat.zero_mul, Nat.add_zero]
theorem PP_ne_zero : PP ≠ 0 := by decide
set_option maxRecDepth 100000 in
set_option maxHeartbeats 8000000 in
theorem FieldRings_true (x : Nat) (mx : x < M256) (y : Nat) (my : y < M256) (z : Nat) (mz : z < M256) (u : Nat) (_mu : u < M256) (w : World) (hG : Glob 0 PP w) :
    Calls Tryd.prog 8 #[.bool true, .agg (wcells2 x y), .agg (wcells2 z u)] w fun e w' => e = .returned (.bool true) ∧ Below w.heap.size w w' := by
  obtain ⟨m, Hm⟩ : ∃ m, Hid (m = PP) := ⟨_, Lib.hid rfl⟩
  have hm : Modu m := by rw [Hm.out]; exact modu_P
  have hp : IsPrime m := by rw [Hm.out]; exact PP_prime
  have hR : Glob 0 m w := by rw [Hm.out]; exact hG
  by_cases hz : z % m = 0
  · replace hz := Lib.hid hz
    obtain ⟨v27, Hv27⟩ : ∃ n, Hid ((x + y) % m = n) := ⟨_, Lib.hid rfl⟩
    have mv27 : v27 < M256 := by rw [← Hv27.out]; exact hm.mod _
    obtain ⟨v29, Hv29⟩ : ∃ n, Hid (v27 * z % m = n) := ⟨_, Lib.hid rfl⟩
    have mv29 : v29 < M256 := by rw [← Hv29.out]; exact hm.mod _
    obtain ⟨v34, Hv34⟩ : ∃ n, Hid (x * z % m = n) := ⟨_, Lib.hid rfl⟩
    have mv34 : v34 < M256 := by rw [← Hv34.out]; exact hm.mod _
    obtain ⟨v38, Hv38⟩ : ∃ n, Hid (y * z % m = n) := ⟨_, Lib.hid rfl⟩
    have mv38 : v38 < M256 := by rw [← Hv38.out]; exact hm.mod _
    obtain ⟨v39, Hv39⟩ : ∃ n, Hid ((v34 + v38) % m = n) := ⟨_, Lib.hid rfl⟩
    have mv39 : v39 < M256 := by rw [← Hv39.out]; exact hm.mod _
    obtain ⟨v46, Hv46⟩ : ∃ n, Hid ((x + y) % m = n) := ⟨_, Lib.hid rfl⟩
    have mv46 : v46 < M256 := by rw [← Hv46.out]; exact hm.mod _
    obtain ⟨v48, Hv48⟩ : ∃ n, Hid ((v46 % m + m - y % m) % m = n) := ⟨_, Lib.hid rfl⟩
    have mv48 : v48 < M256 := by rw [← Hv48.out]; exact hm.mod _
    obtain ⟨v52, Hv52⟩ : ∃ n, Hid ((x + 0 * M256) % m = n) := ⟨_, Lib.hid rfl⟩
    have mv52 : v52 < M256 := by rw [← Hv52.out]; exact hm.mod _
    obtain ⟨v61, Hv61⟩ : ∃ n, Hid (y * z % m = n) := ⟨_, Lib.hid rfl⟩
    have mv61 : v61 < M256 := by rw [← Hv61.out]; exact hm.mod _
    obtain ⟨v62, Hv62⟩ : ∃ n, Hid (x * v61 % m = n) := ⟨_, Lib.hid rfl⟩
    have mv62 : v62 < M256 := by rw [← Hv62.out]; exact hm.mod _
    obtain ⟨v67, Hv67⟩ : ∃ n, Hid (x * y % m = n) := ⟨_, Lib.hid rfl⟩
    have mv67 : v67 < M256 := by rw [← Hv67.out]; exact hm.mod _
    obtain ⟨v69, Hv69⟩ : ∃ n, Hid (v67 * z % m = n) := ⟨_, Lib.hid rfl⟩
    have mv69 : v69 < M256 := by rw [← Hv69.out]; exact hm.mod _
    have F40 := Lib.hid (neqW_no (show v29 = v39 by rw [← Hv29.out, ← Hv27.out, ← Hv39.out, ← Hv34.out, ← Hv38.out]; exact ring_dist))
    have F53 := Lib.hid (neqW_no (show v48 = v52 by rw [← Hv48.out, ← Hv46.out, ← Hv52.out, fold_zero]; exact sub_back hm.pos))
    have F70 := Lib.hid (neqW_no (show v62 = v69 by rw [← Hv62.out, ← Hv61.out, ← Hv69.out, ← Hv67.out]; exact ring_assoc))
    have hM0 := mm_nil w
    (try unfold WV)
    go_enter Tryd.func8, Tryd.ntmps8
    go_wp2_with (first
      | ((with_reducible change wpList _ _ _ (Oper.mk (some 4) _ _ _ _ _ :: _) _ _); refine mmBox hM0 _ _ _ rfl rfl rfl ?_; intro w1 hM1; clear hM0; go_frame)
      | ((with_reducible change wpList _ _ _ (Oper.mk (some 5) _ _ _ _ _ :: _) _ _); refine mmBox hM1 _ _ _ rfl rfl rfl ?_; intro w2 hM2; clear hM1; go_frame)
      | (go_at_call 10; refine (fieldAlive_any _ (hG.below hM2.below)).mono ?_; rintro e w3 ⟨rfl, hB3⟩; have hM3 := hM2.on hB3; clear hB3 hM2; (try unfold WV); go_frame)
      | (go_at_call 19; (with_reducible change Calls _ _ #[Value.bool true] _ _); refine (ring_true m _ (hR.below hM3.below)).mono ?_; rintro e w4 ⟨rfl, hR4, hB4⟩; have hM4 := hM3.new hR4 hB4; clear hB4 hR4 hM3; go_frame))
    refine region_symN [6, 7, 8] [8, 9, 10] (by kernel_rfl) (fun i => [0, 0, 0, 0, 0, 0, 0, 0, 0, 6, 7, 8].getD i 0) [.val (.pointer (some ⟨w.heap.size, 0, none⟩)), .val (.agg (wcells x)), .val (.pointer (some ⟨w.heap.size, 4, none⟩)), .val (.agg (wcells y)), .val (.pointer (some ⟨w1.heap.size, 0, none⟩)), .val (.agg (wcells z)), .fresh w4.heap.size 25 4, .fresh w4.heap.size 25 4, .fresh w4.heap.size 25 4, .hold w4.heap.size 25 (wcells x), .hold w4.heap.size 25 (wcells y), .hold w4.heap.size 25 (wcells z)] [.val (.pointer (some ⟨w.heap.size, 0, none⟩)), .val (.agg (wcells x)), .val (.pointer (some ⟨w.heap.size, 4, none⟩)), .val (.agg (wcells y)), .val (.pointer (some ⟨w1.heap.size, 0, none⟩)), .val (.agg (wcells z)), .hold w4.heap.size 25 (wcells x), .hold w4.heap.size 25 (wcells y), .hold w4.heap.size 25 (wcells z), .val undef, .val undef, .val undef] (by kernel_rfl) (by kernel_rfl) rfl rfl (by intro s hs; simp only [List.mem_cons, List.not_mem_nil, or_false] at hs; rcases hs with rfl | rfl | rfl <;> rfl) (steps_all ⟨?_, ?_, ?_, ?_, ?_, ?_, ?_, ?_, ?_, ?_, ?_, ?_, trivial⟩) ?_
    · intro A W hsz hoth hbel hX hdep
      exact kIndexAddr2 _ _ _ _ 0 rfl rfl ((hoth 4 (free2_of (by kernel_rfl))).trans rfl) rfl rfl (by decide) (symVN hbel hX hsz rfl rfl (show 17 < 99 by decide) rfl (Below.refl _ _) rfl)
    · intro A W hsz hoth hbel hX hdep
      exact kLoadAs _ _ _ _ _ 4 _ _ _ rfl rfl (by have h := hdep ⟨0, .data⟩ (by simp) rfl; exact h) ((hM4.get 2 rfl).on hbel) Tryd.underlying25 rfl info_Wide (by rw [wcells2_size]; decide) (wcells2_at0 _ _) (symVN hbel hX hsz rfl rfl (show 18 < 99 by decide) rfl (Below.refl _ _) rfl)
    · intro A W hsz hoth hbel hX hdep
      exact kIndexAddr2 _ _ _ _ 1 rfl rfl ((hoth 4 (free2_of (by kernel_rfl))).trans rfl) rfl rfl (by decide) (symVN hbel hX hsz rfl rfl (show 19 < 99 by decide) rfl (Below.refl _ _) rfl)
    · intro A W hsz hoth hbel hX hdep
      exact kLoadAs _ _ _ _ _ 4 _ _ _ rfl rfl (by have h := hdep ⟨2, .data⟩ (by simp) rfl; exact h) ((hM4.get 2 rfl).on hbel) Tryd.underlying25 rfl info_Wide (by rw [wcells2_size]; decide) (wcells2_at4 _ _) (symVN hbel hX hsz rfl rfl (show 20 < 99 by decide) rfl (Below.refl _ _) rfl)
    · intro A W hsz hoth hbel hX hdep
      exact kIndexAddr2 _ _ _ _ 0 rfl rfl ((hoth 5 (free2_of (by kernel_rfl))).trans rfl) rfl rfl (by decide) (symVN hbel hX hsz rfl rfl (show 21 < 99 by decide) rfl (Below.refl _ _) rfl)
    · intro A W hsz hoth hbel hX hdep
      exact kLoadAs _ _ _ _ _ 4 _ _ _ rfl rfl (by have h := hdep ⟨4, .data⟩ (by simp) rfl; exact h) ((hM4.get 1 rfl).on hbel) Tryd.underlying25 rfl info_Wide (by rw [wcells2_size]; decide) (wcells2_at0 _ _) (symVN hbel hX hsz rfl rfl (show 22 < 99 by decide) rfl (Below.refl _ _) rfl)
    · intro A W hsz hoth hbel hX hdep
      refine kAllocL _ _ rfl rfl zero_Wide ?_
      intro r hR hl hBc
      exact (symAN hbel hX hsz rfl rfl (show 8 < 99 by decide) hl hBc ⟨_, _, rfl, hbel.size, wcells_size _, hR⟩)
    · intro A W hsz hoth hbel hX hdep
      refine kAllocL _ _ rfl rfl zero_Wide ?_
      intro r hR hl hBc
      exact (symAN hbel hX hsz rfl rfl (show 9 < 99 by decide) hl hBc ⟨_, _, rfl, hbel.size, wcells_size _, hR⟩)
    · intro A W hsz hoth hbel hX hdep
      refine kAllocL _ _ rfl rfl zero_Wide ?_
      intro r hR hl hBc
      exact (symAN hbel hX hsz rfl rfl (show 10 < 99 by decide) hl hBc ⟨_, _, rfl, hbel.size, wcells_size _, hR⟩)
    · intro A W hsz hoth hbel hX hdep
      obtain ⟨g, cs, d8, hg, hcs, hR⟩ : ∃ g cs, A.tmps.getD 8 undef = .pointer (some ⟨g, 0, none⟩) ∧ w4.heap.size ≤ g ∧ cs.size = 4 ∧ Row W g 25 cs := (by have h := hdep ⟨6, .data⟩ (by simp) rfl; exact h)
      refine kStoreRow _ _ _ _ _ _ (wcells x) rfl rfl d8 (by have h := hdep ⟨1, .data⟩ (by simp) rfl; exact h) hR (info_WideC _) (by rw [wcells_size, hcs]) (wcells_one _) ?_
      intro r hR2 hW
      exact symWN (s := 8) hbel hX rfl rfl rfl d8 hR hW hg hR2 (by simp [OnlyAt, srcOf, dstOf, wcells_size]) ⟨g, d8, hg, hR2⟩
    · intro A W hsz hoth hbel hX hdep
      obtain ⟨g, cs, d8, hg, hcs, hR⟩ : ∃ g cs, A.tmps.getD 9 undef = .pointer (some ⟨g, 0, none⟩) ∧ w4.heap.size ≤ g ∧ cs.size = 4 ∧ Row W g 25 cs := (by have h := hdep ⟨7, .data⟩ (by simp) rfl; exact h)
      refine kStoreRow _ _ _ _ _ _ (wcells y) rfl rfl d8 (by have h := hdep ⟨3, .data⟩ (by simp) rfl; exact h) hR (info_WideC _) (by rw [wcells_size, hcs]) (wcells_one _) ?_
      intro r hR2 hW
      exact symWN (s := 9) hbel hX rfl rfl rfl d8 hR hW hg hR2 (by simp [OnlyAt, srcOf, dstOf, wcells_size]) ⟨g, d8, hg, hR2⟩
    · intro A W hsz hoth hbel hX hdep
      obtain ⟨g, cs, d8, hg, hcs, hR⟩ : ∃ g cs, A.tmps.getD 10 undef = .pointer (some ⟨g, 0, none⟩) ∧ w4.heap.size ≤ g ∧ cs.size = 4 ∧ Row W g 25 cs := (by have h := hdep ⟨8, .data⟩ (by simp) rfl; exact h)
      refine kStoreRow _ _ _ _ _ _ (wcells z) rfl rfl d8 (by have h := hdep ⟨5, .data⟩ (by simp) rfl; exact h) hR (info_WideC _) (by rw [wcells_size, hcs]) (wcells_one _) ?_
      intro r hR2 hW
      exact symWN (s := 10) hbel hX rfl rfl rfl d8 hR hW hg hR2 (by simp [OnlyAt, srcOf, dstOf, wcells_size]) ⟨g, d8, hg, hR2⟩
    intro w5 hB5
    dsimp only [AllV]
    intro g5_8 hg5_8 hR5_8
    intro g5_9 hg5_9 hR5_9
    intro g5_10 hg5_10 hR5_10
    intro hap
    dsimp only [putAll]
    go_frame
    have hM5 := hM4.on hB5
    replace hM5 := hM5.cons hR5_8 (Nat.le_trans hM4.size hg5_8) (fun p hp => by have := hM4.lt hp; omega)
    have hne5_9_5_8 : g5_9 ≠ g5_8 := fun e => hap 7 (by simp) 6 (by simp) (by decide) g5_9 rfl (by rw [e]; rfl)
    replace hM5 := hM5.cons hR5_9 (Nat.le_trans hM4.size hg5_9) (List.forall_mem_cons.2 ⟨hne5_9_5_8, fun p hp => by have := hM4.lt hp; omega⟩)
    have hne5_10_5_8 : g5_10 ≠ g5_8 := fun e => hap 8 (by simp) 6 (by simp) (by decide) g5_10 rfl (by rw [e]; rfl)
    have hne5_10_5_9 : g5_10 ≠ g5_9 := fun e => hap 8 (by simp) 7 (by simp) (by decide) g5_10 rfl (by rw [e]; rfl)
    replace hM5 := hM5.cons hR5_10 (Nat.le_trans hM4.size hg5_10) (List.forall_mem_cons.2 ⟨hne5_10_5_9, List.forall_mem_cons.2 ⟨hne5_10_5_8, fun p hp => by have := hM4.lt hp; omega⟩⟩)
    clear hB5 hM4 hg5_8 hR5_8 hg5_9 hR5_9 hg5_10 hR5_10 hap
    go_wp2_with fail
    refine region_sym (fun _ => 0) [.val (.pointer (some ⟨w3.heap.size, 0, none⟩)), .val (.pointer (some ⟨w3.heap.size, 0, none⟩)), .val (.agg (wcells x)), .val (.agg (wcells y)), .val (.agg (wcells v27)), .val (.agg (wcells z)), .val (.agg (wcells v29)), .val (.pointer (some ⟨w3.heap.size, 0, none⟩)), .val (.pointer (some ⟨w3.heap.size, 0, none⟩)), .val (.agg (wcells x)), .val (.agg (wcells z)), .val (.agg (wcells v34)), .val (.pointer (some ⟨w3.heap.size, 0, none⟩)), .val (.agg (wcells y)), .val (.agg (wcells z)), .val (.agg (wcells v38)), .val (.agg (wcells v39)), .val (.bool false), .val (.bool false), .val (.pointer (some ⟨w3.heap.size, 0, none⟩)), .val (.pointer (some ⟨w3.heap.size, 0, none⟩)), .val (.agg (wcells x)), .val (.agg (wcells y)), .val (.agg (wcells v46)), .val (.agg (wcells y)), .val (.agg (wcells v48)), .val (.pointer (some ⟨w3.heap.size, 0, none⟩)), .val (.agg (wcells x)), .val (.agg (wcells 0)), .val (.agg (wcells v52)), .val (.bool false), .val (.bool false), .val (.bool false), .val (.pointer (some ⟨w3.heap.size, 0, none⟩)), .val (.agg (wcells x)), .val (.pointer (some ⟨w3.heap.size, 0, none⟩)), .val (.agg (wcells y)), .val (.agg (wcells z)), .val (.agg (wcells v61)), .val (.agg (wcells v62)), .val (.pointer (some ⟨w3.heap.size, 0, none⟩)), .val (.pointer (some ⟨w3.heap.size, 0, none⟩)), .val (.agg (wcells x)), .val (.agg (wcells y)), .val (.agg (wcells v67)), .val (.agg (wcells z)), .val (.agg (wcells v69)), .val (.bool false), .val (.bool false)] [.val (.pointer (some ⟨w3.heap.size, 0, none⟩)), .val (.pointer (some ⟨w3.heap.size, 0, none⟩)), .val (.agg (wcells x)), .val (.agg (wcells y)), .val (.agg (wcells v27)), .val (.agg (wcells z)), .val (.agg (wcells v29)), .val (.pointer (some ⟨w3.heap.size, 0, none⟩)), .val (.pointer (some ⟨w3.heap.size, 0, none⟩)), .val (.agg (wcells x)), .val (.agg (wcells z)), .val (.agg (wcells v34)), .val (.pointer (some ⟨w3.heap.size, 0, none⟩)), .val (.agg (wcells y)), .val (.agg (wcells z)), .val (.agg (wcells v38)), .val (.agg (wcells v39)), .val (.bool false), .val (.bool false), .val (.pointer (some ⟨w3.heap.size, 0, none⟩)), .val (.pointer (some ⟨w3.heap.size, 0, none⟩)), .val (.agg (wcells x)), .val (.agg (wcells y)), .val (.agg (wcells v46)), .val (.agg (wcells y)), .val (.agg (wcells v48)), .val (.pointer (some ⟨w3.heap.size, 0, none⟩)), .val (.agg (wcells x)), .val (.agg (wcells 0)), .val (.agg (wcells v52)), .val (.bool false), .val (.bool false), .val (.bool false), .val (.pointer (some ⟨w3.heap.size, 0, none⟩)), .val (.agg (wcells x)), .val (.pointer (some ⟨w3.heap.size, 0, none⟩)), .val (.agg (wcells y)), .val (.agg (wcells z)), .val (.agg (wcells v61)), .val (.agg (wcells v62)), .val (.pointer (some ⟨w3.heap.size, 0, none⟩)), .val (.pointer (some ⟨w3.heap.size, 0, none⟩)), .val (.agg (wcells x)), .val (.agg (wcells y)), .val (.agg (wcells v67)), .val (.agg (wcells z)), .val (.agg (wcells v69)), .val (.bool false), .val (.bool false)] (by kernel_rfl) (by kernel_rfl) rfl rfl (steps_all ⟨?_, ?_, ?_, ?_, ?_, ?_, ?_, ?_, ?_, ?_, ?_, ?_, ?_, ?_, ?_, ?_, ?_, ?_, ?_, ?_, ?_, ?_, ?_, ?_, ?_, ?_, ?_, ?_, ?_, ?_, ?_, ?_, ?_, ?_, ?_, ?_, ?_, ?_, ?_, ?_, ?_, ?_, ?_, ?_, ?_, ?_, ?_, ?_, ?_, trivial⟩) ?_
    · intro A W hsz hoth hbel hdep
      exact kMoveV _ (.pointer (some ⟨w3.heap.size, 0, none⟩)) rfl rfl ((hoth 7 (free2_of (by kernel_rfl))).trans rfl) (symV hbel hsz rfl rfl (show 23 < 99 by decide) (Below.refl _ _) rfl)
    · intro A W hsz hoth hbel hdep
      exact kMoveV _ (.pointer (some ⟨w3.heap.size, 0, none⟩)) rfl rfl ((hoth 7 (free2_of (by kernel_rfl))).trans rfl) (symV hbel hsz rfl rfl (show 24 < 99 by decide) (Below.refl _ _) rfl)
    · intro A W hsz hoth hbel hdep
      exact kLoadRow _ _ _ _ _ _ rfl rfl ((hoth 8 (free2_of (by kernel_rfl))).trans rfl) ((hM5.get 2 rfl).on hbel) Tryd.underlying25 rfl (info_WideC _) (symV hbel hsz rfl rfl (show 25 < 99 by decide) (Below.refl _ _) rfl)
    · intro A W hsz hoth hbel hdep
      exact kLoadRow _ _ _ _ _ _ rfl rfl ((hoth 9 (free2_of (by kernel_rfl))).trans rfl) ((hM5.get 1 rfl).on hbel) Tryd.underlying25 rfl (info_WideC _) (symV hbel hsz rfl rfl (show 26 < 99 by decide) (Below.refl _ _) rfl)
    · intro A W hsz hoth hbel hdep
      refine kCall3 21 _ _ _ _ _ _ _ rfl rfl (by kernel_rfl) (by have h := hdep ⟨1, .data⟩ (by simp) rfl; exact h) (by have h := hdep ⟨2, .data⟩ (by simp) rfl; exact h) (by have h := hdep ⟨3, .data⟩ (by simp) rfl; exact h) ?_
      refine (fAdd_as hm (w3.heap.size) mx my Hv27.out.symm W ((hM5.get 3 rfl).on hbel)).mono ?_
      rintro e r ⟨rfl, hBc⟩
      exact ⟨_, rfl, (symV hbel hsz rfl rfl (show 27 < 99 by decide) hBc rfl)⟩
    · intro A W hsz hoth hbel hdep
      exact kLoadRow _ _ _ _ _ _ rfl rfl ((hoth 10 (free2_of (by kernel_rfl))).trans rfl) ((hM5.get 0 rfl).on hbel) Tryd.underlying25 rfl (info_WideC _) (symV hbel hsz rfl rfl (show 28 < 99 by decide) (Below.refl _ _) rfl)
    · intro A W hsz hoth hbel hdep
      refine kCall3 25 _ _ _ _ _ _ _ rfl rfl (by kernel_rfl) (by have h := hdep ⟨0, .data⟩ (by simp) rfl; exact h) (by have h := hdep ⟨4, .data⟩ (by simp) rfl; exact h) (by have h := hdep ⟨5, .data⟩ (by simp) rfl; exact h) ?_
      refine (fMul_as hm (w3.heap.size) mv27 mz Hv29.out W ((hM5.get 3 rfl).on hbel)).mono ?_
      rintro e r ⟨rfl, hBc⟩
      exact ⟨_, rfl, (symV hbel hsz rfl rfl (show 29 < 99 by decide) hBc rfl)⟩
    · intro A W hsz hoth hbel hdep
      exact kMoveV _ (.pointer (some ⟨w3.heap.size, 0, none⟩)) rfl rfl ((hoth 7 (free2_of (by kernel_rfl))).trans rfl) (symV hbel hsz rfl rfl (show 30 < 99 by decide) (Below.refl _ _) rfl)
    · intro A W hsz hoth hbel hdep
      exact kMoveV _ (.pointer (some ⟨w3.heap.size, 0, none⟩)) rfl rfl ((hoth 7 (free2_of (by kernel_rfl))).trans rfl) (symV hbel hsz rfl rfl (show 31 < 99 by decide) (Below.refl _ _) rfl)
    · intro A W hsz hoth hbel hdep
      exact kLoadRow _ _ _ _ _ _ rfl rfl ((hoth 8 (free2_of (by kernel_rfl))).trans rfl) ((hM5.get 2 rfl).on hbel) Tryd.underlying25 rfl (info_WideC _) (symV hbel hsz rfl rfl (show 32 < 99 by decide) (Below.refl _ _) rfl)
    · intro A W hsz hoth hbel hdep
      exact kLoadRow _ _ _ _ _ _ rfl rfl ((hoth 10 (free2_of (by kernel_rfl))).trans rfl) ((hM5.get 0 rfl).on hbel) Tryd.underlying25 rfl (info_WideC _) (symV hbel hsz rfl rfl (show 33 < 99 by decide) (Below.refl _ _) rfl)
    · intro A W hsz hoth hbel hdep
      refine kCall3 25 _ _ _ _ _ _ _ rfl rfl (by kernel_rfl) (by have h := hdep ⟨8, .data⟩ (by simp) rfl; exact h) (by have h := hdep ⟨9, .data⟩ (by simp) rfl; exact h) (by have h := hdep ⟨10, .data⟩ (by simp) rfl; exact h) ?_
      refine (fMul_as hm (w3.heap.size) mx mz Hv34.out W ((hM5.get 3 rfl).on hbel)).mono ?_
      rintro e r ⟨rfl, hBc⟩
      exact ⟨_, rfl, (symV hbel hsz rfl rfl (show 34 < 99 by decide) hBc rfl)⟩
    · intro A W hsz hoth hbel hdep
      exact kMoveV _ (.pointer (some ⟨w3.heap.size, 0, none⟩)) rfl rfl ((hoth 7 (free2_of (by kernel_rfl))).trans rfl) (symV hbel hsz rfl rfl (show 35 < 99 by decide) (Below.refl _ _) rfl)
    · intro A W hsz hoth hbel hdep
      exact kLoadRow _ _ _ _ _ _ rfl rfl ((hoth 9 (free2_of (by kernel_rfl))).trans rfl) ((hM5.get 1 rfl).on hbel) Tryd.underlying25 rfl (info_WideC _) (symV hbel hsz rfl rfl (show 36 < 99 by decide) (Below.refl _ _) rfl)
    · intro A W hsz hoth hbel hdep
      exact kLoadRow _ _ _ _ _ _ rfl rfl ((hoth 10 (free2_of (by kernel_rfl))).trans rfl) ((hM5.get 0 rfl).on hbel) Tryd.underlying25 rfl (info_WideC _) (symV hbel hsz rfl rfl (show 37 < 99 by decide) (Below.refl _ _) rfl)
    · intro A W hsz hoth hbel hdep
      refine kCall3 25 _ _ _ _ _ _ _ rfl rfl (by kernel_rfl) (by have h := hdep ⟨12, .data⟩ (by simp) rfl; exact h) (by have h := hdep ⟨13, .data⟩ (by simp) rfl; exact h) (by have h := hdep ⟨14, .data⟩ (by simp) rfl; exact h) ?_
      refine (fMul_as hm (w3.heap.size) my mz Hv38.out W ((hM5.get 3 rfl).on hbel)).mono ?_
      rintro e r ⟨rfl, hBc⟩
      exact ⟨_, rfl, (symV hbel hsz rfl rfl (show 38 < 99 by decide) hBc rfl)⟩
    · intro A W hsz hoth hbel hdep
      refine kCall3 21 _ _ _ _ _ _ _ rfl rfl (by kernel_rfl) (by have h := hdep ⟨7, .data⟩ (by simp) rfl; exact h) (by have h := hdep ⟨11, .data⟩ (by simp) rfl; exact h) (by have h := hdep ⟨15, .data⟩ (by simp) rfl; exact h) ?_
      refine (fAdd_as hm (w3.heap.size) mv34 mv38 Hv39.out.symm W ((hM5.get 3 rfl).on hbel)).mono ?_
      rintro e r ⟨rfl, hBc⟩
      exact ⟨_, rfl, (symV hbel hsz rfl rfl (show 39 < 99 by decide) hBc rfl)⟩
    · intro A W hsz hoth hbel hdep
      exact kNeqW _ _ _ (v29) (v39) false rfl rfl (by have h := hdep ⟨6, .data⟩ (by simp) rfl; exact h) (by have h := hdep ⟨16, .data⟩ (by simp) rfl; exact h) (F40.out) (symV hbel hsz rfl rfl (show 40 < 99 by decide) (Below.refl _ _) rfl)
    · intro A W hsz hoth hbel hdep
      exact kMoveV _ (.bool false) rfl rfl (by have h := hdep ⟨17, .data⟩ (by simp) rfl; exact h) (symV hbel hsz rfl rfl (show 41 < 99 by decide) (Below.refl _ _) rfl)
    · intro A W hsz hoth hbel hdep
      exact kMoveV _ (.pointer (some ⟨w3.heap.size, 0, none⟩)) rfl (wanted_of rfl rfl (by have h := hdep ⟨18, .guard⟩ (by simp) rfl; exact h)) ((hoth 7 (free2_of (by kernel_rfl))).trans rfl) (symV hbel hsz rfl rfl (show 42 < 99 by decide) (Below.refl _ _) rfl)
    · intro A W hsz hoth hbel hdep
      exact kMoveV _ (.pointer (some ⟨w3.heap.size, 0, none⟩)) rfl (wanted_of rfl rfl (by have h := hdep ⟨18, .guard⟩ (by simp) rfl; exact h)) ((hoth 7 (free2_of (by kernel_rfl))).trans rfl) (symV hbel hsz rfl rfl (show 43 < 99 by decide) (Below.refl _ _) rfl)
    · intro A W hsz hoth hbel hdep
      exact kLoadRow _ _ _ _ _ _ rfl (wanted_of rfl rfl (by have h := hdep ⟨18, .guard⟩ (by simp) rfl; exact h)) ((hoth 8 (free2_of (by kernel_rfl))).trans rfl) ((hM5.get 2 rfl).on hbel) Tryd.underlying25 rfl (info_WideC _) (symV hbel hsz rfl rfl (show 44 < 99 by decide) (Below.refl _ _) rfl)
    · intro A W hsz hoth hbel hdep
      exact kLoadRow _ _ _ _ _ _ rfl (wanted_of rfl rfl (by have h := hdep ⟨18, .guard⟩ (by simp) rfl; exact h)) ((hoth 9 (free2_of (by kernel_rfl))).trans rfl) ((hM5.get 1 rfl).on hbel) Tryd.underlying25 rfl (info_WideC _) (symV hbel hsz rfl rfl (show 45 < 99 by decide) (Below.refl _ _) rfl)
    · intro A W hsz hoth hbel hdep
      refine kCall3 21 _ _ _ _ _ _ _ rfl (wanted_of rfl rfl (by have h := hdep ⟨18, .chain⟩ (by simp) rfl; exact h)) (by kernel_rfl) (by have h := hdep ⟨20, .data⟩ (by simp) rfl; exact h) (by have h := hdep ⟨21, .data⟩ (by simp) rfl; exact h) (by have h := hdep ⟨22, .data⟩ (by simp) rfl; exact h) ?_
      refine (fAdd_as hm (w3.heap.size) mx my Hv46.out.symm W ((hM5.get 3 rfl).on hbel)).mono ?_
      rintro e r ⟨rfl, hBc⟩
      exact ⟨_, rfl, (symV hbel hsz rfl rfl (show 46 < 99 by decide) hBc rfl)⟩
    · intro A W hsz hoth hbel hdep
      exact kLoadRow _ _ _ _ _ _ rfl (wanted_of rfl rfl (by have h := hdep ⟨18, .guard⟩ (by simp) rfl; exact h)) ((hoth 9 (free2_of (by kernel_rfl))).trans rfl) ((hM5.get 1 rfl).on hbel) Tryd.underlying25 rfl (info_WideC _) (symV hbel hsz rfl rfl (show 47 < 99 by decide) (Below.refl _ _) rfl)
    · intro A W hsz hoth hbel hdep
      refine kCall3 23 _ _ _ _ _ _ _ rfl (wanted_of rfl rfl (by have h := hdep ⟨18, .guard⟩ (by simp) rfl; exact h)) (by kernel_rfl) (by have h := hdep ⟨19, .data⟩ (by simp) rfl; exact h) (by have h := hdep ⟨23, .data⟩ (by simp) rfl; exact h) (by have h := hdep ⟨24, .data⟩ (by simp) rfl; exact h) ?_
      refine (fSub_as hm (w3.heap.size) mv46 my Hv48.out W ((hM5.get 3 rfl).on hbel)).mono ?_
      rintro e r ⟨rfl, hBc⟩
      exact ⟨_, rfl, (symV hbel hsz rfl rfl (show 48 < 99 by decide) hBc rfl)⟩
    · intro A W hsz hoth hbel hdep
      exact kMoveV _ (.pointer (some ⟨w3.heap.size, 0, none⟩)) rfl (wanted_of rfl rfl (by have h := hdep ⟨18, .guard⟩ (by simp) rfl; exact h)) ((hoth 7 (free2_of (by kernel_rfl))).trans rfl) (symV hbel hsz rfl rfl (show 49 < 99 by decide) (Below.refl _ _) rfl)
    · intro A W hsz hoth hbel hdep
      exact kLoadRow _ _ _ _ _ _ rfl (wanted_of rfl rfl (by have h := hdep ⟨18, .guard⟩ (by simp) rfl; exact h)) ((hoth 8 (free2_of (by kernel_rfl))).trans rfl) ((hM5.get 2 rfl).on hbel) Tryd.underlying25 rfl (info_WideC _) (symV hbel hsz rfl rfl (show 50 < 99 by decide) (Below.refl _ _) rfl)
    · intro A W hsz hoth hbel hdep
      exact kBuildW0 rfl (wanted_of rfl rfl (by have h := hdep ⟨18, .guard⟩ (by simp) rfl; exact h)) (symV hbel hsz rfl rfl (show 51 < 99 by decide) (Below.refl _ _) rfl)
    · intro A W hsz hoth hbel hdep
      refine kCall3 30 _ _ _ _ _ _ _ rfl (wanted_of rfl rfl (by have h := hdep ⟨18, .guard⟩ (by simp) rfl; exact h)) (by kernel_rfl) (by have h := hdep ⟨26, .data⟩ (by simp) rfl; exact h) (by have h := hdep ⟨27, .data⟩ (by simp) rfl; exact h) (by have h := hdep ⟨28, .data⟩ (by simp) rfl; exact h) ?_
      refine (fFold_as hm (w3.heap.size) mx M256_pos Hv52.out W ((hM5.get 3 rfl).on hbel)).mono ?_
      rintro e r ⟨rfl, hBc⟩
      exact ⟨_, rfl, (symV hbel hsz rfl rfl (show 52 < 99 by decide) hBc rfl)⟩
    · intro A W hsz hoth hbel hdep
      exact kNeqW _ _ _ (v48) (v52) false rfl (wanted_of rfl rfl (by have h := hdep ⟨18, .guard⟩ (by simp) rfl; exact h)) (by have h := hdep ⟨25, .data⟩ (by simp) rfl; exact h) (by have h := hdep ⟨29, .data⟩ (by simp) rfl; exact h) (F53.out) (symV hbel hsz rfl rfl (show 53 < 99 by decide) (Below.refl _ _) rfl)
    · intro A W hsz hoth hbel hdep
      exact kPick _ _ _ false (.bool false) rfl rfl (by have h := hdep ⟨18, .data⟩ (by simp) rfl; exact h) (by have h := hdep ⟨30, .data⟩ (by simp) rfl; exact h) (symV hbel hsz rfl rfl (show 54 < 99 by decide) (Below.refl _ _) rfl)
    · intro A W hsz hoth hbel hdep
      exact kMoveV _ (.bool false) rfl rfl (by have h := hdep ⟨31, .data⟩ (by simp) rfl; exact h) (symV hbel hsz rfl rfl (show 55 < 99 by decide) (Below.refl _ _) rfl)
    · intro A W hsz hoth hbel hdep
      exact kMoveV _ (.pointer (some ⟨w3.heap.size, 0, none⟩)) rfl (wanted_of rfl rfl (by have h := hdep ⟨32, .guard⟩ (by simp) rfl; exact h)) ((hoth 7 (free2_of (by kernel_rfl))).trans rfl) (symV hbel hsz rfl rfl (show 56 < 99 by decide) (Below.refl _ _) rfl)
    · intro A W hsz hoth hbel hdep
      exact kLoadRow _ _ _ _ _ _ rfl (wanted_of rfl rfl (by have h := hdep ⟨32, .guard⟩ (by simp) rfl; exact h)) ((hoth 8 (free2_of (by kernel_rfl))).trans rfl) ((hM5.get 2 rfl).on hbel) Tryd.underlying25 rfl (info_WideC _) (symV hbel hsz rfl rfl (show 57 < 99 by decide) (Below.refl _ _) rfl)
    · intro A W hsz hoth hbel hdep
      exact kMoveV _ (.pointer (some ⟨w3.heap.size, 0, none⟩)) rfl (wanted_of rfl rfl (by have h := hdep ⟨32, .guard⟩ (by simp) rfl; exact h)) ((hoth 7 (free2_of (by kernel_rfl))).trans rfl) (symV hbel hsz rfl rfl (show 58 < 99 by decide) (Below.refl _ _) rfl)
    · intro A W hsz hoth hbel hdep
      exact kLoadRow _ _ _ _ _ _ rfl (wanted_of rfl rfl (by have h := hdep ⟨32, .guard⟩ (by simp) rfl; exact h)) ((hoth 9 (free2_of (by kernel_rfl))).trans rfl) ((hM5.get 1 rfl).on hbel) Tryd.underlying25 rfl (info_WideC _) (symV hbel hsz rfl rfl (show 59 < 99 by decide) (Below.refl _ _) rfl)
    · intro A W hsz hoth hbel hdep
      exact kLoadRow _ _ _ _ _ _ rfl (wanted_of rfl rfl (by have h := hdep ⟨32, .guard⟩ (by simp) rfl; exact h)) ((hoth 10 (free2_of (by kernel_rfl))).trans rfl) ((hM5.get 0 rfl).on hbel) Tryd.underlying25 rfl (info_WideC _) (symV hbel hsz rfl rfl (show 60 < 99 by decide) (Below.refl _ _) rfl)
    · intro A W hsz hoth hbel hdep
      refine kCall3 25 _ _ _ _ _ _ _ rfl (wanted_of rfl rfl (by have h := hdep ⟨32, .chain⟩ (by simp) rfl; exact h)) (by kernel_rfl) (by have h := hdep ⟨35, .data⟩ (by simp) rfl; exact h) (by have h := hdep ⟨36, .data⟩ (by simp) rfl; exact h) (by have h := hdep ⟨37, .data⟩ (by simp) rfl; exact h) ?_
      refine (fMul_as hm (w3.heap.size) my mz Hv61.out W ((hM5.get 3 rfl).on hbel)).mono ?_
      rintro e r ⟨rfl, hBc⟩
      exact ⟨_, rfl, (symV hbel hsz rfl rfl (show 61 < 99 by decide) hBc rfl)⟩
    · intro A W hsz hoth hbel hdep
      refine kCall3 25 _ _ _ _ _ _ _ rfl (wanted_of rfl rfl (by have h := hdep ⟨32, .guard⟩ (by simp) rfl; exact h)) (by kernel_rfl) (by have h := hdep ⟨33, .data⟩ (by simp) rfl; exact h) (by have h := hdep ⟨34, .data⟩ (by simp) rfl; exact h) (by have h := hdep ⟨38, .data⟩ (by simp) rfl; exact h) ?_
      refine (fMul_as hm (w3.heap.size) mx mv61 Hv62.out W ((hM5.get 3 rfl).on hbel)).mono ?_
      rintro e r ⟨rfl, hBc⟩
      exact ⟨_, rfl, (symV hbel hsz rfl rfl (show 62 < 99 by decide) hBc rfl)⟩
    · intro A W hsz hoth hbel hdep
      exact kMoveV _ (.pointer (some ⟨w3.heap.size, 0, none⟩)) rfl (wanted_of rfl rfl (by have h := hdep ⟨32, .guard⟩ (by simp) rfl; exact h)) ((hoth 7 (free2_of (by kernel_rfl))).trans rfl) (symV hbel hsz rfl rfl (show 63 < 99 by decide) (Below.refl _ _) rfl)
    · intro A W hsz hoth hbel hdep
      exact kMoveV _ (.pointer (some ⟨w3.heap.size, 0, none⟩)) rfl (wanted_of rfl rfl (by have h := hdep ⟨32, .guard⟩ (by simp) rfl; exact h)) ((hoth 7 (free2_of (by kernel_rfl))).trans rfl) (symV hbel hsz rfl rfl (show 64 < 99 by decide) (Below.refl _ _) rfl)
    · intro A W hsz hoth hbel hdep
      exact kLoadRow _ _ _ _ _ _ rfl (wanted_of rfl rfl (by have h := hdep ⟨32, .guard⟩ (by simp) rfl; exact h)) ((hoth 8 (free2_of (by kernel_rfl))).trans rfl) ((hM5.get 2 rfl).on hbel) Tryd.underlying25 rfl (info_WideC _) (symV hbel hsz rfl rfl (show 65 < 99 by decide) (Below.refl _ _) rfl)
    · intro A W hsz hoth hbel hdep
      exact kLoadRow _ _ _ _ _ _ rfl (wanted_of rfl rfl (by have h := hdep ⟨32, .guard⟩ (by simp) rfl; exact h)) ((hoth 9 (free2_of (by kernel_rfl))).trans rfl) ((hM5.get 1 rfl).on hbel) Tryd.underlying25 rfl (info_WideC _) (symV hbel hsz rfl rfl (show 66 < 99 by decide) (Below.refl _ _) rfl)
    · intro A W hsz hoth hbel hdep
      refine kCall3 25 _ _ _ _ _ _ _ rfl (wanted_of rfl rfl (by have h := hdep ⟨32, .guard⟩ (by simp) rfl; exact h)) (by kernel_rfl) (by have h := hdep ⟨41, .data⟩ (by simp) rfl; exact h) (by have h := hdep ⟨42, .data⟩ (by simp) rfl; exact h) (by have h := hdep ⟨43, .data⟩ (by simp) rfl; exact h) ?_
      refine (fMul_as hm (w3.heap.size) mx my Hv67.out W ((hM5.get 3 rfl).on hbel)).mono ?_
      rintro e r ⟨rfl, hBc⟩
      exact ⟨_, rfl, (symV hbel hsz rfl rfl (show 67 < 99 by decide) hBc rfl)⟩
    · intro A W hsz hoth hbel hdep
      exact kLoadRow _ _ _ _ _ _ rfl (wanted_of rfl rfl (by have h := hdep ⟨32, .guard⟩ (by simp) rfl; exact h)) ((hoth 10 (free2_of (by kernel_rfl))).trans rfl) ((hM5.get 0 rfl).on hbel) Tryd.underlying25 rfl (info_WideC _) (symV hbel hsz rfl rfl (show 68 < 99 by decide) (Below.refl _ _) rfl)
    · intro A W hsz hoth hbel hdep
      refine kCall3 25 _ _ _ _ _ _ _ rfl (wanted_of rfl rfl (by have h := hdep ⟨32, .guard⟩ (by simp) rfl; exact h)) (by kernel_rfl) (by have h := hdep ⟨40, .data⟩ (by simp) rfl; exact h) (by have h := hdep ⟨44, .data⟩ (by simp) rfl; exact h) (by have h := hdep ⟨45, .data⟩ (by simp) rfl; exact h) ?_
      refine (fMul_as hm (w3.heap.size) mv67 mz Hv69.out W ((hM5.get 3 rfl).on hbel)).mono ?_
      rintro e r ⟨rfl, hBc⟩
      exact ⟨_, rfl, (symV hbel hsz rfl rfl (show 69 < 99 by decide) hBc rfl)⟩
    · intro A W hsz hoth hbel hdep
      exact kNeqW _ _ _ (v62) (v69) false rfl (wanted_of rfl rfl (by have h := hdep ⟨32, .guard⟩ (by simp) rfl; exact h)) (by have h := hdep ⟨39, .data⟩ (by simp) rfl; exact h) (by have h := hdep ⟨46, .data⟩ (by simp) rfl; exact h) (F70.out) (symV hbel hsz rfl rfl (show 70 < 99 by decide) (Below.refl _ _) rfl)
    · intro A W hsz hoth hbel hdep
      exact kPick _ _ _ false (.bool false) rfl rfl (by have h := hdep ⟨32, .data⟩ (by simp) rfl; exact h) (by have h := hdep ⟨47, .data⟩ (by simp) rfl; exact h) (symV hbel hsz rfl rfl (show 71 < 99 by decide) (Below.refl _ _) rfl)
    intro w6 hB6
    dsimp only [AllV]
    dsimp only [putAll]
    go_frame
    have hM6 := hM5.on hB6
    clear hB6 hM5
    go_wp2_with (first
      | ((with_reducible change wpList _ _ _ (Oper.mk (some 74) _ _ _ _ _ :: _) _ _); refine kLoadRow _ _ _ _ _ _ rfl rfl rfl (hM6.get 0 rfl) Tryd.underlying25 rfl (info_WideC _) ?_; go_frame)
      | (go_at_call 12; (with_reducible change Calls _ _ #[Value.pointer (some ⟨w3.heap.size, 0, none⟩), Value.agg (wcells z)] _ _); refine (fInv_zero hm z (w3.heap.size) mz hz.out _ (hM6.get 3 rfl)).mono ?_; rintro e w7 ⟨rfl, hB7⟩; have hM7 := hM6.on hB7; clear hB7 hM6; (try unfold WV); go_frame)
      | ((with_reducible change wpList _ _ _ (Oper.mk (some 11) _ _ _ _ _ :: _) _ _); refine mmAlloc hM7 _ _ rfl rfl zero_Wide ?_; intro w8 hM8; clear hM7; go_frame)
      | ((with_reducible change wpList _ _ _ (Oper.mk none (Op.store _ (Operand.tmp 11) (Operand.tmp 76)) _ _ _ _ :: _) _ _); refine mmStoreAt hM8 0 _ _ _ _ _ _ (wcells 0) rfl rfl rfl rfl rfl (info_WideC _) (by simp only [wcells_size]) (wcells_one _) ?_; intro w9 hM9; dsimp only [List.set] at hM9; clear hM8; go_frame))
    refine region_sym (fun _ => 0) [.val (.int .i64 (31)), .val (.bool true), .val (.bool true), .val (undef), .val (undef), .val (undef), .val (undef), .val (undef), .val (undef), .val (undef), .val (undef), .val (undef), .val (undef), .val (undef), .val (undef), .val (undef), .val (undef), .val (undef), .val (undef), .val (undef), .val (.bool true), .val (.bool true)] [.val (.int .i64 (31)), .val (.bool true), .val (.bool true), .val (undef), .val (undef), .val (undef), .val (undef), .val (undef), .val (undef), .val (undef), .val (undef), .val (undef), .val (undef), .val (undef), .val (undef), .val (undef), .val (undef), .val (undef), .val (undef), .val (undef), .val (.bool true), .val (.bool true)] (by kernel_rfl) (by kernel_rfl) rfl rfl (steps_all ⟨?_, ?_, ?_, ?_, ?_, ?_, ?_, ?_, ?_, ?_, ?_, ?_, ?_, ?_, ?_, ?_, ?_, ?_, ?_, ?_, ?_, ?_, trivial⟩) ?_
    · intro A W hsz hoth hbel hdep
      exact kMoveV _ (.int .i64 (31)) rfl rfl ((hoth 12 (free2_of (by kernel_rfl))).trans rfl) (symV hbel hsz rfl rfl (show 78 < 99 by decide) (Below.refl _ _) rfl)
    · intro A W hsz hoth hbel hdep
      exact kNeqI _ _ _ _ .i64 (31) (0) true rfl rfl (by have h := hdep ⟨0, .data⟩ (by simp) rfl; exact h) rfl (by decide) (symV hbel hsz rfl rfl (show 79 < 99 by decide) (Below.refl _ _) rfl)
    · intro A W hsz hoth hbel hdep
      exact kMoveV _ (.bool true) rfl rfl (by have h := hdep ⟨1, .data⟩ (by simp) rfl; exact h) (symV hbel hsz rfl rfl (show 80 < 99 by decide) (Below.refl _ _) rfl)
    · intro A W hsz hoth hbel hdep
      exact wpList_skip (unwanted_of rfl rfl (by have h := hdep ⟨2, .guard⟩ (by simp) rfl; exact h) (.inl rfl)) (symV hbel hsz rfl rfl (show 81 < 99 by decide) (Below.refl _ _) rfl)
    · intro A W hsz hoth hbel hdep
      exact wpList_skip (unwanted_of rfl rfl (by have h := hdep ⟨2, .guard⟩ (by simp) rfl; exact h) (.inl rfl)) (symV hbel hsz rfl rfl (show 82 < 99 by decide) (Below.refl _ _) rfl)
    · intro A W hsz hoth hbel hdep
      exact wpList_skip (unwanted_of rfl rfl (by have h := hdep ⟨2, .guard⟩ (by simp) rfl; exact h) (.inl rfl)) (symV hbel hsz rfl rfl (show 83 < 99 by decide) (Below.refl _ _) rfl)
    · intro A W hsz hoth hbel hdep
      exact wpList_skip (unwanted_of rfl rfl (by have h := hdep ⟨2, .guard⟩ (by simp) rfl; exact h) (.inl rfl)) (symV hbel hsz rfl rfl (show 84 < 99 by decide) (Below.refl _ _) rfl)
    · intro A W hsz hoth hbel hdep
      exact wpList_skip (unwanted_of rfl rfl (by have h := hdep ⟨2, .chain⟩ (by simp) rfl; exact h) (.inl rfl)) (symV hbel hsz rfl rfl (show 85 < 99 by decide) (Below.refl _ _) rfl)
    · intro A W hsz hoth hbel hdep
      exact wpList_skip (unwanted_of rfl rfl (by have h := hdep ⟨2, .guard⟩ (by simp) rfl; exact h) (.inl rfl)) (symV hbel hsz rfl rfl (show 86 < 99 by decide) (Below.refl _ _) rfl)
    · intro A W hsz hoth hbel hdep
      exact wpList_skip (unwanted_of rfl rfl (by have h := hdep ⟨2, .guard⟩ (by simp) rfl; exact h) (.inl rfl)) (symV hbel hsz rfl rfl (show 87 < 99 by decide) (Below.refl _ _) rfl)
    · intro A W hsz hoth hbel hdep
      exact wpList_skip (unwanted_of rfl rfl (by have h := hdep ⟨2, .guard⟩ (by simp) rfl; exact h) (.inl rfl)) (symV hbel hsz rfl rfl (show 88 < 99 by decide) (Below.refl _ _) rfl)
    · intro A W hsz hoth hbel hdep
      exact wpList_skip (unwanted_of rfl rfl (by have h := hdep ⟨2, .guard⟩ (by simp) rfl; exact h) (.inl rfl)) (symV hbel hsz rfl rfl (show 89 < 99 by decide) (Below.refl _ _) rfl)
    · intro A W hsz hoth hbel hdep
      exact wpList_skip (unwanted_of rfl rfl (by have h := hdep ⟨2, .guard⟩ (by simp) rfl; exact h) (.inl rfl)) (symV hbel hsz rfl rfl (show 90 < 99 by decide) (Below.refl _ _) rfl)
    · intro A W hsz hoth hbel hdep
      exact wpList_skip (unwanted_of rfl rfl (by have h := hdep ⟨2, .guard⟩ (by simp) rfl; exact h) (.inl rfl)) (symV hbel hsz rfl rfl (show 91 < 99 by decide) (Below.refl _ _) rfl)
    · intro A W hsz hoth hbel hdep
      exact wpList_skip (unwanted_of rfl rfl (by have h := hdep ⟨2, .guard⟩ (by simp) rfl; exact h) (.inl rfl)) (symV hbel hsz rfl rfl (show 92 < 99 by decide) (Below.refl _ _) rfl)
    · intro A W hsz hoth hbel hdep
      exact wpList_skip (unwanted_of rfl rfl (by have h := hdep ⟨2, .guard⟩ (by simp) rfl; exact h) (.inl rfl)) (symV hbel hsz rfl rfl (show 93 < 99 by decide) (Below.refl _ _) rfl)
    · intro A W hsz hoth hbel hdep
      exact wpList_skip (unwanted_of rfl rfl (by have h := hdep ⟨15, .guard⟩ (by simp) rfl; exact h) (.inr rfl)) (symV hbel hsz rfl rfl (show 94 < 99 by decide) (Below.refl _ _) rfl)
    · intro A W hsz hoth hbel hdep
      exact wpList_skip (unwanted_of rfl rfl (by have h := hdep ⟨15, .guard⟩ (by simp) rfl; exact h) (.inr rfl)) (symV hbel hsz rfl rfl (show 95 < 99 by decide) (Below.refl _ _) rfl)
    · intro A W hsz hoth hbel hdep
      exact wpList_skip (unwanted_of rfl rfl (by have h := hdep ⟨15, .chain⟩ (by simp) rfl; exact h) (.inr rfl)) (symV hbel hsz rfl rfl (show 96 < 99 by decide) (Below.refl _ _) rfl)
    · intro A W hsz hoth hbel hdep
      exact wpList_skip (unwanted_of rfl rfl (by have h := hdep ⟨2, .guard⟩ (by simp) rfl; exact h) (.inl rfl)) (symV hbel hsz rfl rfl (show 97 < 99 by decide) (Below.refl _ _) rfl)
    · intro A W hsz hoth hbel hdep
      exact kPick _ _ _ true (.bool true) rfl rfl (by have h := hdep ⟨2, .data⟩ (by simp) rfl; exact h) rfl (symV hbel hsz rfl rfl (show 98 < 99 by decide) (Below.refl _ _) rfl)
    · intro A W hsz hoth hbel hdep
      exact kAssignV _ (.bool true) rfl rfl (by have h := hdep ⟨20, .data⟩ (by simp) rfl; exact h) (symV hbel hsz rfl rfl (show 6 < 99 by decide) (Below.refl _ _) rfl)
    intro w10 hB10
    dsimp only [AllV]
    dsimp only [putAll]
    go_frame
    have hM10 := hM9.on hB10
    clear hB10 hM9
    go_wp2_with fail
    go_ret
    exact ⟨rfl, hM10.below⟩
  · replace hz := Lib.hid hz
    obtain ⟨v27, Hv27⟩ : ∃ n, Hid ((x + y) % m = n) := ⟨_, Lib.hid rfl⟩
    have mv27 : v27 < M256 := by rw [← Hv27.out]; exact hm.mod _
    obtain ⟨v29, Hv29⟩ : ∃ n, Hid (v27 * z % m = n) := ⟨_, Lib.hid rfl⟩
    have mv29 : v29 < M256 := by rw [← Hv29.out]; exact hm.mod _
    obtain ⟨v34, Hv34⟩ : ∃ n, Hid (x * z % m = n) := ⟨_, Lib.hid rfl⟩
    have mv34 : v34 < M256 := by rw [← Hv34.out]; exact hm.mod _
    obtain ⟨v38, Hv38⟩ : ∃ n, Hid (y * z % m = n) := ⟨_, Lib.hid rfl⟩
    have mv38 : v38 < M256 := by rw [← Hv38.out]; exact hm.mod _
    obtain ⟨v39, Hv39⟩ : ∃ n, Hid ((v34 + v38) % m = n) := ⟨_, Lib.hid rfl⟩
    have mv39 : v39 < M256 := by rw [← Hv39.out]; exact hm.mod _
    obtain ⟨v46, Hv46⟩ : ∃ n, Hid ((x + y) % m = n) := ⟨_, Lib.hid rfl⟩
    have mv46 : v46 < M256 := by rw [← Hv46.out]; exact hm.mod _
    obtain ⟨v48, Hv48⟩ : ∃ n, Hid ((v46 % m + m - y % m) % m = n) := ⟨_, Lib.hid rfl⟩
    have mv48 : v48 < M256 := by rw [← Hv48.out]; exact hm.mod _
    obtain ⟨v52, Hv52⟩ : ∃ n, Hid ((x + 0 * M256) % m = n) := ⟨_, Lib.hid rfl⟩
    have mv52 : v52 < M256 := by rw [← Hv52.out]; exact hm.mod _
    obtain ⟨v61, Hv61⟩ : ∃ n, Hid (y * z % m = n) := ⟨_, Lib.hid rfl⟩
    have mv61 : v61 < M256 := by rw [← Hv61.out]; exact hm.mod _
    obtain ⟨v62, Hv62⟩ : ∃ n, Hid (x * v61 % m = n) := ⟨_, Lib.hid rfl⟩
    have mv62 : v62 < M256 := by rw [← Hv62.out]; exact hm.mod _
    obtain ⟨v67, Hv67⟩ : ∃ n, Hid (x * y % m = n) := ⟨_, Lib.hid rfl⟩
    have mv67 : v67 < M256 := by rw [← Hv67.out]; exact hm.mod _
    obtain ⟨v69, Hv69⟩ : ∃ n, Hid (v67 * z % m = n) := ⟨_, Lib.hid rfl⟩
    have mv69 : v69 < M256 := by rw [← Hv69.out]; exact hm.mod _
    obtain ⟨v75, Hv75⟩ : ∃ n, Hid (z ^ (m - 2) % m = n) := ⟨_, Lib.hid rfl⟩
    have mv75 : v75 < M256 := by rw [← Hv75.out]; exact hm.mod _
    obtain ⟨v85, Hv85⟩ : ∃ n, Hid (x * z % m = n) := ⟨_, Lib.hid rfl⟩
    have mv85 : v85 < M256 := by rw [← Hv85.out]; exact hm.mod _
    obtain ⟨v87, Hv87⟩ : ∃ n, Hid (v85 * v75 % m = n) := ⟨_, Lib.hid rfl⟩
    have mv87 : v87 < M256 := by rw [← Hv87.out]; exact hm.mod _
    obtain ⟨v91, Hv91⟩ : ∃ n, Hid ((x + 0 * M256) % m = n) := ⟨_, Lib.hid rfl⟩
    have mv91 : v91 < M256 := by rw [← Hv91.out]; exact hm.mod _
    have F40 := Lib.hid (neqW_no (show v29 = v39 by rw [← Hv29.out, ← Hv27.out, ← Hv39.out, ← Hv34.out, ← Hv38.out]; exact ring_dist))
    have F53 := Lib.hid (neqW_no (show v48 = v52 by rw [← Hv48.out, ← Hv46.out, ← Hv52.out, fold_zero]; exact sub_back hm.pos))
    have F70 := Lib.hid (neqW_no (show v62 = v69 by rw [← Hv62.out, ← Hv61.out, ← Hv69.out, ← Hv67.out]; exact ring_assoc))
    have F92 := Lib.hid (eqlW_yes (show v87 = v91 by rw [← Hv87.out, ← Hv85.out, ← Hv75.out, ← Hv91.out, fold_zero]; exact inv_back hp hz.out))
    have F96 := Lib.hid (show decide (v75 < m) = true by rw [← Hv75.out]; exact decide_eq_true (Nat.mod_lt _ hm.pos))
    have hM0 := mm_nil w
    (try unfold WV)
    go_enter Tryd.func8, Tryd.ntmps8
    go_wp2_with (first
      | ((with_reducible change wpList _ _ _ (Oper.mk (some 4) _ _ _ _ _ :: _) _ _); refine mmBox hM0 _ _ _ rfl rfl rfl ?_; intro w1 hM1; clear hM0; go_frame)
      | ((with_reducible change wpList _ _ _ (Oper.mk (some 5) _ _ _ _ _ :: _) _ _); refine mmBox hM1 _ _ _ rfl rfl rfl ?_; intro w2 hM2; clear hM1; go_frame)
      | (go_at_call 10; refine (fieldAlive_any _ (hG.below hM2.below)).mono ?_; rintro e w3 ⟨rfl, hB3⟩; have hM3 := hM2.on hB3; clear hB3 hM2; (try unfold WV); go_frame)
      | (go_at_call 19; (with_reducible change Calls _ _ #[Value.bool true] _ _); refine (ring_true m _ (hR.below hM3.below)).mono ?_; rintro e w4 ⟨rfl, hR4, hB4⟩; have hM4 := hM3.new hR4 hB4; clear hB4 hR4 hM3; go_frame))
    refine region_symN [6, 7, 8] [8, 9, 10] (by kernel_rfl) (fun i => [0, 0, 0, 0, 0, 0, 0, 0, 0, 6, 7, 8].getD i 0) [.val (.pointer (some ⟨w.heap.size, 0, none⟩)), .val (.agg (wcells x)), .val (.pointer (some ⟨w.heap.size, 4, none⟩)), .val (.agg (wcells y)), .val (.pointer (some ⟨w1.heap.size, 0, none⟩)), .val (.agg (wcells z)), .fresh w4.heap.size 25 4, .fresh w4.heap.size 25 4, .fresh w4.heap.size 25 4, .hold w4.heap.size 25 (wcells x), .hold w4.heap.size 25 (wcells y), .hold w4.heap.size 25 (wcells z)] [.val (.pointer (some ⟨w.heap.size, 0, none⟩)), .val (.agg (wcells x)), .val (.pointer (some ⟨w.heap.size, 4, none⟩)), .val (.agg (wcells y)), .val (.pointer (some ⟨w1.heap.size, 0, none⟩)), .val (.agg (wcells z)), .hold w4.heap.size 25 (wcells x), .hold w4.heap.size 25 (wcells y), .hold w4.heap.size 25 (wcells z), .val undef, .val undef, .val undef] (by kernel_rfl) (by kernel_rfl) rfl rfl (by intro s hs; simp only [List.mem_cons, List.not_mem_nil, or_false] at hs; rcases hs with rfl | rfl | rfl <;> rfl) (steps_all ⟨?_, ?_, ?_, ?_, ?_, ?_, ?_, ?_, ?_, ?_, ?_, ?_, trivial⟩) ?_
    · intro A W hsz hoth hbel hX hdep
      exact kIndexAddr2 _ _ _ _ 0 rfl rfl ((hoth 4 (free2_of (by kernel_rfl))).trans rfl) rfl rfl (by decide) (symVN hbel hX hsz rfl rfl (show 17 < 99 by decide) rfl (Below.refl _ _) rfl)
    · intro A W hsz hoth hbel hX hdep
      exact kLoadAs _ _ _ _ _ 4 _ _ _ rfl rfl (by have h := hdep ⟨0, .data⟩ (by simp) rfl; exact h) ((hM4.get 2 rfl).on hbel) Tryd.underlying25 rfl info_Wide (by rw [wcells2_size]; decide) (wcells2_at0 _ _) (symVN hbel hX hsz rfl rfl (show 18 < 99 by decide) rfl (Below.refl _ _) rfl)
    · intro A W hsz hoth hbel hX hdep
      exact kIndexAddr2 _ _ _ _ 1 rfl rfl ((hoth 4 (free2_of (by kernel_rfl))).trans rfl) rfl rfl (by decide) (symVN hbel hX hsz rfl rfl (show 19 < 99 by decide) rfl (Below.refl _ _) rfl)
    · intro A W hsz hoth hbel hX hdep
      exact kLoadAs _ _ _ _ _ 4 _ _ _ rfl rfl (by have h := hdep ⟨2, .data⟩ (by simp) rfl; exact h) ((hM4.get 2 rfl).on hbel) Tryd.underlying25 rfl info_Wide (by rw [wcells2_size]; decide) (wcells2_at4 _ _) (symVN hbel hX hsz rfl rfl (show 20 < 99 by decide) rfl (Below.refl _ _) rfl)
    · intro A W hsz hoth hbel hX hdep
      exact kIndexAddr2 _ _ _ _ 0 rfl rfl ((hoth 5 (free2_of (by kernel_rfl))).trans rfl) rfl rfl (by decide) (symVN hbel hX hsz rfl rfl (show 21 < 99 by decide) rfl (Below.refl _ _) rfl)
    · intro A W hsz hoth hbel hX hdep
      exact kLoadAs _ _ _ _ _ 4 _ _ _ rfl rfl (by have h := hdep ⟨4, .data⟩ (by simp) rfl; exact h) ((hM4.get 1 rfl).on hbel) Tryd.underlying25 rfl info_Wide (by rw [wcells2_size]; decide) (wcells2_at0 _ _) (symVN hbel hX hsz rfl rfl (show 22 < 99 by decide) rfl (Below.refl _ _) rfl)
    · intro A W hsz hoth hbel hX hdep
      refine kAllocL _ _ rfl rfl zero_Wide ?_
      intro r hR hl hBc
      exact (symAN hbel hX hsz rfl rfl (show 8 < 99 by decide) hl hBc ⟨_, _, rfl, hbel.size, wcells_size _, hR⟩)
    · intro A W hsz hoth hbel hX hdep
      refine kAllocL _ _ rfl rfl zero_Wide ?_
      intro r hR hl hBc
      exact (symAN hbel hX hsz rfl rfl (show 9 < 99 by decide) hl hBc ⟨_, _, rfl, hbel.size, wcells_size _, hR⟩)
    · intro A W hsz hoth hbel hX hdep
      refine kAllocL _ _ rfl rfl zero_Wide ?_
      intro r hR hl hBc
      exact (symAN hbel hX hsz rfl rfl (show 10 < 99 by decide) hl hBc ⟨_, _, rfl, hbel.size, wcells_size _, hR⟩)
    · intro A W hsz hoth hbel hX hdep
      obtain ⟨g, cs, d8, hg, hcs, hR⟩ : ∃ g cs, A.tmps.getD 8 undef = .pointer (some ⟨g, 0, none⟩) ∧ w4.heap.size ≤ g ∧ cs.size = 4 ∧ Row W g 25 cs := (by have h := hdep ⟨6, .data⟩ (by simp) rfl; exact h)
      refine kStoreRow _ _ _ _ _ _ (wcells x) rfl rfl d8 (by have h := hdep ⟨1, .data⟩ (by simp) rfl; exact h) hR (info_WideC _) (by rw [wcells_size, hcs]) (wcells_one _) ?_
      intro r hR2 hW
      exact symWN (s := 8) hbel hX rfl rfl rfl d8 hR hW hg hR2 (by simp [OnlyAt, srcOf, dstOf, wcells_size]) ⟨g, d8, hg, hR2⟩
    · intro A W hsz hoth hbel hX hdep
      obtain ⟨g, cs, d8, hg, hcs, hR⟩ : ∃ g cs, A.tmps.getD 9 undef = .pointer (some ⟨g, 0, none⟩) ∧ w4.heap.size ≤ g ∧ cs.size = 4 ∧ Row W g 25 cs := (by have h := hdep ⟨7, .data⟩ (by simp) rfl; exact h)
      refine kStoreRow _ _ _ _ _ _ (wcells y) rfl rfl d8 (by have h := hdep ⟨3, .data⟩ (by simp) rfl; exact h) hR (info_WideC _) (by rw [wcells_size, hcs]) (wcells_one _) ?_
      intro r hR2 hW
      exact symWN (s := 9) hbel hX rfl rfl rfl d8 hR hW hg hR2 (by simp [OnlyAt, srcOf, dstOf, wcells_size]) ⟨g, d8, hg, hR2⟩
    · intro A W hsz hoth hbel hX hdep
      obtain ⟨g, cs, d8, hg, hcs, hR⟩ : ∃ g cs, A.tmps.getD 10 undef = .pointer (some ⟨g, 0, none⟩) ∧ w4.heap.size ≤ g ∧ cs.size = 4 ∧ Row W g 25 cs := (by have h := hdep ⟨8, .data⟩ (by simp) rfl; exact h)
      refine kStoreRow _ _ _ _ _ _ (wcells z) rfl rfl d8 (by have h := hdep ⟨5, .data⟩ (by simp) rfl; exact h) hR (info_WideC _) (by rw [wcells_size, hcs]) (wcells_one _) ?_
      intro r hR2 hW
      exact symWN (s := 10) hbel hX rfl rfl rfl d8 hR hW hg hR2 (by simp [OnlyAt, srcOf, dstOf, wcells_size]) ⟨g, d8, hg, hR2⟩
    intro w5 hB5
    dsimp only [AllV]
    intro g5_8 hg5_8 hR5_8
    intro g5_9 hg5_9 hR5_9
    intro g5_10 hg5_10 hR5_10
    intro hap
    dsimp only [putAll]
    go_frame
    have hM5 := hM4.on hB5
    replace hM5 := hM5.cons hR5_8 (Nat.le_trans hM4.size hg5_8) (fun p hp => by have := hM4.lt hp; omega)
    have hne5_9_5_8 : g5_9 ≠ g5_8 := fun e => hap 7 (by simp) 6 (by simp) (by decide) g5_9 rfl (by rw [e]; rfl)
    replace hM5 := hM5.cons hR5_9 (Nat.le_trans hM4.size hg5_9) (List.forall_mem_cons.2 ⟨hne5_9_5_8, fun p hp => by have := hM4.lt hp; omega⟩)
    have hne5_10_5_8 : g5_10 ≠ g5_8 := fun e => hap 8 (by simp) 6 (by simp) (by decide) g5_10 rfl (by rw [e]; rfl)
    have hne5_10_5_9 : g5_10 ≠ g5_9 := fun e => hap 8 (by simp) 7 (by simp) (by decide) g5_10 rfl (by rw [e]; rfl)
    replace hM5 := hM5.cons hR5_10 (Nat.le_trans hM4.size hg5_10) (List.forall_mem_cons.2 ⟨hne5_10_5_9, List.forall_mem_cons.2 ⟨hne5_10_5_8, fun p hp => by have := hM4.lt hp; omega⟩⟩)
    clear hB5 hM4 hg5_8 hR5_8 hg5_9 hR5_9 hg5_10 hR5_10 hap
    go_wp2_with fail
    refine region_sym (fun _ => 0) [.val (.pointer (some ⟨w3.heap.size, 0, none⟩)), .val (.pointer (some ⟨w3.heap.size, 0, none⟩)), .val (.agg (wcells x)), .val (.agg (wcells y)), .val (.agg (wcells v27)), .val (.agg (wcells z)), .val (.agg (wcells v29)), .val (.pointer (some ⟨w3.heap.size, 0, none⟩)), .val (.pointer (some ⟨w3.heap.size, 0, none⟩)), .val (.agg (wcells x)), .val (.agg (wcells z)), .val (.agg (wcells v34)), .val (.pointer (some ⟨w3.heap.size, 0, none⟩)), .val (.agg (wcells y)), .val (.agg (wcells z)), .val (.agg (wcells v38)), .val (.agg (wcells v39)), .val (.bool false), .val (.bool false), .val (.pointer (some ⟨w3.heap.size, 0, none⟩)), .val (.pointer (some ⟨w3.heap.size, 0, none⟩)), .val (.agg (wcells x)), .val (.agg (wcells y)), .val (.agg (wcells v46)), .val (.agg (wcells y)), .val (.agg (wcells v48)), .val (.pointer (some ⟨w3.heap.size, 0, none⟩)), .val (.agg (wcells x)), .val (.agg (wcells 0)), .val (.agg (wcells v52)), .val (.bool false), .val (.bool false), .val (.bool false), .val (.pointer (some ⟨w3.heap.size, 0, none⟩)), .val (.agg (wcells x)), .val (.pointer (some ⟨w3.heap.size, 0, none⟩)), .val (.agg (wcells y)), .val (.agg (wcells z)), .val (.agg (wcells v61)), .val (.agg (wcells v62)), .val (.pointer (some ⟨w3.heap.size, 0, none⟩)), .val (.pointer (some ⟨w3.heap.size, 0, none⟩)), .val (.agg (wcells x)), .val (.agg (wcells y)), .val (.agg (wcells v67)), .val (.agg (wcells z)), .val (.agg (wcells v69)), .val (.bool false), .val (.bool false)] [.val (.pointer (some ⟨w3.heap.size, 0, none⟩)), .val (.pointer (some ⟨w3.heap.size, 0, none⟩)), .val (.agg (wcells x)), .val (.agg (wcells y)), .val (.agg (wcells v27)), .val (.agg (wcells z)), .val (.agg (wcells v29)), .val (.pointer (some ⟨w3.heap.size, 0, none⟩)), .val (.pointer (some ⟨w3.heap.size, 0, none⟩)), .val (.agg (wcells x)), .val (.agg (wcells z)), .val (.agg (wcells v34)), .val (.pointer (some ⟨w3.heap.size, 0, none⟩)), .val (.agg (wcells y)), .val (.agg (wcells z)), .val (.agg (wcells v38)), .val (.agg (wcells v39)), .val (.bool false), .val (.bool false), .val (.pointer (some ⟨w3.heap.size, 0, none⟩)), .val (.pointer (some ⟨w3.heap.size, 0, none⟩)), .val (.agg (wcells x)), .val (.agg (wcells y)), .val (.agg (wcells v46)), .val (.agg (wcells y)), .val (.agg (wcells v48)), .val (.pointer (some ⟨w3.heap.size, 0, none⟩)), .val (.agg (wcells x)), .val (.agg (wcells 0)), .val (.agg (wcells v52)), .val (.bool false), .val (.bool false), .val (.bool false), .val (.pointer (some ⟨w3.heap.size, 0, none⟩)), .val (.agg (wcells x)), .val (.pointer (some ⟨w3.heap.size, 0, none⟩)), .val (.agg (wcells y)), .val (.agg (wcells z)), .val (.agg (wcells v61)), .val (.agg (wcells v62)), .val (.pointer (some ⟨w3.heap.size, 0, none⟩)), .val (.pointer (some ⟨w3.heap.size, 0, none⟩)), .val (.agg (wcells x)), .val (.agg (wcells y)), .val (.agg (wcells v67)), .val (.agg (wcells z)), .val (.agg (wcells v69)), .val (.bool false), .val (.bool false)] (by kernel_rfl) (by kernel_rfl) rfl rfl (steps_all ⟨?_, ?_, ?_, ?_, ?_, ?_, ?_, ?_, ?_, ?_, ?_, ?_, ?_, ?_, ?_, ?_, ?_, ?_, ?_, ?_, ?_, ?_, ?_, ?_, ?_, ?_, ?_, ?_, ?_, ?_, ?_, ?_, ?_, ?_, ?_, ?_, ?_, ?_, ?_, ?_, ?_, ?_, ?_, ?_, ?_, ?_, ?_, ?_, ?_, trivial⟩) ?_
    · intro A W hsz hoth hbel hdep
      exact kMoveV _ (.pointer (some ⟨w3.heap.size, 0, none⟩)) rfl rfl ((hoth 7 (free2_of (by kernel_rfl))).trans rfl) (symV hbel hsz rfl rfl (show 23 < 99 by decide) (Below.refl _ _) rfl)
    · intro A W hsz hoth hbel hdep
      exact kMoveV _ (.pointer (some ⟨w3.heap.size, 0, none⟩)) rfl rfl ((hoth 7 (free2_of (by kernel_rfl))).trans rfl) (symV hbel hsz rfl rfl (show 24 < 99 by decide) (Below.refl _ _) rfl)
    · intro A W hsz hoth hbel hdep
      exact kLoadRow _ _ _ _ _ _ rfl rfl ((hoth 8 (free2_of (by kernel_rfl))).trans rfl) ((hM5.get 2 rfl).on hbel) Tryd.underlying25 rfl (info_WideC _) (symV hbel hsz rfl rfl (show 25 < 99 by decide) (Below.refl _ _) rfl)
    · intro A W hsz hoth hbel hdep
      exact kLoadRow _ _ _ _ _ _ rfl rfl ((hoth 9 (free2_of (by kernel_rfl))).trans rfl) ((hM5.get 1 rfl).on hbel) Tryd.underlying25 rfl (info_WideC _) (symV hbel hsz rfl rfl (show 26 < 99 by decide) (Below.refl _ _) rfl)
    · intro A W hsz hoth hbel hdep
      refine kCall3 21 _ _ _ _ _ _ _ rfl rfl (by kernel_rfl) (by have h := hdep ⟨1, .data⟩ (by simp) rfl; exact h) (by have h := hdep ⟨2, .data⟩ (by simp) rfl; exact h) (by have h := hdep ⟨3, .data⟩ (by simp) rfl; exact h) ?_
      refine (fAdd_as hm (w3.heap.size) mx my Hv27.out.symm W ((hM5.get 3 rfl).on hbel)).mono ?_
      rintro e r ⟨rfl, hBc⟩
      exact ⟨_, rfl, (symV hbel hsz rfl rfl (show 27 < 99 by decide) hBc rfl)⟩
    · intro A W hsz hoth hbel hdep
      exact kLoadRow _ _ _ _ _ _ rfl rfl ((hoth 10 (free2_of (by kernel_rfl))).trans rfl) ((hM5.get 0 rfl).on hbel) Tryd.underlying25 rfl (info_WideC _) (symV hbel hsz rfl rfl (show 28 < 99 by decide) (Below.refl _ _) rfl)
    · intro A W hsz hoth hbel hdep
      refine kCall3 25 _ _ _ _ _ _ _ rfl rfl (by kernel_rfl) (by have h := hdep ⟨0, .data⟩ (by simp) rfl; exact h) (by have h := hdep ⟨4, .data⟩ (by simp) rfl; exact h) (by have h := hdep ⟨5, .data⟩ (by simp) rfl; exact h) ?_
      refine (fMul_as hm (w3.heap.size) mv27 mz Hv29.out W ((hM5.get 3 rfl).on hbel)).mono ?_
      rintro e r ⟨rfl, hBc⟩
      exact ⟨_, rfl, (symV hbel hsz rfl rfl (show 29 < 99 by decide) hBc rfl)⟩
    · intro A W hsz hoth hbel hdep
      exact kMoveV _ (.pointer (some ⟨w3.heap.size, 0, none⟩)) rfl rfl ((hoth 7 (free2_of (by kernel_rfl))).trans rfl) (symV hbel hsz rfl rfl (show 30 < 99 by decide) (Below.refl _ _) rfl)
    · intro A W hsz hoth hbel hdep
      exact kMoveV _ (.pointer (some ⟨w3.heap.size, 0, none⟩)) rfl rfl ((hoth 7 (free2_of (by kernel_rfl))).trans rfl) (symV hbel hsz rfl rfl (show 31 < 99 by decide) (Below.refl _ _) rfl)
    · intro A W hsz hoth hbel hdep
      exact kLoadRow _ _ _ _ _ _ rfl rfl ((hoth 8 (free2_of (by kernel_rfl))).trans rfl) ((hM5.get 2 rfl).on hbel) Tryd.underlying25 rfl (info_WideC _) (symV hbel hsz rfl rfl (show 32 < 99 by decide) (Below.refl _ _) rfl)
    · intro A W hsz hoth hbel hdep
      exact kLoadRow _ _ _ _ _ _ rfl rfl ((hoth 10 (free2_of (by kernel_rfl))).trans rfl) ((hM5.get 0 rfl).on hbel) Tryd.underlying25 rfl (info_WideC _) (symV hbel hsz rfl rfl (show 33 < 99 by decide) (Below.refl _ _) rfl)
    · intro A W hsz hoth hbel hdep
      refine kCall3 25 _ _ _ _ _ _ _ rfl rfl (by kernel_rfl) (by have h := hdep ⟨8, .data⟩ (by simp) rfl; exact h) (by have h := hdep ⟨9, .data⟩ (by simp) rfl; exact h) (by have h := hdep ⟨10, .data⟩ (by simp) rfl; exact h) ?_
      refine (fMul_as hm (w3.heap.size) mx mz Hv34.out W ((hM5.get 3 rfl).on hbel)).mono ?_
      rintro e r ⟨rfl, hBc⟩
      exact ⟨_, rfl, (symV hbel hsz rfl rfl (show 34 < 99 by decide) hBc rfl)⟩
    · intro A W hsz hoth hbel hdep
      exact kMoveV _ (.pointer (some ⟨w3.heap.size, 0, none⟩)) rfl rfl ((hoth 7 (free2_of (by kernel_rfl))).trans rfl) (symV hbel hsz rfl rfl (show 35 < 99 by decide) (Below.refl _ _) rfl)
    · intro A W hsz hoth hbel hdep
      exact kLoadRow _ _ _ _ _ _ rfl rfl ((hoth 9 (free2_of (by kernel_rfl))).trans rfl) ((hM5.get 1 rfl).on hbel) Tryd.underlying25 rfl (info_WideC _) (symV hbel hsz rfl rfl (show 36 < 99 by decide) (Below.refl _ _) rfl)
    · intro A W hsz hoth hbel hdep
      exact kLoadRow _ _ _ _ _ _ rfl rfl ((hoth 10 (free2_of (by kernel_rfl))).trans rfl) ((hM5.get 0 rfl).on hbel) Tryd.underlying25 rfl (info_WideC _) (symV hbel hsz rfl rfl (show 37 < 99 by decide) (Below.refl _ _) rfl)
    · intro A W hsz hoth hbel hdep
      refine kCall3 25 _ _ _ _ _ _ _ rfl rfl (by kernel_rfl) (by have h := hdep ⟨12, .data⟩ (by simp) rfl; exact h) (by have h := hdep ⟨13, .data⟩ (by simp) rfl; exact h) (by have h := hdep ⟨14, .data⟩ (by simp) rfl; exact h) ?_
      refine (fMul_as hm (w3.heap.size) my mz Hv38.out W ((hM5.get 3 rfl).on hbel)).mono ?_
      rintro e r ⟨rfl, hBc⟩
      exact ⟨_, rfl, (symV hbel hsz rfl rfl (show 38 < 99 by decide) hBc rfl)⟩
    · intro A W hsz hoth hbel hdep
      refine kCall3 21 _ _ _ _ _ _ _ rfl rfl (by kernel_rfl) (by have h := hdep ⟨7, .data⟩ (by simp) rfl; exact h) (by have h := hdep ⟨11, .data⟩ (by simp) rfl; exact h) (by have h := hdep ⟨15, .data⟩ (by simp) rfl; exact h) ?_
      refine (fAdd_as hm (w3.heap.size) mv34 mv38 Hv39.out.symm W ((hM5.get 3 rfl).on hbel)).mono ?_
      rintro e r ⟨rfl, hBc⟩
      exact ⟨_, rfl, (symV hbel hsz rfl rfl (show 39 < 99 by decide) hBc rfl)⟩
    · intro A W hsz hoth hbel hdep
      exact kNeqW _ _ _ (v29) (v39) false rfl rfl (by have h := hdep ⟨6, .data⟩ (by simp) rfl; exact h) (by have h := hdep ⟨16, .data⟩ (by simp) rfl; exact h) (F40.out) (symV hbel hsz rfl rfl (show 40 < 99 by decide) (Below.refl _ _) rfl)
    · intro A W hsz hoth hbel hdep
      exact kMoveV _ (.bool false) rfl rfl (by have h := hdep ⟨17, .data⟩ (by simp) rfl; exact h) (symV hbel hsz rfl rfl (show 41 < 99 by decide) (Below.refl _ _) rfl)
    · intro A W hsz hoth hbel hdep
      exact kMoveV _ (.pointer (some ⟨w3.heap.size, 0, none⟩)) rfl (wanted_of rfl rfl (by have h := hdep ⟨18, .guard⟩ (by simp) rfl; exact h)) ((hoth 7 (free2_of (by kernel_rfl))).trans rfl) (symV hbel hsz rfl rfl (show 42 < 99 by decide) (Below.refl _ _) rfl)
    · intro A W hsz hoth hbel hdep
      exact kMoveV _ (.pointer (some ⟨w3.heap.size, 0, none⟩)) rfl (wanted_of rfl rfl (by have h := hdep ⟨18, .guard⟩ (by simp) rfl; exact h)) ((hoth 7 (free2_of (by kernel_rfl))).trans rfl) (symV hbel hsz rfl rfl (show 43 < 99 by decide) (Below.refl _ _) rfl)
    · intro A W hsz hoth hbel hdep
      exact kLoadRow _ _ _ _ _ _ rfl (wanted_of rfl rfl (by have h := hdep ⟨18, .guard⟩ (by simp) rfl; exact h)) ((hoth 8 (free2_of (by kernel_rfl))).trans rfl) ((hM5.get 2 rfl).on hbel) Tryd.underlying25 rfl (info_WideC _) (symV hbel hsz rfl rfl (show 44 < 99 by decide) (Below.refl _ _) rfl)
    · intro A W hsz hoth hbel hdep
      exact kLoadRow _ _ _ _ _ _ rfl (wanted_of rfl rfl (by have h := hdep ⟨18, .guard⟩ (by simp) rfl; exact h)) ((hoth 9 (free2_of (by kernel_rfl))).trans rfl) ((hM5.get 1 rfl).on hbel) Tryd.underlying25 rfl (info_WideC _) (symV hbel hsz rfl rfl (show 45 < 99 by decide) (Below.refl _ _) rfl)
    · intro A W hsz hoth hbel hdep
      refine kCall3 21 _ _ _ _ _ _ _ rfl (wanted_of rfl rfl (by have h := hdep ⟨18, .chain⟩ (by simp) rfl; exact h)) (by kernel_rfl) (by have h := hdep ⟨20, .data⟩ (by simp) rfl; exact h) (by have h := hdep ⟨21, .data⟩ (by simp) rfl; exact h) (by have h := hdep ⟨22, .data⟩ (by simp) rfl; exact h) ?_
      refine (fAdd_as hm (w3.heap.size) mx my Hv46.out.symm W ((hM5.get 3 rfl).on hbel)).mono ?_
      rintro e r ⟨rfl, hBc⟩
      exact ⟨_, rfl, (symV hbel hsz rfl rfl (show 46 < 99 by decide) hBc rfl)⟩
    · intro A W hsz hoth hbel hdep
      exact kLoadRow _ _ _ _ _ _ rfl (wanted_of rfl rfl (by have h := hdep ⟨18, .guard⟩ (by simp) rfl; exact h)) ((hoth 9 (free2_of (by kernel_rfl))).trans rfl) ((hM5.get 1 rfl).on hbel) Tryd.underlying25 rfl (info_WideC _) (symV hbel hsz rfl rfl (show 47 < 99 by decide) (Below.refl _ _) rfl)
    · intro A W hsz hoth hbel hdep
      refine kCall3 23 _ _ _ _ _ _ _ rfl (wanted_of rfl rfl (by have h := hdep ⟨18, .guard⟩ (by simp) rfl; exact h)) (by kernel_rfl) (by have h := hdep ⟨19, .data⟩ (by simp) rfl; exact h) (by have h := hdep ⟨23, .data⟩ (by simp) rfl; exact h) (by have h := hdep ⟨24, .data⟩ (by simp) rfl; exact h) ?_
      refine (fSub_as hm (w3.heap.size) mv46 my Hv48.out W ((hM5.get 3 rfl).on hbel)).mono ?_
      rintro e r ⟨rfl, hBc⟩
      exact ⟨_, rfl, (symV hbel hsz rfl rfl (show 48 < 99 by decide) hBc rfl)⟩
    · intro A W hsz hoth hbel hdep
      exact kMoveV _ (.pointer (some ⟨w3.heap.size, 0, none⟩)) rfl (wanted_of rfl rfl (by have h := hdep ⟨18, .guard⟩ (by simp) rfl; exact h)) ((hoth 7 (free2_of (by kernel_rfl))).trans rfl) (symV hbel hsz rfl rfl (show 49 < 99 by decide) (Below.refl _ _) rfl)
    · intro A W hsz hoth hbel hdep
      exact kLoadRow _ _ _ _ _ _ rfl (wanted_of rfl rfl (by have h := hdep ⟨18, .guard⟩ (by simp) rfl; exact h)) ((hoth 8 (free2_of (by kernel_rfl))).trans rfl) ((hM5.get 2 rfl).on hbel) Tryd.underlying25 rfl (info_WideC _) (symV hbel hsz rfl rfl (show 50 < 99 by decide) (Below.refl _ _) rfl)
    · intro A W hsz hoth hbel hdep
      exact kBuildW0 rfl (wanted_of rfl rfl (by have h := hdep ⟨18, .guard⟩ (by simp) rfl; exact h)) (symV hbel hsz rfl rfl (show 51 < 99 by decide) (Below.refl _ _) rfl)
    · intro A W hsz hoth hbel hdep
      refine kCall3 30 _ _ _ _ _ _ _ rfl (wanted_of rfl rfl (by have h := hdep ⟨18, .guard⟩ (by simp) rfl; exact h)) (by kernel_rfl) (by have h := hdep ⟨26, .data⟩ (by simp) rfl; exact h) (by have h := hdep ⟨27, .data⟩ (by simp) rfl; exact h) (by have h := hdep ⟨28, .data⟩ (by simp) rfl; exact h) ?_
      refine (fFold_as hm (w3.heap.size) mx M256_pos Hv52.out W ((hM5.get 3 rfl).on hbel)).mono ?_
      rintro e r ⟨rfl, hBc⟩
      exact ⟨_, rfl, (symV hbel hsz rfl rfl (show 52 < 99 by decide) hBc rfl)⟩
    · intro A W hsz hoth hbel hdep
      exact kNeqW _ _ _ (v48) (v52) false rfl (wanted_of rfl rfl (by have h := hdep ⟨18, .guard⟩ (by simp) rfl; exact h)) (by have h := hdep ⟨25, .data⟩ (by simp) rfl; exact h) (by have h := hdep ⟨29, .data⟩ (by simp) rfl; exact h) (F53.out) (symV hbel hsz rfl rfl (show 53 < 99 by decide) (Below.refl _ _) rfl)
    · intro A W hsz hoth hbel hdep
      exact kPick _ _ _ false (.bool false) rfl rfl (by have h := hdep ⟨18, .data⟩ (by simp) rfl; exact h) (by have h := hdep ⟨30, .data⟩ (by simp) rfl; exact h) (symV hbel hsz rfl rfl (show 54 < 99 by decide) (Below.refl _ _) rfl)
    · intro A W hsz hoth hbel hdep
      exact kMoveV _ (.bool false) rfl rfl (by have h := hdep ⟨31, .data⟩ (by simp) rfl; exact h) (symV hbel hsz rfl rfl (show 55 < 99 by decide) (Below.refl _ _) rfl)
    · intro A W hsz hoth hbel hdep
      exact kMoveV _ (.pointer (some ⟨w3.heap.size, 0, none⟩)) rfl (wanted_of rfl rfl (by have h := hdep ⟨32, .guard⟩ (by simp) rfl; exact h)) ((hoth 7 (free2_of (by kernel_rfl))).trans rfl) (symV hbel hsz rfl rfl (show 56 < 99 by decide) (Below.refl _ _) rfl)
    · intro A W hsz hoth hbel hdep
      exact kLoadRow _ _ _ _ _ _ rfl (wanted_of rfl rfl (by have h := hdep ⟨32, .guard⟩ (by simp) rfl; exact h)) ((hoth 8 (free2_of (by kernel_rfl))).trans rfl) ((hM5.get 2 rfl).on hbel) Tryd.underlying25 rfl (info_WideC _) (symV hbel hsz rfl rfl (show 57 < 99 by decide) (Below.refl _ _) rfl)
    · intro A W hsz hoth hbel hdep
      exact kMoveV _ (.pointer (some ⟨w3.heap.size, 0, none⟩)) rfl (wanted_of rfl rfl (by have h := hdep ⟨32, .guard⟩ (by simp) rfl; exact h)) ((hoth 7 (free2_of (by kernel_rfl))).trans rfl) (symV hbel hsz rfl rfl (show 58 < 99 by decide) (Below.refl _ _) rfl)
    · intro A W hsz hoth hbel hdep
      exact kLoadRow _ _ _ _ _ _ rfl (wanted_of rfl rfl (by have h := hdep ⟨32, .guard⟩ (by simp) rfl; exact h)) ((hoth 9 (free2_of (by kernel_rfl))).trans rfl) ((hM5.get 1 rfl).on hbel) Tryd.underlying25 rfl (info_WideC _) (symV hbel hsz rfl rfl (show 59 < 99 by decide) (Below.refl _ _) rfl)
    · intro A W hsz hoth hbel hdep
      exact kLoadRow _ _ _ _ _ _ rfl (wanted_of rfl rfl (by have h := hdep ⟨32, .guard⟩ (by simp) rfl; exact h)) ((hoth 10 (free2_of (by kernel_rfl))).trans rfl) ((hM5.get 0 rfl).on hbel) Tryd.underlying25 rfl (info_WideC _) (symV hbel hsz rfl rfl (show 60 < 99 by decide) (Below.refl _ _) rfl)
    · intro A W hsz hoth hbel hdep
      refine kCall3 25 _ _ _ _ _ _ _ rfl (wanted_of rfl rfl (by have h := hdep ⟨32, .chain⟩ (by simp) rfl; exact h)) (by kernel_rfl) (by have h := hdep ⟨35, .data⟩ (by simp) rfl; exact h) (by have h := hdep ⟨36, .data⟩ (by simp) rfl; exact h) (by have h := hdep ⟨37, .data⟩ (by simp) rfl; exact h) ?_
      refine (fMul_as hm (w3.heap.size) my mz Hv61.out W ((hM5.get 3 rfl).on hbel)).mono ?_
      rintro e r ⟨rfl, hBc⟩
      exact ⟨_, rfl, (symV hbel hsz rfl rfl (show 61 < 99 by decide) hBc rfl)⟩
    · intro A W hsz hoth hbel hdep
      refine kCall3 25 _ _ _ _ _ _ _ rfl (wanted_of rfl rfl (by have h := hdep ⟨32, .guard⟩ (by simp) rfl; exact h)) (by kernel_rfl) (by have h := hdep ⟨33, .data⟩ (by simp) rfl; exact h) (by have h := hdep ⟨34, .data⟩ (by simp) rfl; exact h) (by have h := hdep ⟨38, .data⟩ (by simp) rfl; exact h) ?_
      refine (fMul_as hm (w3.heap.size) mx mv61 Hv62.out W ((hM5.get 3 rfl).on hbel)).mono ?_
      rintro e r ⟨rfl, hBc⟩
      exact ⟨_, rfl, (symV hbel hsz rfl rfl (show 62 < 99 by decide) hBc rfl)⟩
    · intro A W hsz hoth hbel hdep
      exact kMoveV _ (.pointer (some ⟨w3.heap.size, 0, none⟩)) rfl (wanted_of rfl rfl (by have h := hdep ⟨32, .guard⟩ (by simp) rfl; exact h)) ((hoth 7 (free2_of (by kernel_rfl))).trans rfl) (symV hbel hsz rfl rfl (show 63 < 99 by decide) (Below.refl _ _) rfl)
    · intro A W hsz hoth hbel hdep
      exact kMoveV _ (.pointer (some ⟨w3.heap.size, 0, none⟩)) rfl (wanted_of rfl rfl (by have h := hdep ⟨32, .guard⟩ (by simp) rfl; exact h)) ((hoth 7 (free2_of (by kernel_rfl))).trans rfl) (symV hbel hsz rfl rfl (show 64 < 99 by decide) (Below.refl _ _) rfl)
    · intro A W hsz hoth hbel hdep
      exact kLoadRow _ _ _ _ _ _ rfl (wanted_of rfl rfl (by have h := hdep ⟨32, .guard⟩ (by simp) rfl; exact h)) ((hoth 8 (free2_of (by kernel_rfl))).trans rfl) ((hM5.get 2 rfl).on hbel) Tryd.underlying25 rfl (info_WideC _) (symV hbel hsz rfl rfl (show 65 < 99 by decide) (Below.refl _ _) rfl)
    · intro A W hsz hoth hbel hdep
      exact kLoadRow _ _ _ _ _ _ rfl (wanted_of rfl rfl (by have h := hdep ⟨32, .guard⟩ (by simp) rfl; exact h)) ((hoth 9 (free2_of (by kernel_rfl))).trans rfl) ((hM5.get 1 rfl).on hbel) Tryd.underlying25 rfl (info_WideC _) (symV hbel hsz rfl rfl (show 66 < 99 by decide) (Below.refl _ _) rfl)
    · intro A W hsz hoth hbel hdep
      refine kCall3 25 _ _ _ _ _ _ _ rfl (wanted_of rfl rfl (by have h := hdep ⟨32, .guard⟩ (by simp) rfl; exact h)) (by kernel_rfl) (by have h := hdep ⟨41, .data⟩ (by simp) rfl; exact h) (by have h := hdep ⟨42, .data⟩ (by simp) rfl; exact h) (by have h := hdep ⟨43, .data⟩ (by simp) rfl; exact h) ?_
      refine (fMul_as hm (w3.heap.size) mx my Hv67.out W ((hM5.get 3 rfl).on hbel)).mono ?_
      rintro e r ⟨rfl, hBc⟩
      exact ⟨_, rfl, (symV hbel hsz rfl rfl (show 67 < 99 by decide) hBc rfl)⟩
    · intro A W hsz hoth hbel hdep
      exact kLoadRow _ _ _ _ _ _ rfl (wanted_of rfl rfl (by have h := hdep ⟨32, .guard⟩ (by simp) rfl; exact h)) ((hoth 10 (free2_of (by kernel_rfl))).trans rfl) ((hM5.get 0 rfl).on hbel) Tryd.underlying25 rfl (info_WideC _) (symV hbel hsz rfl rfl (show 68 < 99 by decide) (Below.refl _ _) rfl)
    · intro A W hsz hoth hbel hdep
      refine kCall3 25 _ _ _ _ _ _ _ rfl (wanted_of rfl rfl (by have h := hdep ⟨32, .guard⟩ (by simp) rfl; exact h)) (by kernel_rfl) (by have h := hdep ⟨40, .data⟩ (by simp) rfl; exact h) (by have h := hdep ⟨44, .data⟩ (by simp) rfl; exact h) (by have h := hdep ⟨45, .data⟩ (by simp) rfl; exact h) ?_
      refine (fMul_as hm (w3.heap.size) mv67 mz Hv69.out W ((hM5.get 3 rfl).on hbel)).mono ?_
      rintro e r ⟨rfl, hBc⟩
      exact ⟨_, rfl, (symV hbel hsz rfl rfl (show 69 < 99 by decide) hBc rfl)⟩
    · intro A W hsz hoth hbel hdep
      exact kNeqW _ _ _ (v62) (v69) false rfl (wanted_of rfl rfl (by have h := hdep ⟨32, .guard⟩ (by simp) rfl; exact h)) (by have h := hdep ⟨39, .data⟩ (by simp) rfl; exact h) (by have h := hdep ⟨46, .data⟩ (by simp) rfl; exact h) (F70.out) (symV hbel hsz rfl rfl (show 70 < 99 by decide) (Below.refl _ _) rfl)
    · intro A W hsz hoth hbel hdep
      exact kPick _ _ _ false (.bool false) rfl rfl (by have h := hdep ⟨32, .data⟩ (by simp) rfl; exact h) (by have h := hdep ⟨47, .data⟩ (by simp) rfl; exact h) (symV hbel hsz rfl rfl (show 71 < 99 by decide) (Below.refl _ _) rfl)
    intro w6 hB6
    dsimp only [AllV]
    dsimp only [putAll]
    go_frame
    have hM6 := hM5.on hB6
    clear hB6 hM5
    go_wp2_with (first
      | ((with_reducible change wpList _ _ _ (Oper.mk (some 74) _ _ _ _ _ :: _) _ _); refine kLoadRow _ _ _ _ _ _ rfl rfl rfl (hM6.get 0 rfl) Tryd.underlying25 rfl (info_WideC _) ?_; go_frame)
      | (go_at_call 12; (with_reducible change Calls _ _ #[Value.pointer (some ⟨w3.heap.size, 0, none⟩), Value.agg (wcells z)] _ _); refine (fInv_as hm (w3.heap.size) mz hz.out Hv75.out _ (hM6.get 3 rfl)).mono ?_; rintro e w7 ⟨rfl, hB7⟩; have hM7 := hM6.on hB7; clear hB7 hM6; (try unfold WV); go_frame)
      | ((with_reducible change wpList _ _ _ (Oper.mk (some 11) _ _ _ _ _ :: _) _ _); refine mmAlloc hM7 _ _ rfl rfl zero_Wide ?_; intro w8 hM8; clear hM7; go_frame)
      | ((with_reducible change wpList _ _ _ (Oper.mk none (Op.store _ (Operand.tmp 11) (Operand.tmp 76)) _ _ _ _ :: _) _ _); refine mmStoreAt hM8 0 _ _ _ _ _ _ (wcells v75) rfl rfl rfl rfl rfl (info_WideC _) (by simp only [wcells_size]) (wcells_one _) ?_; intro w9 hM9; dsimp only [List.set] at hM9; clear hM8; go_frame))
    refine region_sym (fun _ => 0) [.val (.int .i64 (0)), .val (.bool false), .val (.bool false), .val (.pointer (some ⟨w3.heap.size, 0, none⟩)), .val (.pointer (some ⟨w3.heap.size, 0, none⟩)), .val (.agg (wcells x)), .val (.agg (wcells z)), .val (.agg (wcells v85)), .val (.agg (wcells v75)), .val (.agg (wcells v87)), .val (.pointer (some ⟨w3.heap.size, 0, none⟩)), .val (.agg (wcells x)), .val (.agg (wcells 0)), .val (.agg (wcells v91)), .val (.bool true), .val (.bool true), .val (.pointer (some ⟨w3.heap.size, 0, none⟩)), .val (.agg (wcells v75)), .val (.bool true), .val (.bool true), .val (.bool true), .val (.bool true)] [.val (.int .i64 (0)), .val (.bool false), .val (.bool false), .val (.pointer (some ⟨w3.heap.size, 0, none⟩)), .val (.pointer (some ⟨w3.heap.size, 0, none⟩)), .val (.agg (wcells x)), .val (.agg (wcells z)), .val (.agg (wcells v85)), .val (.agg (wcells v75)), .val (.agg (wcells v87)), .val (.pointer (some ⟨w3.heap.size, 0, none⟩)), .val (.agg (wcells x)), .val (.agg (wcells 0)), .val (.agg (wcells v91)), .val (.bool true), .val (.bool true), .val (.pointer (some ⟨w3.heap.size, 0, none⟩)), .val (.agg (wcells v75)), .val (.bool true), .val (.bool true), .val (.bool true), .val (.bool true)] (by kernel_rfl) (by kernel_rfl) rfl rfl (steps_all ⟨?_, ?_, ?_, ?_, ?_, ?_, ?_, ?_, ?_, ?_, ?_, ?_, ?_, ?_, ?_, ?_, ?_, ?_, ?_, ?_, ?_, ?_, trivial⟩) ?_
    · intro A W hsz hoth hbel hdep
      exact kMoveV _ (.int .i64 (0)) rfl rfl ((hoth 12 (free2_of (by kernel_rfl))).trans rfl) (symV hbel hsz rfl rfl (show 78 < 99 by decide) (Below.refl _ _) rfl)
    · intro A W hsz hoth hbel hdep
      exact kNeqI _ _ _ _ .i64 (0) (0) false rfl rfl (by have h := hdep ⟨0, .data⟩ (by simp) rfl; exact h) rfl (by decide) (symV hbel hsz rfl rfl (show 79 < 99 by decide) (Below.refl _ _) rfl)
    · intro A W hsz hoth hbel hdep
      exact kMoveV _ (.bool false) rfl rfl (by have h := hdep ⟨1, .data⟩ (by simp) rfl; exact h) (symV hbel hsz rfl rfl (show 80 < 99 by decide) (Below.refl _ _) rfl)
    · intro A W hsz hoth hbel hdep
      exact kMoveV _ (.pointer (some ⟨w3.heap.size, 0, none⟩)) rfl (wanted_of rfl rfl (by have h := hdep ⟨2, .guard⟩ (by simp) rfl; exact h)) ((hoth 7 (free2_of (by kernel_rfl))).trans rfl) (symV hbel hsz rfl rfl (show 81 < 99 by decide) (Below.refl _ _) rfl)
    · intro A W hsz hoth hbel hdep
      exact kMoveV _ (.pointer (some ⟨w3.heap.size, 0, none⟩)) rfl (wanted_of rfl rfl (by have h := hdep ⟨2, .guard⟩ (by simp) rfl; exact h)) ((hoth 7 (free2_of (by kernel_rfl))).trans rfl) (symV hbel hsz rfl rfl (show 82 < 99 by decide) (Below.refl _ _) rfl)
    · intro A W hsz hoth hbel hdep
      exact kLoadRow _ _ _ _ _ _ rfl (wanted_of rfl rfl (by have h := hdep ⟨2, .guard⟩ (by simp) rfl; exact h)) ((hoth 8 (free2_of (by kernel_rfl))).trans rfl) ((hM9.get 3 rfl).on hbel) Tryd.underlying25 rfl (info_WideC _) (symV hbel hsz rfl rfl (show 83 < 99 by decide) (Below.refl _ _) rfl)
    · intro A W hsz hoth hbel hdep
      exact kLoadRow _ _ _ _ _ _ rfl (wanted_of rfl rfl (by have h := hdep ⟨2, .guard⟩ (by simp) rfl; exact h)) ((hoth 10 (free2_of (by kernel_rfl))).trans rfl) ((hM9.get 1 rfl).on hbel) Tryd.underlying25 rfl (info_WideC _) (symV hbel hsz rfl rfl (show 84 < 99 by decide) (Below.refl _ _) rfl)
    · intro A W hsz hoth hbel hdep
      refine kCall3 25 _ _ _ _ _ _ _ rfl (wanted_of rfl rfl (by have h := hdep ⟨2, .chain⟩ (by simp) rfl; exact h)) (by kernel_rfl) (by have h := hdep ⟨4, .data⟩ (by simp) rfl; exact h) (by have h := hdep ⟨5, .data⟩ (by simp) rfl; exact h) (by have h := hdep ⟨6, .data⟩ (by simp) rfl; exact h) ?_
      refine (fMul_as hm (w3.heap.size) mx mz Hv85.out W ((hM9.get 4 rfl).on hbel)).mono ?_
      rintro e r ⟨rfl, hBc⟩
      exact ⟨_, rfl, (symV hbel hsz rfl rfl (show 85 < 99 by decide) hBc rfl)⟩
    · intro A W hsz hoth hbel hdep
      exact kLoadRow _ _ _ _ _ _ rfl (wanted_of rfl rfl (by have h := hdep ⟨2, .guard⟩ (by simp) rfl; exact h)) ((hoth 11 (free2_of (by kernel_rfl))).trans rfl) ((hM9.get 0 rfl).on hbel) Tryd.underlying25 rfl (info_WideC _) (symV hbel hsz rfl rfl (show 86 < 99 by decide) (Below.refl _ _) rfl)
    · intro A W hsz hoth hbel hdep
      refine kCall3 25 _ _ _ _ _ _ _ rfl (wanted_of rfl rfl (by have h := hdep ⟨2, .guard⟩ (by simp) rfl; exact h)) (by kernel_rfl) (by have h := hdep ⟨3, .data⟩ (by simp) rfl; exact h) (by have h := hdep ⟨7, .data⟩ (by simp) rfl; exact h) (by have h := hdep ⟨8, .data⟩ (by simp) rfl; exact h) ?_
      refine (fMul_as hm (w3.heap.size) mv85 mv75 Hv87.out W ((hM9.get 4 rfl).on hbel)).mono ?_
      rintro e r ⟨rfl, hBc⟩
      exact ⟨_, rfl, (symV hbel hsz rfl rfl (show 87 < 99 by decide) hBc rfl)⟩
    · intro A W hsz hoth hbel hdep
      exact kMoveV _ (.pointer (some ⟨w3.heap.size, 0, none⟩)) rfl (wanted_of rfl rfl (by have h := hdep ⟨2, .guard⟩ (by simp) rfl; exact h)) ((hoth 7 (free2_of (by kernel_rfl))).trans rfl) (symV hbel hsz rfl rfl (show 88 < 99 by decide) (Below.refl _ _) rfl)
    · intro A W hsz hoth hbel hdep
      exact kLoadRow _ _ _ _ _ _ rfl (wanted_of rfl rfl (by have h := hdep ⟨2, .guard⟩ (by simp) rfl; exact h)) ((hoth 8 (free2_of (by kernel_rfl))).trans rfl) ((hM9.get 3 rfl).on hbel) Tryd.underlying25 rfl (info_WideC _) (symV hbel hsz rfl rfl (show 89 < 99 by decide) (Below.refl _ _) rfl)
    · intro A W hsz hoth hbel hdep
      exact kBuildW0 rfl (wanted_of rfl rfl (by have h := hdep ⟨2, .guard⟩ (by simp) rfl; exact h)) (symV hbel hsz rfl rfl (show 90 < 99 by decide) (Below.refl _ _) rfl)
    · intro A W hsz hoth hbel hdep
      refine kCall3 30 _ _ _ _ _ _ _ rfl (wanted_of rfl rfl (by have h := hdep ⟨2, .guard⟩ (by simp) rfl; exact h)) (by kernel_rfl) (by have h := hdep ⟨10, .data⟩ (by simp) rfl; exact h) (by have h := hdep ⟨11, .data⟩ (by simp) rfl; exact h) (by have h := hdep ⟨12, .data⟩ (by simp) rfl; exact h) ?_
      refine (fFold_as hm (w3.heap.size) mx M256_pos Hv91.out W ((hM9.get 4 rfl).on hbel)).mono ?_
      rintro e r ⟨rfl, hBc⟩
      exact ⟨_, rfl, (symV hbel hsz rfl rfl (show 91 < 99 by decide) hBc rfl)⟩
    · intro A W hsz hoth hbel hdep
      exact kEqlW _ _ _ (v87) (v91) true rfl (wanted_of rfl rfl (by have h := hdep ⟨2, .guard⟩ (by simp) rfl; exact h)) (by have h := hdep ⟨9, .data⟩ (by simp) rfl; exact h) (by have h := hdep ⟨13, .data⟩ (by simp) rfl; exact h) (F92.out) (symV hbel hsz rfl rfl (show 92 < 99 by decide) (Below.refl _ _) rfl)
    · intro A W hsz hoth hbel hdep
      exact kMoveV _ (.bool true) rfl (wanted_of rfl rfl (by have h := hdep ⟨2, .guard⟩ (by simp) rfl; exact h)) (by have h := hdep ⟨14, .data⟩ (by simp) rfl; exact h) (symV hbel hsz rfl rfl (show 93 < 99 by decide) (Below.refl _ _) rfl)
    · intro A W hsz hoth hbel hdep
      exact kMoveV _ (.pointer (some ⟨w3.heap.size, 0, none⟩)) rfl (wanted_of rfl rfl (by have h := hdep ⟨15, .guard⟩ (by simp) rfl; exact h)) ((hoth 7 (free2_of (by kernel_rfl))).trans rfl) (symV hbel hsz rfl rfl (show 94 < 99 by decide) (Below.refl _ _) rfl)
    · intro A W hsz hoth hbel hdep
      exact kLoadRow _ _ _ _ _ _ rfl (wanted_of rfl rfl (by have h := hdep ⟨15, .guard⟩ (by simp) rfl; exact h)) ((hoth 11 (free2_of (by kernel_rfl))).trans rfl) ((hM9.get 0 rfl).on hbel) Tryd.underlying25 rfl (info_WideC _) (symV hbel hsz rfl rfl (show 95 < 99 by decide) (Below.refl _ _) rfl)
    · intro A W hsz hoth hbel hdep
      refine kCall2 27 _ _ _ _ _ rfl (wanted_of rfl rfl (by have h := hdep ⟨15, .chain⟩ (by simp) rfl; exact h)) (by kernel_rfl) (by have h := hdep ⟨16, .data⟩ (by simp) rfl; exact h) (by have h := hdep ⟨17, .data⟩ (by simp) rfl; exact h) ?_
      refine (fIn_as hm (w3.heap.size) mv75 F96.out W ((hM9.get 4 rfl).on hbel)).mono ?_
      rintro e r ⟨rfl, hBc⟩
      exact ⟨_, rfl, (symV hbel hsz rfl rfl (show 96 < 99 by decide) hBc rfl)⟩
    · intro A W hsz hoth hbel hdep
      exact kPick _ _ _ true (.bool true) rfl (wanted_of rfl rfl (by have h := hdep ⟨2, .guard⟩ (by simp) rfl; exact h)) (by have h := hdep ⟨15, .data⟩ (by simp) rfl; exact h) (by have h := hdep ⟨18, .data⟩ (by simp) rfl; exact h) (symV hbel hsz rfl rfl (show 97 < 99 by decide) (Below.refl _ _) rfl)
    · intro A W hsz hoth hbel hdep
      exact kPick _ _ _ false (.bool true) rfl rfl (by have h := hdep ⟨2, .data⟩ (by simp) rfl; exact h) (by have h := hdep ⟨19, .data⟩ (by simp) rfl; exact h) (symV hbel hsz rfl rfl (show 98 < 99 by decide) (Below.refl _ _) rfl)
    · intro A W hsz hoth hbel hdep
      exact kAssignV _ (.bool true) rfl rfl (by have h := hdep ⟨20, .data⟩ (by simp) rfl; exact h) (symV hbel hsz rfl rfl (show 6 < 99 by decide) (Below.refl _ _) rfl)
    intro w10 hB10
    dsimp only [AllV]
    dsimp only [putAll]
    go_frame
    have hM10 := hM9.on hB10
    clear hB10 hM9
    go_wp2_with fail
    go_ret
    exact ⟨rfl, hM10.below⟩
set_option maxRecDepth 100000 in
set_option maxHeartbeats 8000000 in
theorem FieldRings_false (x : Nat) (mx : x < M256) (y : Nat) (my : y < M256) (z : Nat) (mz : z < M256) (u : Nat) (_mu : u < M256) (w : World) (hG : Glob 0 PP w) (hN : Glob 1 NN w) :
    Calls Tryd.prog 8 #[.bool false, .agg (wcells2 x y), .agg (wcells2 z u)] w fun e w' => e = .returned (.bool true) ∧ Below w.heap.size w w' := by
  obtain ⟨m, Hm⟩ : ∃ m, Hid (m = NN) := ⟨_, Lib.hid rfl⟩
  have hm : Modu m := by rw [Hm.out]; exact modu_N
  have hp : IsPrime m := by rw [Hm.out]; exact NN_prime
  have hR : Glob 1 m w := by rw [Hm.out]; exact hN
  by_cases hz : z % m = 0
  · replace hz := Lib.hid hz
    obtain ⟨v27, Hv27⟩ : ∃ n, Hid ((x + y) % m = n) := ⟨_, Lib.hid rfl⟩
    have mv27 : v27 < M256 := by rw [← Hv27.out]; exact hm.mod _
    obtain ⟨v29, Hv29⟩ : ∃ n, Hid (v27 * z % m = n) := ⟨_, Lib.hid rfl⟩
    have mv29 : v29 < M256 := by rw [← Hv29.out]; exact hm.mod _
    obtain ⟨v34, Hv34⟩ : ∃ n, Hid (x * z % m = n) := ⟨_, Lib.hid rfl⟩
    have mv34 : v34 < M256 := by rw [← Hv34.out]; exact hm.mod _
    obtain ⟨v38, Hv38⟩ : ∃ n, Hid (y * z % m = n) := ⟨_, Lib.hid rfl⟩
    have mv38 : v38 < M256 := by rw [← Hv38.out]; exact hm.mod _
    obtain ⟨v39, Hv39⟩ : ∃ n, Hid ((v34 + v38) % m = n) := ⟨_, Lib.hid rfl⟩
    have mv39 : v39 < M256 := by rw [← Hv39.out]; exact hm.mod _
    obtain ⟨v46, Hv46⟩ : ∃ n, Hid ((x + y) % m = n) := ⟨_, Lib.hid rfl⟩
    have mv46 : v46 < M256 := by rw [← Hv46.out]; exact hm.mod _
    obtain ⟨v48, Hv48⟩ : ∃ n, Hid ((v46 % m + m - y % m) % m = n) := ⟨_, Lib.hid rfl⟩
    have mv48 : v48 < M256 := by rw [← Hv48.out]; exact hm.mod _
    obtain ⟨v52, Hv52⟩ : ∃ n, Hid ((x + 0 * M256) % m = n) := ⟨_, Lib.hid rfl⟩
    have mv52 : v52 < M256 := by rw [← Hv52.out]; exact hm.mod _
    obtain ⟨v61, Hv61⟩ : ∃ n, Hid (y * z % m = n) := ⟨_, Lib.hid rfl⟩
    have mv61 : v61 < M256 := by rw [← Hv61.out]; exact hm.mod _
    obtain ⟨v62, Hv62⟩ : ∃ n, Hid (x * v61 % m = n) := ⟨_, Lib.hid rfl⟩
    have mv62 : v62 < M256 := by rw [← Hv62.out]; exact hm.mod _
    obtain ⟨v67, Hv67⟩ : ∃ n, Hid (x * y % m = n) := ⟨_, Lib.hid rfl⟩
    have mv67 : v67 < M256 := by rw [← Hv67.out]; exact hm.mod _
    obtain ⟨v69, Hv69⟩ : ∃ n, Hid (v67 * z % m = n) := ⟨_, Lib.hid rfl⟩
    have mv69 : v69 < M256 := by rw [← Hv69.out]; exact hm.mod _
    have F40 := Lib.hid (neqW_no (show v29 = v39 by rw [← Hv29.out, ← Hv27.out, ← Hv39.out, ← Hv34.out, ← Hv38.out]; exact ring_dist))
    have F53 := Lib.hid (neqW_no (show v48 = v52 by rw [← Hv48.out, ← Hv46.out, ← Hv52.out, fold_zero]; exact sub_back hm.pos))
    have F70 := Lib.hid (neqW_no (show v62 = v69 by rw [← Hv62.out, ← Hv61.out, ← Hv69.out, ← Hv67.out]; exact ring_assoc))
    have hM0 := mm_nil w
    (try unfold WV)
    go_enter Tryd.func8, Tryd.ntmps8
    go_wp2_with (first
      | ((with_reducible change wpList _ _ _ (Oper.mk (some 4) _ _ _ _ _ :: _) _ _); refine mmBox hM0 _ _ _ rfl rfl rfl ?_; intro w1 hM1; clear hM0; go_frame)
      | ((with_reducible change wpList _ _ _ (Oper.mk (some 5) _ _ _ _ _ :: _) _ _); refine mmBox hM1 _ _ _ rfl rfl rfl ?_; intro w2 hM2; clear hM1; go_frame)
      | (go_at_call 10; refine (fieldAlive_any _ (hG.below hM2.below)).mono ?_; rintro e w3 ⟨rfl, hB3⟩; have hM3 := hM2.on hB3; clear hB3 hM2; (try unfold WV); go_frame)
      | (go_at_call 19; (with_reducible change Calls _ _ #[Value.bool false] _ _); refine (ring_false m _ (hR.below hM3.below)).mono ?_; rintro e w4 ⟨rfl, hR4, hB4⟩; have hM4 := hM3.new hR4 hB4; clear hB4 hR4 hM3; go_frame))
    refine region_symN [6, 7, 8] [8, 9, 10] (by kernel_rfl) (fun i => [0, 0, 0, 0, 0, 0, 0, 0, 0, 6, 7, 8].getD i 0) [.val (.pointer (some ⟨w.heap.size, 0, none⟩)), .val (.agg (wcells x)), .val (.pointer (some ⟨w.heap.size, 4, none⟩)), .val (.agg (wcells y)), .val (.pointer (some ⟨w1.heap.size, 0, none⟩)), .val (.agg (wcells z)), .fresh w4.heap.size 25 4, .fresh w4.heap.size 25 4, .fresh w4.heap.size 25 4, .hold w4.heap.size 25 (wcells x), .hold w4.heap.size 25 (wcells y), .hold w4.heap.size 25 (wcells z)] [.val (.pointer (some ⟨w.heap.size, 0, none⟩)), .val (.agg (wcells x)), .val (.pointer (some ⟨w.heap.size, 4, none⟩)), .val (.agg (wcells y)), .val (.pointer (some ⟨w1.heap.size, 0, none⟩)), .val (.agg (wcells z)), .hold w4.heap.size 25 (wcells x), .hold w4.heap.size 25 (wcells y), .hold w4.heap.size 25 (wcells z), .val undef, .val undef, .val undef] (by kernel_rfl) (by kernel_rfl) rfl rfl (by intro s hs; simp only [List.mem_cons, List.not_mem_nil, or_false] at hs; rcases hs with rfl | rfl | rfl <;> rfl) (steps_all ⟨?_, ?_, ?_, ?_, ?_, ?_, ?_, ?_, ?_, ?_, ?_, ?_, trivial⟩) ?_
    · intro A W hsz hoth hbel hX hdep
      exact kIndexAddr2 _ _ _ _ 0 rfl rfl ((hoth 4 (free2_of (by kernel_rfl))).trans rfl) rfl rfl (by decide) (symVN hbel hX hsz rfl rfl (show 17 < 99 by decide) rfl (Below.refl _ _) rfl)
    · intro A W hsz hoth hbel hX hdep
      exact kLoadAs _ _ _ _ _ 4 _ _ _ rfl rfl (by have h := hdep ⟨0, .data⟩ (by simp) rfl; exact h) ((hM4.get 2 rfl).on hbel) Tryd.underlying25 rfl info_Wide (by rw [wcells2_size]; decide) (wcells2_at0 _ _) (symVN hbel hX hsz rfl rfl (show 18 < 99 by decide) rfl (Below.refl _ _) rfl)
    · intro A W hsz hoth hbel hX hdep
      exact kIndexAddr2 _ _ _ _ 1 rfl rfl ((hoth 4 (free2_of (by kernel_rfl))).trans rfl) rfl rfl (by decide) (symVN hbel hX hsz rfl rfl (show 19 < 99 by decide) rfl (Below.refl _ _) rfl)
    · intro A W hsz hoth hbel hX hdep
      exact kLoadAs _ _ _ _ _ 4 _ _ _ rfl rfl (by have h := hdep ⟨2, .data⟩ (by simp) rfl; exact h) ((hM4.get 2 rfl).on hbel) Tryd.underlying25 rfl info_Wide (by rw [wcells2_size]; decide) (wcells2_at4 _ _) (symVN hbel hX hsz rfl rfl (show 20 < 99 by decide) rfl (Below.refl _ _) rfl)
    · intro A W hsz hoth hbel hX hdep
      exact kIndexAddr2 _ _ _ _ 0 rfl rfl ((hoth 5 (free2_of (by kernel_rfl))).trans rfl) rfl rfl (by decide) (symVN hbel hX hsz rfl rfl (show 21 < 99 by decide) rfl (Below.refl _ _) rfl)
    · intro A W hsz hoth hbel hX hdep
      exact kLoadAs _ _ _ _ _ 4 _ _ _ rfl rfl (by have h := hdep ⟨4, .data⟩ (by simp) rfl; exact h) ((hM4.get 1 rfl).on hbel) Tryd.underlying25 rfl info_Wide (by rw [wcells2_size]; decide) (wcells2_at0 _ _) (symVN hbel hX hsz rfl rfl (show 22 < 99 by decide) rfl (Below.refl _ _) rfl)
    · intro A W hsz hoth hbel hX hdep
      refine kAllocL _ _ rfl rfl zero_Wide ?_
      intro r hR hl hBc
      exact (symAN hbel hX hsz rfl rfl (show 8 < 99 by decide) hl hBc ⟨_, _, rfl, hbel.size, wcells_size _, hR⟩)
    · intro A W hsz hoth hbel hX hdep
      refine kAllocL _ _ rfl rfl zero_Wide ?_
      intro r hR hl hBc
      exact (symAN hbel hX hsz rfl rfl (show 9 < 99 by decide) hl hBc ⟨_, _, rfl, hbel.size, wcells_size _, hR⟩)
    · intro A W hsz hoth hbel hX hdep
      refine kAllocL _ _ rfl rfl zero_Wide ?_
      intro r hR hl hBc
      exact (symAN hbel hX hsz rfl rfl (show 10 < 99 by decide) hl hBc ⟨_, _, rfl, hbel.size, wcells_size _, hR⟩)
    · intro A W hsz hoth hbel hX hdep
      obtain ⟨g, cs, d8, hg, hcs, hR⟩ : ∃ g cs, A.tmps.getD 8 undef = .pointer (some ⟨g, 0, none⟩) ∧ w4.heap.size ≤ g ∧ cs.size = 4 ∧ Row W g 25 cs := (by have h := hdep ⟨6, .data⟩ (by simp) rfl; exact h)
      refine kStoreRow _ _ _ _ _ _ (wcells x) rfl rfl d8 (by have h := hdep ⟨1, .data⟩ (by simp) rfl; exact h) hR (info_WideC _) (by rw [wcells_size, hcs]) (wcells_one _) ?_
      intro r hR2 hW
      exact symWN (s := 8) hbel hX rfl rfl rfl d8 hR hW hg hR2 (by simp [OnlyAt, srcOf, dstOf, wcells_size]) ⟨g, d8, hg, hR2⟩
    · intro A W hsz hoth hbel hX hdep
      obtain ⟨g, cs, d8, hg, hcs, hR⟩ : ∃ g cs, A.tmps.getD 9 undef = .pointer (some ⟨g, 0, none⟩) ∧ w4.heap.size ≤ g ∧ cs.size = 4 ∧ Row W g 25 cs := (by have h := hdep ⟨7, .data⟩ (by simp) rfl; exact h)
      refine kStoreRow _ _ _ _ _ _ (wcells y) rfl rfl d8 (by have h := hdep ⟨3, .data⟩ (by simp) rfl; exact h) hR (info_WideC _) (by rw [wcells_size, hcs]) (wcells_one _) ?_
      intro r hR2 hW
      exact symWN (s := 9) hbel hX rfl rfl rfl d8 hR hW hg hR2 (by simp [OnlyAt, srcOf, dstOf, wcells_size]) ⟨g, d8, hg, hR2⟩
    · intro A W hsz hoth hbel hX hdep
      obtain ⟨g, cs, d8, hg, hcs, hR⟩ : ∃ g cs, A.tmps.getD 10 undef = .pointer (some ⟨g, 0, none⟩) ∧ w4.heap.size ≤ g ∧ cs.size = 4 ∧ Row W g 25 cs := (by have h := hdep ⟨8, .data⟩ (by simp) rfl; exact h)
      refine kStoreRow _ _ _ _ _ _ (wcells z) rfl rfl d8 (by have h := hdep ⟨5, .data⟩ (by simp) rfl; exact h) hR (info_WideC _) (by rw [wcells_size, hcs]) (wcells_one _) ?_
      intro r hR2 hW
      exact symWN (s := 10) hbel hX rfl rfl rfl d8 hR hW hg hR2 (by simp [OnlyAt, srcOf, dstOf, wcells_size]) ⟨g, d8, hg, hR2⟩
    intro w5 hB5
    dsimp only [AllV]
    intro g5_8 hg5_8 hR5_8
    intro g5_9 hg5_9 hR5_9
    intro g5_10 hg5_10 hR5_10
    intro hap
    dsimp only [putAll]
    go_frame
    have hM5 := hM4.on hB5
    replace hM5 := hM5.cons hR5_8 (Nat.le_trans hM4.size hg5_8) (fun p hp => by have := hM4.lt hp; omega)
    have hne5_9_5_8 : g5_9 ≠ g5_8 := fun e => hap 7 (by simp) 6 (by simp) (by decide) g5_9 rfl (by rw [e]; rfl)
    replace hM5 := hM5.cons hR5_9 (Nat.le_trans hM4.size hg5_9) (List.forall_mem_cons.2 ⟨hne5_9_5_8, fun p hp => by have := hM4.lt hp; omega⟩)
    have hne5_10_5_8 : g5_10 ≠ g5_8 := fun e => hap 8 (by simp) 6 (by simp) (by decide) g5_10 rfl (by rw [e]; rfl)
    have hne5_10_5_9 : g5_10 ≠ g5_9 := fun e => hap 8 (by simp) 7 (by simp) (by decide) g5_10 rfl (by rw [e]; rfl)
    replace hM5 := hM5.cons hR5_10 (Nat.le_trans hM4.size hg5_10) (List.forall_mem_cons.2 ⟨hne5_10_5_9, List.forall_mem_cons.2 ⟨hne5_10_5_8, fun p hp => by have := hM4.lt hp; omega⟩⟩)
    clear hB5 hM4 hg5_8 hR5_8 hg5_9 hR5_9 hg5_10 hR5_10 hap
    go_wp2_with fail
    refine region_sym (fun _ => 0) [.val (.pointer (some ⟨w3.heap.size, 0, none⟩)), .val (.pointer (some ⟨w3.heap.size, 0, none⟩)), .val (.agg (wcells x)), .val (.agg (wcells y)), .val (.agg (wcells v27)), .val (.agg (wcells z)), .val (.agg (wcells v29)), .val (.pointer (some ⟨w3.heap.size, 0, none⟩)), .val (.pointer (some ⟨w3.heap.size, 0, none⟩)), .val (.agg (wcells x)), .val (.agg (wcells z)), .val (.agg (wcells v34)), .val (.pointer (some ⟨w3.heap.size, 0, none⟩)), .val (.agg (wcells y)), .val (.agg (wcells z)), .val (.agg (wcells v38)), .val (.agg (wcells v39)), .val (.bool false), .val (.bool false), .val (.pointer (some ⟨w3.heap.size, 0, none⟩)), .val (.pointer (some ⟨w3.heap.size, 0, none⟩)), .val (.agg (wcells x)), .val (.agg (wcells y)), .val (.agg (wcells v46)), .val (.agg (wcells y)), .val (.agg (wcells v48)), .val (.pointer (some ⟨w3.heap.size, 0, none⟩)), .val (.agg (wcells x)), .val (.agg (wcells 0)), .val (.agg (wcells v52)), .val (.bool false), .val (.bool false), .val (.bool false), .val (.pointer (some ⟨w3.heap.size, 0, none⟩)), .val (.agg (wcells x)), .val (.pointer (some ⟨w3.heap.size, 0, none⟩)), .val (.agg (wcells y)), .val (.agg (wcells z)), .val (.agg (wcells v61)), .val (.agg (wcells v62)), .val (.pointer (some ⟨w3.heap.size, 0, none⟩)), .val (.pointer (some ⟨w3.heap.size, 0, none⟩)), .val (.agg (wcells x)), .val (.agg (wcells y)), .val (.agg (wcells v67)), .val (.agg (wcells z)), .val (.agg (wcells v69)), .val (.bool false), .val (.bool false)] [.val (.pointer (some ⟨w3.heap.size, 0, none⟩)), .val (.pointer (some ⟨w3.heap.size, 0, none⟩)), .val (.agg (wcells x)), .val (.agg (wcells y)), .val (.agg (wcells v27)), .val (.agg (wcells z)), .val (.agg (wcells v29)), .val (.pointer (some ⟨w3.heap.size, 0, none⟩)), .val (.pointer (some ⟨w3.heap.size, 0, none⟩)), .val (.agg (wcells x)), .val (.agg (wcells z)), .val (.agg (wcells v34)), .val (.pointer (some ⟨w3.heap.size, 0, none⟩)), .val (.agg (wcells y)), .val (.agg (wcells z)), .val (.agg (wcells v38)), .val (.agg (wcells v39)), .val (.bool false), .val (.bool false), .val (.pointer (some ⟨w3.heap.size, 0, none⟩)), .val (.pointer (some ⟨w3.heap.size, 0, none⟩)), .val (.agg (wcells x)), .val (.agg (wcells y)), .val (.agg (wcells v46)), .val (.agg (wcells y)), .val (.agg (wcells v48)), .val (.pointer (some ⟨w3.heap.size, 0, none⟩)), .val (.agg (wcells x)), .val (.agg (wcells 0)), .val (.agg (wcells v52)), .val (.bool false), .val (.bool false), .val (.bool false), .val (.pointer (some ⟨w3.heap.size, 0, none⟩)), .val (.agg (wcells x)), .val (.pointer (some ⟨w3.heap.size, 0, none⟩)), .val (.agg (wcells y)), .val (.agg (wcells z)), .val (.agg (wcells v61)), .val (.agg (wcells v62)), .val (.pointer (some ⟨w3.heap.size, 0, none⟩)), .val (.pointer (some ⟨w3.heap.size, 0, none⟩)), .val (.agg (wcells x)), .val (.agg (wcells y)), .val (.agg (wcells v67)), .val (.agg (wcells z)), .val (.agg (wcells v69)), .val (.bool false), .val (.bool false)] (by kernel_rfl) (by kernel_rfl) rfl rfl (steps_all ⟨?_, ?_, ?_, ?_, ?_, ?_, ?_, ?_, ?_, ?_, ?_, ?_, ?_, ?_, ?_, ?_, ?_, ?_, ?_, ?_, ?_, ?_, ?_, ?_, ?_, ?_, ?_, ?_, ?_, ?_, ?_, ?_, ?_, ?_, ?_, ?_, ?_, ?_, ?_, ?_, ?_, ?_, ?_, ?_, ?_, ?_, ?_, ?_, ?_, trivial⟩) ?_
    · intro A W hsz hoth hbel hdep
      exact kMoveV _ (.pointer (some ⟨w3.heap.size, 0, none⟩)) rfl rfl ((hoth 7 (free2_of (by kernel_rfl))).trans rfl) (symV hbel hsz rfl rfl (show 23 < 99 by decide) (Below.refl _ _) rfl)
    · intro A W hsz hoth hbel hdep
      exact kMoveV _ (.pointer (some ⟨w3.heap.size, 0, none⟩)) rfl rfl ((hoth 7 (free2_of (by kernel_rfl))).trans rfl) (symV hbel hsz rfl rfl (show 24 < 99 by decide) (Below.refl _ _) rfl)
    · intro A W hsz hoth hbel hdep
      exact kLoadRow _ _ _ _ _ _ rfl rfl ((hoth 8 (free2_of (by kernel_rfl))).trans rfl) ((hM5.get 2 rfl).on hbel) Tryd.underlying25 rfl (info_WideC _) (symV hbel hsz rfl rfl (show 25 < 99 by decide) (Below.refl _ _) rfl)
    · intro A W hsz hoth hbel hdep
      exact kLoadRow _ _ _ _ _ _ rfl rfl ((hoth 9 (free2_of (by kernel_rfl))).trans rfl) ((hM5.get 1 rfl).on hbel) Tryd.underlying25 rfl (info_WideC _) (symV hbel hsz rfl rfl (show 26 < 99 by decide) (Below.refl _ _) rfl)
    · intro A W hsz hoth hbel hdep
      refine kCall3 21 _ _ _ _ _ _ _ rfl rfl (by kernel_rfl) (by have h := hdep ⟨1, .data⟩ (by simp) rfl; exact h) (by have h := hdep ⟨2, .data⟩ (by simp) rfl; exact h) (by have h := hdep ⟨3, .data⟩ (by simp) rfl; exact h) ?_
      refine (fAdd_as hm (w3.heap.size) mx my Hv27.out.symm W ((hM5.get 3 rfl).on hbel)).mono ?_
      rintro e r ⟨rfl, hBc⟩
      exact ⟨_, rfl, (symV hbel hsz rfl rfl (show 27 < 99 by decide) hBc rfl)⟩
    · intro A W hsz hoth hbel hdep
      exact kLoadRow _ _ _ _ _ _ rfl rfl ((hoth 10 (free2_of (by kernel_rfl))).trans rfl) ((hM5.get 0 rfl).on hbel) Tryd.underlying25 rfl (info_WideC _) (symV hbel hsz rfl rfl (show 28 < 99 by decide) (Below.refl _ _) rfl)
    · intro A W hsz hoth hbel hdep
      refine kCall3 25 _ _ _ _ _ _ _ rfl rfl (by kernel_rfl) (by have h := hdep ⟨0, .data⟩ (by simp) rfl; exact h) (by have h := hdep ⟨4, .data⟩ (by simp) rfl; exact h) (by have h := hdep ⟨5, .data⟩ (by simp) rfl; exact h) ?_
      refine (fMul_as hm (w3.heap.size) mv27 mz Hv29.out W ((hM5.get 3 rfl).on hbel)).mono ?_
      rintro e r ⟨rfl, hBc⟩
      exact ⟨_, rfl, (symV hbel hsz rfl rfl (show 29 < 99 by decide) hBc rfl)⟩
    · intro A W hsz hoth hbel hdep
      exact kMoveV _ (.pointer (some ⟨w3.heap.size, 0, none⟩)) rfl rfl ((hoth 7 (free2_of (by kernel_rfl))).trans rfl) (symV hbel hsz rfl rfl (show 30 < 99 by decide) (Below.refl _ _) rfl)
    · intro A W hsz hoth hbel hdep
      exact kMoveV _ (.pointer (some ⟨w3.heap.size, 0, none⟩)) rfl rfl ((hoth 7 (free2_of (by kernel_rfl))).trans rfl) (symV hbel hsz rfl rfl (show 31 < 99 by decide) (Below.refl _ _) rfl)
    · intro A W hsz hoth hbel hdep
      exact kLoadRow _ _ _ _ _ _ rfl rfl ((hoth 8 (free2_of (by kernel_rfl))).trans rfl) ((hM5.get 2 rfl).on hbel) Tryd.underlying25 rfl (info_WideC _) (symV hbel hsz rfl rfl (show 32 < 99 by decide) (Below.refl _ _) rfl)
    · intro A W hsz hoth hbel hdep
      exact kLoadRow _ _ _ _ _ _ rfl rfl ((hoth 10 (free2_of (by kernel_rfl))).trans rfl) ((hM5.get 0 rfl).on hbel) Tryd.underlying25 rfl (info_WideC _) (symV hbel hsz rfl rfl (show 33 < 99 by decide) (Below.refl _ _) rfl)
    · intro A W hsz hoth hbel hdep
      refine kCall3 25 _ _ _ _ _ _ _ rfl rfl (by kernel_rfl) (by have h := hdep ⟨8, .data⟩ (by simp) rfl; exact h) (by have h := hdep ⟨9, .data⟩ (by simp) rfl; exact h) (by have h := hdep ⟨10, .data⟩ (by simp) rfl; exact h) ?_
      refine (fMul_as hm (w3.heap.size) mx mz Hv34.out W ((hM5.get 3 rfl).on hbel)).mono ?_
      rintro e r ⟨rfl, hBc⟩
      exact ⟨_, rfl, (symV hbel hsz rfl rfl (show 34 < 99 by decide) hBc rfl)⟩
    · intro A W hsz hoth hbel hdep
      exact kMoveV _ (.pointer (some ⟨w3.heap.size, 0, none⟩)) rfl rfl ((hoth 7 (free2_of (by kernel_rfl))).trans rfl) (symV hbel hsz rfl rfl (show 35 < 99 by decide) (Below.refl _ _) rfl)
    · intro A W hsz hoth hbel hdep
      exact kLoadRow _ _ _ _ _ _ rfl rfl ((hoth 9 (free2_of (by kernel_rfl))).trans rfl) ((hM5.get 1 rfl).on hbel) Tryd.underlying25 rfl (info_WideC _) (symV hbel hsz rfl rfl (show 36 < 99 by decide) (Below.refl _ _) rfl)
    · intro A W hsz hoth hbel hdep
      exact kLoadRow _ _ _ _ _ _ rfl rfl ((hoth 10 (free2_of (by kernel_rfl))).trans rfl) ((hM5.get 0 rfl).on hbel) Tryd.underlying25 rfl (info_WideC _) (symV hbel hsz rfl rfl (show 37 < 99 by decide) (Below.refl _ _) rfl)
    · intro A W hsz hoth hbel hdep
      refine kCall3 25 _ _ _ _ _ _ _ rfl rfl (by kernel_rfl) (by have h := hdep ⟨12, .data⟩ (by simp) rfl; exact h) (by have h := hdep ⟨13, .data⟩ (by simp) rfl; exact h) (by have h := hdep ⟨14, .data⟩ (by simp) rfl; exact h) ?_
      refine (fMul_as hm (w3.heap.size) my mz Hv38.out W ((hM5.get 3 rfl).on hbel)).mono ?_
      rintro e r ⟨rfl, hBc⟩
      exact ⟨_, rfl, (symV hbel hsz rfl rfl (show 38 < 99 by decide) hBc rfl)⟩
    · intro A W hsz hoth hbel hdep
      refine kCall3 21 _ _ _ _ _ _ _ rfl rfl (by kernel_rfl) (by have h := hdep ⟨7, .data⟩ (by simp) rfl; exact h) (by have h := hdep ⟨11, .data⟩ (by simp) rfl; exact h) (by have h := hdep ⟨15, .data⟩ (by simp) rfl; exact h) ?_
      refine (fAdd_as hm (w3.heap.size) mv34 mv38 Hv39.out.symm W ((hM5.get 3 rfl).on hbel)).mono ?_
      rintro e r ⟨rfl, hBc⟩
      exact ⟨_, rfl, (symV hbel hsz rfl rfl (show 39 < 99 by decide) hBc rfl)⟩
    · intro A W hsz hoth hbel hdep
      exact kNeqW _ _ _ (v29) (v39) false rfl rfl (by have h := hdep ⟨6, .data⟩ (by simp) rfl; exact h) (by have h := hdep ⟨16, .data⟩ (by simp) rfl; exact h) (F40.out) (symV hbel hsz rfl rfl (show 40 < 99 by decide) (Below.refl _ _) rfl)
    · intro A W hsz hoth hbel hdep
      exact kMoveV _ (.bool false) rfl rfl (by have h := hdep ⟨17, .data⟩ (by simp) rfl; exact h) (symV hbel hsz rfl rfl (show 41 < 99 by decide) (Below.refl _ _) rfl)
    · intro A W hsz hoth hbel hdep
      exact kMoveV _ (.pointer (some ⟨w3.heap.size, 0, none⟩)) rfl (wanted_of rfl rfl (by have h := hdep ⟨18, .guard⟩ (by simp) rfl; exact h)) ((hoth 7 (free2_of (by kernel_rfl))).trans rfl) (symV hbel hsz rfl rfl (show 42 < 99 by decide) (Below.refl _ _) rfl)
    · intro A W hsz hoth hbel hdep
      exact kMoveV _ (.pointer (some ⟨w3.heap.size, 0, none⟩)) rfl (wanted_of rfl rfl (by have h := hdep ⟨18, .guard⟩ (by simp) rfl; exact h)) ((hoth 7 (free2_of (by kernel_rfl))).trans rfl) (symV hbel hsz rfl rfl (show 43 < 99 by decide) (Below.refl _ _) rfl)
    · intro A W hsz hoth hbel hdep
      exact kLoadRow _ _ _ _ _ _ rfl (wanted_of rfl rfl (by have h := hdep ⟨18, .guard⟩ (by simp) rfl; exact h)) ((hoth 8 (free2_of (by kernel_rfl))).trans rfl) ((hM5.get 2 rfl).on hbel) Tryd.underlying25 rfl (info_WideC _) (symV hbel hsz rfl rfl (show 44 < 99 by decide) (Below.refl _ _) rfl)
    · intro A W hsz hoth hbel hdep
      exact kLoadRow _ _ _ _ _ _ rfl (wanted_of rfl rfl (by have h := hdep ⟨18, .guard⟩ (by simp) rfl; exact h)) ((hoth 9 (free2_of (by kernel_rfl))).trans rfl) ((hM5.get 1 rfl).on hbel) Tryd.underlying25 rfl (info_WideC _) (symV hbel hsz rfl rfl (show 45 < 99 by decide) (Below.refl _ _) rfl)
    · intro A W hsz hoth hbel hdep
      refine kCall3 21 _ _ _ _ _ _ _ rfl (wanted_of rfl rfl (by have h := hdep ⟨18, .chain⟩ (by simp) rfl; exact h)) (by kernel_rfl) (by have h := hdep ⟨20, .data⟩ (by simp) rfl; exact h) (by have h := hdep ⟨21, .data⟩ (by simp) rfl; exact h) (by have h := hdep ⟨22, .data⟩ (by simp) rfl; exact h) ?_
      refine (fAdd_as hm (w3.heap.size) mx my Hv46.out.symm W ((hM5.get 3 rfl).on hbel)).mono ?_
      rintro e r ⟨rfl, hBc⟩
      exact ⟨_, rfl, (symV hbel hsz rfl rfl (show 46 < 99 by decide) hBc rfl)⟩
    · intro A W hsz hoth hbel hdep
      exact kLoadRow _ _ _ _ _ _ rfl (wanted_of rfl rfl (by have h := hdep ⟨18, .guard⟩ (by simp) rfl; exact h)) ((hoth 9 (free2_of (by kernel_rfl))).trans rfl) ((hM5.get 1 rfl).on hbel) Tryd.underlying25 rfl (info_WideC _) (symV hbel hsz rfl rfl (show 47 < 99 by decide) (Below.refl _ _) rfl)
    · intro A W hsz hoth hbel hdep
      refine kCall3 23 _ _ _ _ _ _ _ rfl (wanted_of rfl rfl (by have h := hdep ⟨18, .guard⟩ (by simp) rfl; exact h)) (by kernel_rfl) (by have h := hdep ⟨19, .data⟩ (by simp) rfl; exact h) (by have h := hdep ⟨23, .data⟩ (by simp) rfl; exact h) (by have h := hdep ⟨24, .data⟩ (by simp) rfl; exact h) ?_
      refine (fSub_as hm (w3.heap.size) mv46 my Hv48.out W ((hM5.get 3 rfl).on hbel)).mono ?_
      rintro e r ⟨rfl, hBc⟩
      exact ⟨_, rfl, (symV hbel hsz rfl rfl (show 48 < 99 by decide) hBc rfl)⟩
    · intro A W hsz hoth hbel hdep
      exact kMoveV _ (.pointer (some ⟨w3.heap.size, 0, none⟩)) rfl (wanted_of rfl rfl (by have h := hdep ⟨18, .guard⟩ (by simp) rfl; exact h)) ((hoth 7 (free2_of (by kernel_rfl))).trans rfl) (symV hbel hsz rfl rfl (show 49 < 99 by decide) (Below.refl _ _) rfl)
    · intro A W hsz hoth hbel hdep
      exact kLoadRow _ _ _ _ _ _ rfl (wanted_of rfl rfl (by have h := hdep ⟨18, .guard⟩ (by simp) rfl; exact h)) ((hoth 8 (free2_of (by kernel_rfl))).trans rfl) ((hM5.get 2 rfl).on hbel) Tryd.underlying25 rfl (info_WideC _) (symV hbel hsz rfl rfl (show 50 < 99 by decide) (Below.refl _ _) rfl)
    · intro A W hsz hoth hbel hdep
      exact kBuildW0 rfl (wanted_of rfl rfl (by have h := hdep ⟨18, .guard⟩ (by simp) rfl; exact h)) (symV hbel hsz rfl rfl (show 51 < 99 by decide) (Below.refl _ _) rfl)
    · intro A W hsz hoth hbel hdep
      refine kCall3 30 _ _ _ _ _ _ _ rfl (wanted_of rfl rfl (by have h := hdep ⟨18, .guard⟩ (by simp) rfl; exact h)) (by kernel_rfl) (by have h := hdep ⟨26, .data⟩ (by simp) rfl; exact h) (by have h := hdep ⟨27, .data⟩ (by simp) rfl; exact h) (by have h := hdep ⟨28, .data⟩ (by simp) rfl; exact h) ?_
      refine (fFold_as hm (w3.heap.size) mx M256_pos Hv52.out W ((hM5.get 3 rfl).on hbel)).mono ?_
      rintro e r ⟨rfl, hBc⟩
      exact ⟨_, rfl, (symV hbel hsz rfl rfl (show 52 < 99 by decide) hBc rfl)⟩
    · intro A W hsz hoth hbel hdep
      exact kNeqW _ _ _ (v48) (v52) false rfl (wanted_of rfl rfl (by have h := hdep ⟨18, .guard⟩ (by simp) rfl; exact h)) (by have h := hdep ⟨25, .data⟩ (by simp) rfl; exact h) (by have h := hdep ⟨29, .data⟩ (by simp) rfl; exact h) (F53.out) (symV hbel hsz rfl rfl (show 53 < 99 by decide) (Below.refl _ _) rfl)
    · intro A W hsz hoth hbel hdep
      exact kPick _ _ _ false (.bool false) rfl rfl (by have h := hdep ⟨18, .data⟩ (by simp) rfl; exact h) (by have h := hdep ⟨30, .data⟩ (by simp) rfl; exact h) (symV hbel hsz rfl rfl (show 54 < 99 by decide) (Below.refl _ _) rfl)
    · intro A W hsz hoth hbel hdep
      exact kMoveV _ (.bool false) rfl rfl (by have h := hdep ⟨31, .data⟩ (by simp) rfl; exact h) (symV hbel hsz rfl rfl (show 55 < 99 by decide) (Below.refl _ _) rfl)
    · intro A W hsz hoth hbel hdep
      exact kMoveV _ (.pointer (some ⟨w3.heap.size, 0, none⟩)) rfl (wanted_of rfl rfl (by have h := hdep ⟨32, .guard⟩ (by simp) rfl; exact h)) ((hoth 7 (free2_of (by kernel_rfl))).trans rfl) (symV hbel hsz rfl rfl (show 56 < 99 by decide) (Below.refl _ _) rfl)
    · intro A W hsz hoth hbel hdep
      exact kLoadRow _ _ _ _ _ _ rfl (wanted_of rfl rfl (by have h := hdep ⟨32, .guard⟩ (by simp) rfl; exact h)) ((hoth 8 (free2_of (by kernel_rfl))).trans rfl) ((hM5.get 2 rfl).on hbel) Tryd.underlying25 rfl (info_WideC _) (symV hbel hsz rfl rfl (show 57 < 99 by decide) (Below.refl _ _) rfl)
    · intro A W hsz hoth hbel hdep
      exact kMoveV _ (.pointer (some ⟨w3.heap.size, 0, none⟩)) rfl (wanted_of rfl rfl (by have h := hdep ⟨32, .guard⟩ (by simp) rfl; exact h)) ((hoth 7 (free2_of (by kernel_rfl))).trans rfl) (symV hbel hsz rfl rfl (show 58 < 99 by decide) (Below.refl _ _) rfl)
    · intro A W hsz hoth hbel hdep
      exact kLoadRow _ _ _ _ _ _ rfl (wanted_of rfl rfl (by have h := hdep ⟨32, .guard⟩ (by simp) rfl; exact h)) ((hoth 9 (free2_of (by kernel_rfl))).trans rfl) ((hM5.get 1 rfl).on hbel) Tryd.underlying25 rfl (info_WideC _) (symV hbel hsz rfl rfl (show 59 < 99 by decide) (Below.refl _ _) rfl)
    · intro A W hsz hoth hbel hdep
      exact kLoadRow _ _ _ _ _ _ rfl (wanted_of rfl rfl (by have h := hdep ⟨32, .guard⟩ (by simp) rfl; exact h)) ((hoth 10 (free2_of (by kernel_rfl))).trans rfl) ((hM5.get 0 rfl).on hbel) Tryd.underlying25 rfl (info_WideC _) (symV hbel hsz rfl rfl (show 60 < 99 by decide) (Below.refl _ _) rfl)
    · intro A W hsz hoth hbel hdep
      refine kCall3 25 _ _ _ _ _ _ _ rfl (wanted_of rfl rfl (by have h := hdep ⟨32, .chain⟩ (by simp) rfl; exact h)) (by kernel_rfl) (by have h := hdep ⟨35, .data⟩ (by simp) rfl; exact h) (by have h := hdep ⟨36, .data⟩ (by simp) rfl; exact h) (by have h := hdep ⟨37, .data⟩ (by simp) rfl; exact h) ?_
      refine (fMul_as hm (w3.heap.size) my mz Hv61.out W ((hM5.get 3 rfl).on hbel)).mono ?_
      rintro e r ⟨rfl, hBc⟩
      exact ⟨_, rfl, (symV hbel hsz rfl rfl (show 61 < 99 by decide) hBc rfl)⟩
    · intro A W hsz hoth hbel hdep
      refine kCall3 25 _ _ _ _ _ _ _ rfl (wanted_of rfl rfl (by have h := hdep ⟨32, .guard⟩ (by simp) rfl; exact h)) (by kernel_rfl) (by have h := hdep ⟨33, .data⟩ (by simp) rfl; exact h) (by have h := hdep ⟨34, .data⟩ (by simp) rfl; exact h) (by have h := hdep ⟨38, .data⟩ (by simp) rfl; exact h) ?_
      refine (fMul_as hm (w3.heap.size) mx mv61 Hv62.out W ((hM5.get 3 rfl).on hbel)).mono ?_
      rintro e r ⟨rfl, hBc⟩
      exact ⟨_, rfl, (symV hbel hsz rfl rfl (show 62 < 99 by decide) hBc rfl)⟩
    · intro A W hsz hoth hbel hdep
      exact kMoveV _ (.pointer (some ⟨w3.heap.size, 0, none⟩)) rfl (wanted_of rfl rfl (by have h := hdep ⟨32, .guard⟩ (by simp) rfl; exact h)) ((hoth 7 (free2_of (by kernel_rfl))).trans rfl) (symV hbel hsz rfl rfl (show 63 < 99 by decide) (Below.refl _ _) rfl)
    · intro A W hsz hoth hbel hdep
      exact kMoveV _ (.pointer (some ⟨w3.heap.size, 0, none⟩)) rfl (wanted_of rfl rfl (by have h := hdep ⟨32, .guard⟩ (by simp) rfl; exact h)) ((hoth 7 (free2_of (by kernel_rfl))).trans rfl) (symV hbel hsz rfl rfl (show 64 < 99 by decide) (Below.refl _ _) rfl)
    · intro A W hsz hoth hbel hdep
      exact kLoadRow _ _ _ _ _ _ rfl (wanted_of rfl rfl (by have h := hdep ⟨32, .guard⟩ (by simp) rfl; exact h)) ((hoth 8 (free2_of (by kernel_rfl))).trans rfl) ((hM5.get 2 rfl).on hbel) Tryd.underlying25 rfl (info_WideC _) (symV hbel hsz rfl rfl (show 65 < 99 by decide) (Below.refl _ _) rfl)
    · intro A W hsz hoth hbel hdep
      exact kLoadRow _ _ _ _ _ _ rfl (wanted_of rfl rfl (by have h := hdep ⟨32, .guard⟩ (by simp) rfl; exact h)) ((hoth 9 (free2_of (by kernel_rfl))).trans rfl) ((hM5.get 1 rfl).on hbel) Tryd.underlying25 rfl (info_WideC _) (symV hbel hsz rfl rfl (show 66 < 99 by decide) (Below.refl _ _) rfl)
    · intro A W hsz hoth hbel hdep
      refine kCall3 25 _ _ _ _ _ _ _ rfl (wanted_of rfl rfl (by have h := hdep ⟨32, .guard⟩ (by simp) rfl; exact h)) (by kernel_rfl) (by have h := hdep ⟨41, .data⟩ (by simp) rfl; exact h) (by have h := hdep ⟨42, .data⟩ (by simp) rfl; exact h) (by have h := hdep ⟨43, .data⟩ (by simp) rfl; exact h) ?_
      refine (fMul_as hm (w3.heap.size) mx my Hv67.out W ((hM5.get 3 rfl).on hbel)).mono ?_
      rintro e r ⟨rfl, hBc⟩
      exact ⟨_, rfl, (symV hbel hsz rfl rfl (show 67 < 99 by decide) hBc rfl)⟩
    · intro A W hsz hoth hbel hdep
      exact kLoadRow _ _ _ _ _ _ rfl (wanted_of rfl rfl (by have h := hdep ⟨32, .guard⟩ (by simp) rfl; exact h)) ((hoth 10 (free2_of (by kernel_rfl))).trans rfl) ((hM5.get 0 rfl).on hbel) Tryd.underlying25 rfl (info_WideC _) (symV hbel hsz rfl rfl (show 68 < 99 by decide) (Below.refl _ _) rfl)
    · intro A W hsz hoth hbel hdep
      refine kCall3 25 _ _ _ _ _ _ _ rfl (wanted_of rfl rfl (by have h := hdep ⟨32, .guard⟩ (by simp) rfl; exact h)) (by kernel_rfl) (by have h := hdep ⟨40, .data⟩ (by simp) rfl; exact h) (by have h := hdep ⟨44, .data⟩ (by simp) rfl; exact h) (by have h := hdep ⟨45, .data⟩ (by simp) rfl; exact h) ?_
      refine (fMul_as hm (w3.heap.size) mv67 mz Hv69.out W ((hM5.get 3 rfl).on hbel)).mono ?_
      rintro e r ⟨rfl, hBc⟩
      exact ⟨_, rfl, (symV hbel hsz rfl rfl (show 69 < 99 by decide) hBc rfl)⟩
    · intro A W hsz hoth hbel hdep
      exact kNeqW _ _ _ (v62) (v69) false rfl (wanted_of rfl rfl (by have h := hdep ⟨32, .guard⟩ (by simp) rfl; exact h)) (by have h := hdep ⟨39, .data⟩ (by simp) rfl; exact h) (by have h := hdep ⟨46, .data⟩ (by simp) rfl; exact h) (F70.out) (symV hbel hsz rfl rfl (show 70 < 99 by decide) (Below.refl _ _) rfl)
    · intro A W hsz hoth hbel hdep
      exact kPick _ _ _ false (.bool false) rfl rfl (by have h := hdep ⟨32, .data⟩ (by simp) rfl; exact h) (by have h := hdep ⟨47, .data⟩ (by simp) rfl; exact h) (symV hbel hsz rfl rfl (show 71 < 99 by decide) (Below.refl _ _) rfl)
    intro w6 hB6
    dsimp only [AllV]
    dsimp only [putAll]
    go_frame
    have hM6 := hM5.on hB6
    clear hB6 hM5
    go_wp2_with (first
      | ((with_reducible change wpList _ _ _ (Oper.mk (some 74) _ _ _ _ _ :: _) _ _); refine kLoadRow _ _ _ _ _ _ rfl rfl rfl (hM6.get 0 rfl) Tryd.underlying25 rfl (info_WideC _) ?_; go_frame)
      | (go_at_call 12; (with_reducible change Calls _ _ #[Value.pointer (some ⟨w3.heap.size, 0, none⟩), Value.agg (wcells z)] _ _); refine (fInv_zero hm z (w3.heap.size) mz hz.out _ (hM6.get 3 rfl)).mono ?_; rintro e w7 ⟨rfl, hB7⟩; have hM7 := hM6.on hB7; clear hB7 hM6; (try unfold WV); go_frame)
      | ((with_reducible change wpList _ _ _ (Oper.mk (some 11) _ _ _ _ _ :: _) _ _); refine mmAlloc hM7 _ _ rfl rfl zero_Wide ?_; intro w8 hM8; clear hM7; go_frame)
      | ((with_reducible change wpList _ _ _ (Oper.mk none (Op.store _ (Operand.tmp 11) (Operand.tmp 76)) _ _ _ _ :: _) _ _); refine mmStoreAt hM8 0 _ _ _ _ _ _ (wcells 0) rfl rfl rfl rfl rfl (info_WideC _) (by simp only [wcells_size]) (wcells_one _) ?_; intro w9 hM9; dsimp only [List.set] at hM9; clear hM8; go_frame))
    refine region_sym (fun _ => 0) [.val (.int .i64 (31)), .val (.bool true), .val (.bool true), .val (undef), .val (undef), .val (undef), .val (undef), .val (undef), .val (undef), .val (undef), .val (undef), .val (undef), .val (undef), .val (undef), .val (undef), .val (undef), .val (undef), .val (undef), .val (undef), .val (undef), .val (.bool true), .val (.bool true)] [.val (.int .i64 (31)), .val (.bool true), .val (.bool true), .val (undef), .val (undef), .val (undef), .val (undef), .val (undef), .val (undef), .val (undef), .val (undef), .val (undef), .val (undef), .val (undef), .val (undef), .val (undef), .val (undef), .val (undef), .val (undef), .val (undef), .val (.bool true), .val (.bool true)] (by kernel_rfl) (by kernel_rfl) rfl rfl (steps_all ⟨?_, ?_, ?_, ?_, ?_, ?_, ?_, ?_, ?_, ?_, ?_, ?_, ?_, ?_, ?_, ?_, ?_, ?_, ?_, ?_, ?_, ?_, trivial⟩) ?_
    · intro A W hsz hoth hbel hdep
      exact kMoveV _ (.int .i64 (31)) rfl rfl ((hoth 12 (free2_of (by kernel_rfl))).trans rfl) (symV hbel hsz rfl rfl (show 78 < 99 by decide) (Below.refl _ _) rfl)
    · intro A W hsz hoth hbel hdep
      exact kNeqI _ _ _ _ .i64 (31) (0) true rfl rfl (by have h := hdep ⟨0, .data⟩ (by simp) rfl; exact h) rfl (by decide) (symV hbel hsz rfl rfl (show 79 < 99 by decide) (Below.refl _ _) rfl)
    · intro A W hsz hoth hbel hdep
      exact kMoveV _ (.bool true) rfl rfl (by have h := hdep ⟨1, .data⟩ (by simp) rfl; exact h) (symV hbel hsz rfl rfl (show 80 < 99 by decide) (Below.refl _ _) rfl)
    · intro A W hsz hoth hbel hdep
      exact wpList_skip (unwanted_of rfl rfl (by have h := hdep ⟨2, .guard⟩ (by simp) rfl; exact h) (.inl rfl)) (symV hbel hsz rfl rfl (show 81 < 99 by decide) (Below.refl _ _) rfl)
    · intro A W hsz hoth hbel hdep
      exact wpList_skip (unwanted_of rfl rfl (by have h := hdep ⟨2, .guard⟩ (by simp) rfl; exact h) (.inl rfl)) (symV hbel hsz rfl rfl (show 82 < 99 by decide) (Below.refl _ _) rfl)
    · intro A W hsz hoth hbel hdep
      exact wpList_skip (unwanted_of rfl rfl (by have h := hdep ⟨2, .guard⟩ (by simp) rfl; exact h) (.inl rfl)) (symV hbel hsz rfl rfl (show 83 < 99 by decide) (Below.refl _ _) rfl)
    · intro A W hsz hoth hbel hdep
      exact wpList_skip (unwanted_of rfl rfl (by have h := hdep ⟨2, .guard⟩ (by simp) rfl; exact h) (.inl rfl)) (symV hbel hsz rfl rfl (show 84 < 99 by decide) (Below.refl _ _) rfl)
    · intro A W hsz hoth hbel hdep
      exact wpList_skip (unwanted_of rfl rfl (by have h := hdep ⟨2, .chain⟩ (by simp) rfl; exact h) (.inl rfl)) (symV hbel hsz rfl rfl (show 85 < 99 by decide) (Below.refl _ _) rfl)
    · intro A W hsz hoth hbel hdep
      exact wpList_skip (unwanted_of rfl rfl (by have h := hdep ⟨2, .guard⟩ (by simp) rfl; exact h) (.inl rfl)) (symV hbel hsz rfl rfl (show 86 < 99 by decide) (Below.refl _ _) rfl)
    · intro A W hsz hoth hbel hdep
      exact wpList_skip (unwanted_of rfl rfl (by have h := hdep ⟨2, .guard⟩ (by simp) rfl; exact h) (.inl rfl)) (symV hbel hsz rfl rfl (show 87 < 99 by decide) (Below.refl _ _) rfl)
    · intro A W hsz hoth hbel hdep
      exact wpList_skip (unwanted_of rfl rfl (by have h := hdep ⟨2, .guard⟩ (by simp) rfl; exact h) (.inl rfl)) (symV hbel hsz rfl rfl (show 88 < 99 by decide) (Below.refl _ _) rfl)
    · intro A W hsz hoth hbel hdep
      exact wpList_skip (unwanted_of rfl rfl (by have h := hdep ⟨2, .guard⟩ (by simp) rfl; exact h) (.inl rfl)) (symV hbel hsz rfl rfl (show 89 < 99 by decide) (Below.refl _ _) rfl)
    · intro A W hsz hoth hbel hdep
      exact wpList_skip (unwanted_of rfl rfl (by have h := hdep ⟨2, .guard⟩ (by simp) rfl; exact h) (.inl rfl)) (symV hbel hsz rfl rfl (show 90 < 99 by decide) (Below.refl _ _) rfl)
    · intro A W hsz hoth hbel hdep
      exact wpList_skip (unwanted_of rfl rfl (by have h := hdep ⟨2, .guard⟩ (by simp) rfl; exact h) (.inl rfl)) (symV hbel hsz rfl rfl (show 91 < 99 by decide) (Below.refl _ _) rfl)
    · intro A W hsz hoth hbel hdep
      exact wpList_skip (unwanted_of rfl rfl (by have h := hdep ⟨2, .guard⟩ (by simp) rfl; exact h) (.inl rfl)) (symV hbel hsz rfl rfl (show 92 < 99 by decide) (Below.refl _ _) rfl)
    · intro A W hsz hoth hbel hdep
      exact wpList_skip (unwanted_of rfl rfl (by have h := hdep ⟨2, .guard⟩ (by simp) rfl; exact h) (.inl rfl)) (symV hbel hsz rfl rfl (show 93 < 99 by decide) (Below.refl _ _) rfl)
    · intro A W hsz hoth hbel hdep
      exact wpList_skip (unwanted_of rfl rfl (by have h := hdep ⟨15, .guard⟩ (by simp) rfl; exact h) (.inr rfl)) (symV hbel hsz rfl rfl (show 94 < 99 by decide) (Below.refl _ _) rfl)
    · intro A W hsz hoth hbel hdep
      exact wpList_skip (unwanted_of rfl rfl (by have h := hdep ⟨15, .guard⟩ (by simp) rfl; exact h) (.inr rfl)) (symV hbel hsz rfl rfl (show 95 < 99 by decide) (Below.refl _ _) rfl)
    · intro A W hsz hoth hbel hdep
      exact wpList_skip (unwanted_of rfl rfl (by have h := hdep ⟨15, .chain⟩ (by simp) rfl; exact h) (.inr rfl)) (symV hbel hsz rfl rfl (show 96 < 99 by decide) (Below.refl _ _) rfl)
    · intro A W hsz hoth hbel hdep
      exact wpList_skip (unwanted_of rfl rfl (by have h := hdep ⟨2, .guard⟩ (by simp) rfl; exact h) (.inl rfl)) (symV hbel hsz rfl rfl (show 97 < 99 by decide) (Below.refl _ _) rfl)
    · intro A W hsz hoth hbel hdep
      exact kPick _ _ _ true (.bool true) rfl rfl (by have h := hdep ⟨2, .data⟩ (by simp) rfl; exact h) rfl (symV hbel hsz rfl rfl (show 98 < 99 by decide) (Below.refl _ _) rfl)
    · intro A W hsz hoth hbel hdep
      exact kAssignV _ (.bool true) rfl rfl (by have h := hdep ⟨20, .data⟩ (by simp) rfl; exact h) (symV hbel hsz rfl rfl (show 6 < 99 by decide) (Below.refl _ _) rfl)
    intro w10 hB10
    dsimp only [AllV]
    dsimp only [putAll]
    go_frame
    have hM10 := hM9.on hB10
    clear hB10 hM9
    go_wp2_with fail
    go_ret
    exact ⟨rfl, hM10.below⟩
  · replace hz := Lib.hid hz
    obtain ⟨v27, Hv27⟩ : ∃ n, Hid ((x + y) % m = n) := ⟨_, Lib.hid rfl⟩
    have mv27 : v27 < M256 := by rw [← Hv27.out]; exact hm.mod _
    obtain ⟨v29, Hv29⟩ : ∃ n, Hid (v27 * z % m = n) := ⟨_, Lib.hid rfl⟩
    have mv29 : v29 < M256 := by rw [← Hv29.out]; exact hm.mod _
    obtain ⟨v34, Hv34⟩ : ∃ n, Hid (x * z % m = n) := ⟨_, Lib.hid rfl⟩
    have mv34 : v34 < M256 := by rw [← Hv34.out]; exact hm.mod _
    obtain ⟨v38, Hv38⟩ : ∃ n, Hid (y * z % m = n) := ⟨_, Lib.hid rfl⟩
    have mv38 : v38 < M256 := by rw [← Hv38.out]; exact hm.mod _
    obtain ⟨v39, Hv39⟩ : ∃ n, Hid ((v34 + v38) % m = n) := ⟨_, Lib.hid rfl⟩
    have mv39 : v39 < M256 := by rw [← Hv39.out]; exact hm.mod _
    obtain ⟨v46, Hv46⟩ : ∃ n, Hid ((x + y) % m = n) := ⟨_, Lib.hid rfl⟩
    have mv46 : v46 < M256 := by rw [← Hv46.out]; exact hm.mod _
    obtain ⟨v48, Hv48⟩ : ∃ n, Hid ((v46 % m + m - y % m) % m = n) := ⟨_, Lib.hid rfl⟩
    have mv48 : v48 < M256 := by rw [← Hv48.out]; exact hm.mod _
    obtain ⟨v52, Hv52⟩ : ∃ n, Hid ((x + 0 * M256) % m = n) := ⟨_, Lib.hid rfl⟩
    have mv52 : v52 < M256 := by rw [← Hv52.out]; exact hm.mod _
    obtain ⟨v61, Hv61⟩ : ∃ n, Hid (y * z % m = n) := ⟨_, Lib.hid rfl⟩
    have mv61 : v61 < M256 := by rw [← Hv61.out]; exact hm.mod _
    obtain ⟨v62, Hv62⟩ : ∃ n, Hid (x * v61 % m = n) := ⟨_, Lib.hid rfl⟩
    have mv62 : v62 < M256 := by rw [← Hv62.out]; exact hm.mod _
    obtain ⟨v67, Hv67⟩ : ∃ n, Hid (x * y % m = n) := ⟨_, Lib.hid rfl⟩
    have mv67 : v67 < M256 := by rw [← Hv67.out]; exact hm.mod _
    obtain ⟨v69, Hv69⟩ : ∃ n, Hid (v67 * z % m = n) := ⟨_, Lib.hid rfl⟩
    have mv69 : v69 < M256 := by rw [← Hv69.out]; exact hm.mod _
    obtain ⟨v75, Hv75⟩ : ∃ n, Hid (z ^ (m - 2) % m = n) := ⟨_, Lib.hid rfl⟩
    have mv75 : v75 < M256 := by rw [← Hv75.out]; exact hm.mod _
    obtain ⟨v85, Hv85⟩ : ∃ n, Hid (x * z % m = n) := ⟨_, Lib.hid rfl⟩
    have mv85 : v85 < M256 := by rw [← Hv85.out]; exact hm.mod _
    obtain ⟨v87, Hv87⟩ : ∃ n, Hid (v85 * v75 % m = n) := ⟨_, Lib.hid rfl⟩
    have mv87 : v87 < M256 := by rw [← Hv87.out]; exact hm.mod _
    obtain ⟨v91, Hv91⟩ : ∃ n, Hid ((x + 0 * M256) % m = n) := ⟨_, Lib.hid rfl⟩
    have mv91 : v91 < M256 := by rw [← Hv91.out]; exact hm.mod _
    have F40 := Lib.hid (neqW_no (show v29 = v39 by rw [← Hv29.out, ← Hv27.out, ← Hv39.out, ← Hv34.out, ← Hv38.out]; exact ring_dist))
    have F53 := Lib.hid (neqW_no (show v48 = v52 by rw [← Hv48.out, ← Hv46.out, ← Hv52.out, fold_zero]; exact sub_back hm.pos))
    have F70 := Lib.hid (neqW_no (show v62 = v69 by rw [← Hv62.out, ← Hv61.out, ← Hv69.out, ← Hv67.out]; exact ring_assoc))
    have F92 := Lib.hid (eqlW_yes (show v87 = v91 by rw [← Hv87.out, ← Hv85.out, ← Hv75.out, ← Hv91.out, fold_zero]; exact inv_back hp hz.out))
    have F96 := Lib.hid (show decide (v75 < m) = true by rw [← Hv75.out]; exact decide_eq_true (Nat.mod_lt _ hm.pos))
    have hM0 := mm_nil w
    (try unfold WV)
    go_enter Tryd.func8, Tryd.ntmps8
    go_wp2_with (first
      | ((with_reducible change wpList _ _ _ (Oper.mk (some 4) _ _ _ _ _ :: _) _ _); refine mmBox hM0 _ _ _ rfl rfl rfl ?_; intro w1 hM1; clear hM0; go_frame)
      | ((with_reducible change wpList _ _ _ (Oper.mk (some 5) _ _ _ _ _ :: _) _ _); refine mmBox hM1 _ _ _ rfl rfl rfl ?_; intro w2 hM2; clear hM1; go_frame)
      | (go_at_call 10; refine (fieldAlive_any _ (hG.below hM2.below)).mono ?_; rintro e w3 ⟨rfl, hB3⟩; have hM3 := hM2.on hB3; clear hB3 hM2; (try unfold WV); go_frame)
      | (go_at_call 19; (with_reducible change Calls _ _ #[Value.bool false] _ _); refine (ring_false m _ (hR.below hM3.below)).mono ?_; rintro e w4 ⟨rfl, hR4, hB4⟩; have hM4 := hM3.new hR4 hB4; clear hB4 hR4 hM3; go_frame))
    refine region_symN [6, 7, 8] [8, 9, 10] (by kernel_rfl) (fun i => [0, 0, 0, 0, 0, 0, 0, 0, 0, 6, 7, 8].getD i 0) [.val (.pointer (some ⟨w.heap.size, 0, none⟩)), .val (.agg (wcells x)), .val (.pointer (some ⟨w.heap.size, 4, none⟩)), .val (.agg (wcells y)), .val (.pointer (some ⟨w1.heap.size, 0, none⟩)), .val (.agg (wcells z)), .fresh w4.heap.size 25 4, .fresh w4.heap.size 25 4, .fresh w4.heap.size 25 4, .hold w4.heap.size 25 (wcells x), .hold w4.heap.size 25 (wcells y), .hold w4.heap.size 25 (wcells z)] [.val (.pointer (some ⟨w.heap.size, 0, none⟩)), .val (.agg (wcells x)), .val (.pointer (some ⟨w.heap.size, 4, none⟩)), .val (.agg (wcells y)), .val (.pointer (some ⟨w1.heap.size, 0, none⟩)), .val (.agg (wcells z)), .hold w4.heap.size 25 (wcells x), .hold w4.heap.size 25 (wcells y), .hold w4.heap.size 25 (wcells z), .val undef, .val undef, .val undef] (by kernel_rfl) (by kernel_rfl) rfl rfl (by intro s hs; simp only [List.mem_cons, List.not_mem_nil, or_false] at hs; rcases hs with rfl | rfl | rfl <;> rfl) (steps_all ⟨?_, ?_, ?_, ?_, ?_, ?_, ?_, ?_, ?_, ?_, ?_, ?_, trivial⟩) ?_
    · intro A W hsz hoth hbel hX hdep
      exact kIndexAddr2 _ _ _ _ 0 rfl rfl ((hoth 4 (free2_of (by kernel_rfl))).trans rfl) rfl rfl (by decide) (symVN hbel hX hsz rfl rfl (show 17 < 99 by decide) rfl (Below.refl _ _) rfl)
    · intro A W hsz hoth hbel hX hdep
      exact kLoadAs _ _ _ _ _ 4 _ _ _ rfl rfl (by have h := hdep ⟨0, .data⟩ (by simp) rfl; exact h) ((hM4.get 2 rfl).on hbel) Tryd.underlying25 rfl info_Wide (by rw [wcells2_size]; decide) (wcells2_at0 _ _) (symVN hbel hX hsz rfl rfl (show 18 < 99 by decide) rfl (Below.refl _ _) rfl)
    · intro A W hsz hoth hbel hX hdep
      exact kIndexAddr2 _ _ _ _ 1 rfl rfl ((hoth 4 (free2_of (by kernel_rfl))).trans rfl) rfl rfl (by decide) (symVN hbel hX hsz rfl rfl (show 19 < 99 by decide) rfl (Below.refl _ _) rfl)
    · intro A W hsz hoth hbel hX hdep
      exact kLoadAs _ _ _ _ _ 4 _ _ _ rfl rfl (by have h := hdep ⟨2, .data⟩ (by simp) rfl; exact h) ((hM4.get 2 rfl).on hbel) Tryd.underlying25 rfl info_Wide (by rw [wcells2_size]; decide) (wcells2_at4 _ _) (symVN hbel hX hsz rfl rfl (show 20 < 99 by decide) rfl (Below.refl _ _) rfl)
    · intro A W hsz hoth hbel hX hdep
      exact kIndexAddr2 _ _ _ _ 0 rfl rfl ((hoth 5 (free2_of (by kernel_rfl))).trans rfl) rfl rfl (by decide) (symVN hbel hX hsz rfl rfl (show 21 < 99 by decide) rfl (Below.refl _ _) rfl)
    · intro A W hsz hoth hbel hX hdep
      exact kLoadAs _ _ _ _ _ 4 _ _ _ rfl rfl (by have h := hdep ⟨4, .data⟩ (by simp) rfl; exact h) ((hM4.get 1 rfl).on hbel) Tryd.underlying25 rfl info_Wide (by rw [wcells2_size]; decide) (wcells2_at0 _ _) (symVN hbel hX hsz rfl rfl (show 22 < 99 by decide) rfl (Below.refl _ _) rfl)
    · intro A W hsz hoth hbel hX hdep
      refine kAllocL _ _ rfl rfl zero_Wide ?_
      intro r hR hl hBc
      exact (symAN hbel hX hsz rfl rfl (show 8 < 99 by decide) hl hBc ⟨_, _, rfl, hbel.size, wcells_size _, hR⟩)
    · intro A W hsz hoth hbel hX hdep
      refine kAllocL _ _ rfl rfl zero_Wide ?_
      intro r hR hl hBc
      exact (symAN hbel hX hsz rfl rfl (show 9 < 99 by decide) hl hBc ⟨_, _, rfl, hbel.size, wcells_size _, hR⟩)
    · intro A W hsz hoth hbel hX hdep
      refine kAllocL _ _ rfl rfl zero_Wide ?_
      intro r hR hl hBc
      exact (symAN hbel hX hsz rfl rfl (show 10 < 99 by decide) hl hBc ⟨_, _, rfl, hbel.size, wcells_size _, hR⟩)
    · intro A W hsz hoth hbel hX hdep
      obtain ⟨g, cs, d8, hg, hcs, hR⟩ : ∃ g cs, A.tmps.getD 8 undef = .pointer (some ⟨g, 0, none⟩) ∧ w4.heap.size ≤ g ∧ cs.size = 4 ∧ Row W g 25 cs := (by have h := hdep ⟨6, .data⟩ (by simp) rfl; exact h)
      refine kStoreRow _ _ _ _ _ _ (wcells x) rfl rfl d8 (by have h := hdep ⟨1, .data⟩ (by simp) rfl; exact h) hR (info_WideC _) (by rw [wcells_size, hcs]) (wcells_one _) ?_
      intro r hR2 hW
      exact symWN (s := 8) hbel hX rfl rfl rfl d8 hR hW hg hR2 (by simp [OnlyAt, srcOf, dstOf, wcells_size]) ⟨g, d8, hg, hR2⟩
    · intro A W hsz hoth hbel hX hdep
      obtain ⟨g, cs, d8, hg, hcs, hR⟩ : ∃ g cs, A.tmps.getD 9 undef = .pointer (some ⟨g, 0, none⟩) ∧ w4.heap.size ≤ g ∧ cs.size = 4 ∧ Row W g 25 cs := (by have h := hdep ⟨7, .data⟩ (by simp) rfl; exact h)
      refine kStoreRow _ _ _ _ _ _ (wcells y) rfl rfl d8 (by have h := hdep ⟨3, .data⟩ (by simp) rfl; exact h) hR (info_WideC _) (by rw [wcells_size, hcs]) (wcells_one _) ?_
      intro r hR2 hW
      exact symWN (s := 9) hbel hX rfl rfl rfl d8 hR hW hg hR2 (by simp [OnlyAt, srcOf, dstOf, wcells_size]) ⟨g, d8, hg, hR2⟩
    · intro A W hsz hoth hbel hX hdep
      obtain ⟨g, cs, d8, hg, hcs, hR⟩ : ∃ g cs, A.tmps.getD 10 undef = .pointer (some ⟨g, 0, none⟩) ∧ w4.heap.size ≤ g ∧ cs.size = 4 ∧ Row W g 25 cs := (by have h := hdep ⟨8, .data⟩ (by simp) rfl; exact h)
      refine kStoreRow _ _ _ _ _ _ (wcells z) rfl rfl d8 (by have h := hdep ⟨5, .data⟩ (by simp) rfl; exact h) hR (info_WideC _) (by rw [wcells_size, hcs]) (wcells_one _) ?_
      intro r hR2 hW
      exact symWN (s := 10) hbel hX rfl rfl rfl d8 hR hW hg hR2 (by simp [OnlyAt, srcOf, dstOf, wcells_size]) ⟨g, d8, hg, hR2⟩
    intro w5 hB5
    dsimp only [AllV]
    intro g5_8 hg5_8 hR5_8
    intro g5_9 hg5_9 hR5_9
    intro g5_10 hg5_10 hR5_10
    intro hap
    dsimp only [putAll]
    go_frame
    have hM5 := hM4.on hB5
    replace hM5 := hM5.cons hR5_8 (Nat.le_trans hM4.size hg5_8) (fun p hp => by have := hM4.lt hp; omega)
    have hne5_9_5_8 : g5_9 ≠ g5_8 := fun e => hap 7 (by simp) 6 (by simp) (by decide) g5_9 rfl (by rw [e]; rfl)
    replace hM5 := hM5.cons hR5_9 (Nat.le_trans hM4.size hg5_9) (List.forall_mem_cons.2 ⟨hne5_9_5_8, fun p hp => by have := hM4.lt hp; omega⟩)
    have hne5_10_5_8 : g5_10 ≠ g5_8 := fun e => hap 8 (by simp) 6 (by simp) (by decide) g5_10 rfl (by rw [e]; rfl)
    have hne5_10_5_9 : g5_10 ≠ g5_9 := fun e => hap 8 (by simp) 7 (by simp) (by decide) g5_10 rfl (by rw [e]; rfl)
    replace hM5 := hM5.cons hR5_10 (Nat.le_trans hM4.size hg5_10) (List.forall_mem_cons.2 ⟨hne5_10_5_9, List.forall_mem_cons.2 ⟨hne5_10_5_8, fun p hp => by have := hM4.lt hp; omega⟩⟩)
    clear hB5 hM4 hg5_8 hR5_8 hg5_9 hR5_9 hg5_10 hR5_10 hap
    go_wp2_with fail
    refine region_sym (fun _ => 0) [.val (.pointer (some ⟨w3.heap.size, 0, none⟩)), .val (.pointer (some ⟨w3.heap.size, 0, none⟩)), .val (.agg (wcells x)), .val (.agg (wcells y)), .val (.agg (wcells v27)), .val (.agg (wcells z)), .val (.agg (wcells v29)), .val (.pointer (some ⟨w3.heap.size, 0, none⟩)), .val (.pointer (some ⟨w3.heap.size, 0, none⟩)), .val (.agg (wcells x)), .val (.agg (wcells z)), .val (.agg (wcells v34)), .val (.pointer (some ⟨w3.heap.size, 0, none⟩)), .val (.agg (wcells y)), .val (.agg (wcells z)), .val (.agg (wcells v38)), .val (.agg (wcells v39)), .val (.bool false), .val (.bool false), .val (.pointer (some ⟨w3.heap.size, 0, none⟩)), .val (.pointer (some ⟨w3.heap.size, 0, none⟩)), .val (.agg (wcells x)), .val (.agg (wcells y)), .val (.agg (wcells v46)), .val (.agg (wcells y)), .val (.agg (wcells v48)), .val (.pointer (some ⟨w3.heap.size, 0, none⟩)), .val (.agg (wcells x)), .val (.agg (wcells 0)), .val (.agg (wcells v52)), .val (.bool false), .val (.bool false), .val (.bool false), .val (.pointer (some ⟨w3.heap.size, 0, none⟩)), .val (.agg (wcells x)), .val (.pointer (some ⟨w3.heap.size, 0, none⟩)), .val (.agg (wcells y)), .val (.agg (wcells z)), .val (.agg (wcells v61)), .val (.agg (wcells v62)), .val (.pointer (some ⟨w3.heap.size, 0, none⟩)), .val (.pointer (some ⟨w3.heap.size, 0, none⟩)), .val (.agg (wcells x)), .val (.agg (wcells y)), .val (.agg (wcells v67)), .val (.agg (wcells z)), .val (.agg (wcells v69)), .val (.bool false), .val (.bool false)] [.val (.pointer (some ⟨w3.heap.size, 0, none⟩)), .val (.pointer (some ⟨w3.heap.size, 0, none⟩)), .val (.agg (wcells x)), .val (.agg (wcells y)), .val (.agg (wcells v27)), .val (.agg (wcells z)), .val (.agg (wcells v29)), .val (.pointer (some ⟨w3.heap.size, 0, none⟩)), .val (.pointer (some ⟨w3.heap.size, 0, none⟩)), .val (.agg (wcells x)), .val (.agg (wcells z)), .val (.agg (wcells v34)), .val (.pointer (some ⟨w3.heap.size, 0, none⟩)), .val (.agg (wcells y)), .val (.agg (wcells z)), .val (.agg (wcells v38)), .val (.agg (wcells v39)), .val (.bool false), .val (.bool false), .val (.pointer (some ⟨w3.heap.size, 0, none⟩)), .val (.pointer (some ⟨w3.heap.size, 0, none⟩)), .val (.agg (wcells x)), .val (.agg (wcells y)), .val (.agg (wcells v46)), .val (.agg (wcells y)), .val (.agg (wcells v48)), .val (.pointer (some ⟨w3.heap.size, 0, none⟩)), .val (.agg (wcells x)), .val (.agg (wcells 0)), .val (.agg (wcells v52)), .val (.bool false), .val (.bool false), .val (.bool false), .val (.pointer (some ⟨w3.heap.size, 0, none⟩)), .val (.agg (wcells x)), .val (.pointer (some ⟨w3.heap.size, 0, none⟩)), .val (.agg (wcells y)), .val (.agg (wcells z)), .val (.agg (wcells v61)), .val (.agg (wcells v62)), .val (.pointer (some ⟨w3.heap.size, 0, none⟩)), .val (.pointer (some ⟨w3.heap.size, 0, none⟩)), .val (.agg (wcells x)), .val (.agg (wcells y)), .val (.agg (wcells v67)), .val (.agg (wcells z)), .val (.agg (wcells v69)), .val (.bool false), .val (.bool false)] (by kernel_rfl) (by kernel_rfl) rfl rfl (steps_all ⟨?_, ?_, ?_, ?_, ?_, ?_, ?_, ?_, ?_, ?_, ?_, ?_, ?_, ?_, ?_, ?_, ?_, ?_, ?_, ?_, ?_, ?_, ?_, ?_, ?_, ?_, ?_, ?_, ?_, ?_, ?_, ?_, ?_, ?_, ?_, ?_, ?_, ?_, ?_, ?_, ?_, ?_, ?_, ?_, ?_, ?_, ?_, ?_, ?_, trivial⟩) ?_
    · intro A W hsz hoth hbel hdep
      exact kMoveV _ (.pointer (some ⟨w3.heap.size, 0, none⟩)) rfl rfl ((hoth 7 (free2_of (by kernel_rfl))).trans rfl) (symV hbel hsz rfl rfl (show 23 < 99 by decide) (Below.refl _ _) rfl)
    · intro A W hsz hoth hbel hdep
      exact kMoveV _ (.pointer (some ⟨w3.heap.size, 0, none⟩)) rfl rfl ((hoth 7 (free2_of (by kernel_rfl))).trans rfl) (symV hbel hsz rfl rfl (show 24 < 99 by decide) (Below.refl _ _) rfl)
    · intro A W hsz hoth hbel hdep
      exact kLoadRow _ _ _ _ _ _ rfl rfl ((hoth 8 (free2_of (by kernel_rfl))).trans rfl) ((hM5.get 2 rfl).on hbel) Tryd.underlying25 rfl (info_WideC _) (symV hbel hsz rfl rfl (show 25 < 99 by decide) (Below.refl _ _) rfl)
    · intro A W hsz hoth hbel hdep
      exact kLoadRow _ _ _ _ _ _ rfl rfl ((hoth 9 (free2_of (by kernel_rfl))).trans rfl) ((hM5.get 1 rfl).on hbel) Tryd.underlying25 rfl (info_WideC _) (symV hbel hsz rfl rfl (show 26 < 99 by decide) (Below.refl _ _) rfl)
    · intro A W hsz hoth hbel hdep
      refine kCall3 21 _ _ _ _ _ _ _ rfl rfl (by kernel_rfl) (by have h := hdep ⟨1, .data⟩ (by simp) rfl; exact h) (by have h := hdep ⟨2, .data⟩ (by simp) rfl; exact h) (by have h := hdep ⟨3, .data⟩ (by simp) rfl; exact h) ?_
      refine (fAdd_as hm (w3.heap.size) mx my Hv27.out.symm W ((hM5.get 3 rfl).on hbel)).mono ?_
      rintro e r ⟨rfl, hBc⟩
      exact ⟨_, rfl, (symV hbel hsz rfl rfl (show 27 < 99 by decide) hBc rfl)⟩
    · intro A W hsz hoth hbel hdep
      exact kLoadRow _ _ _ _ _ _ rfl rfl ((hoth 10 (free2_of (by kernel_rfl))).trans rfl) ((hM5.get 0 rfl).on hbel) Tryd.underlying25 rfl (info_WideC _) (symV hbel hsz rfl rfl (show 28 < 99 by decide) (Below.refl _ _) rfl)
    · intro A W hsz hoth hbel hdep
      refine kCall3 25 _ _ _ _ _ _ _ rfl rfl (by kernel_rfl) (by have h := hdep ⟨0, .data⟩ (by simp) rfl; exact h) (by have h := hdep ⟨4, .data⟩ (by simp) rfl; exact h) (by have h := hdep ⟨5, .data⟩ (by simp) rfl; exact h) ?_
      refine (fMul_as hm (w3.heap.size) mv27 mz Hv29.out W ((hM5.get 3 rfl).on hbel)).mono ?_
      rintro e r ⟨rfl, hBc⟩
      exact ⟨_, rfl, (symV hbel hsz rfl rfl (show 29 < 99 by decide) hBc rfl)⟩
    · intro A W hsz hoth hbel hdep
      exact kMoveV _ (.pointer (some ⟨w3.heap.size, 0, none⟩)) rfl rfl ((hoth 7 (free2_of (by kernel_rfl))).trans rfl) (symV hbel hsz rfl rfl (show 30 < 99 by decide) (Below.refl _ _) rfl)
    · intro A W hsz hoth hbel hdep
      exact kMoveV _ (.pointer (some ⟨w3.heap.size, 0, none⟩)) rfl rfl ((hoth 7 (free2_of (by kernel_rfl))).trans rfl) (symV hbel hsz rfl rfl (show 31 < 99 by decide) (Below.refl _ _) rfl)
    · intro A W hsz hoth hbel hdep
      exact kLoadRow _ _ _ _ _ _ rfl rfl ((hoth 8 (free2_of (by kernel_rfl))).trans rfl) ((hM5.get 2 rfl).on hbel) Tryd.underlying25 rfl (info_WideC _) (symV hbel hsz rfl rfl (show 32 < 99 by decide) (Below.refl _ _) rfl)
    · intro A W hsz hoth hbel hdep
      exact kLoadRow _ _ _ _ _ _ rfl rfl ((hoth 10 (free2_of (by kernel_rfl))).trans rfl) ((hM5.get 0 rfl).on hbel) Tryd.underlying25 rfl (info_WideC _) (symV hbel hsz rfl rfl (show 33 < 99 by decide) (Below.refl _ _) rfl)
    · intro A W hsz hoth hbel hdep
      refine kCall3 25 _ _ _ _ _ _ _ rfl rfl (by kernel_rfl) (by have h := hdep ⟨8, .data⟩ (by simp) rfl; exact h) (by have h := hdep ⟨9, .data⟩ (by simp) rfl; exact h) (by have h := hdep ⟨10, .data⟩ (by simp) rfl; exact h) ?_
      refine (fMul_as hm (w3.heap.size) mx mz Hv34.out W ((hM5.get 3 rfl).on hbel)).mono ?_
      rintro e r ⟨rfl, hBc⟩
      exact ⟨_, rfl, (symV hbel hsz rfl rfl (show 34 < 99 by decide) hBc rfl)⟩
    · intro A W hsz hoth hbel hdep
      exact kMoveV _ (.pointer (some ⟨w3.heap.size, 0, none⟩)) rfl rfl ((hoth 7 (free2_of (by kernel_rfl))).trans rfl) (symV hbel hsz rfl rfl (show 35 < 99 by decide) (Below.refl _ _) rfl)
    · intro A W hsz hoth hbel hdep
      exact kLoadRow _ _ _ _ _ _ rfl rfl ((hoth 9 (free2_of (by kernel_rfl))).trans rfl) ((hM5.get 1 rfl).on hbel) Tryd.underlying25 rfl (info_WideC _) (symV hbel hsz rfl rfl (show 36 < 99 by decide) (Below.refl _ _) rfl)
    · intro A W hsz hoth hbel hdep
      exact kLoadRow _ _ _ _ _ _ rfl rfl ((hoth 10 (free2_of (by kernel_rfl))).trans rfl) ((hM5.get 0 rfl).on hbel) Tryd.underlying25 rfl (info_WideC _) (symV hbel hsz rfl rfl (show 37 < 99 by decide) (Below.refl _ _) rfl)
    · intro A W hsz hoth hbel hdep
      refine kCall3 25 _ _ _ _ _ _ _ rfl rfl (by kernel_rfl) (by have h := hdep ⟨12, .data⟩ (by simp) rfl; exact h) (by have h := hdep ⟨13, .data⟩ (by simp) rfl; exact h) (by have h := hdep ⟨14, .data⟩ (by simp) rfl; exact h) ?_
      refine (fMul_as hm (w3.heap.size) my mz Hv38.out W ((hM5.get 3 rfl).on hbel)).mono ?_
      rintro e r ⟨rfl, hBc⟩
      exact ⟨_, rfl, (symV hbel hsz rfl rfl (show 38 < 99 by decide) hBc rfl)⟩
    · intro A W hsz hoth hbel hdep
      refine kCall3 21 _ _ _ _ _ _ _ rfl rfl (by kernel_rfl) (by have h := hdep ⟨7, .data⟩ (by simp) rfl; exact h) (by have h := hdep ⟨11, .data⟩ (by simp) rfl; exact h) (by have h := hdep ⟨15, .data⟩ (by simp) rfl; exact h) ?_
      refine (fAdd_as hm (w3.heap.size) mv34 mv38 Hv39.out.symm W ((hM5.get 3 rfl).on hbel)).mono ?_
      rintro e r ⟨rfl, hBc⟩
      exact ⟨_, rfl, (symV hbel hsz rfl rfl (show 39 < 99 by decide) hBc rfl)⟩
    · intro A W hsz hoth hbel hdep
      exact kNeqW _ _ _ (v29) (v39) false rfl rfl (by have h := hdep ⟨6, .data⟩ (by simp) rfl; exact h) (by have h := hdep ⟨16, .data⟩ (by simp) rfl; exact h) (F40.out) (symV hbel hsz rfl rfl (show 40 < 99 by decide) (Below.refl _ _) rfl)
    · intro A W hsz hoth hbel hdep
      exact kMoveV _ (.bool false) rfl rfl (by have h := hdep ⟨17, .data⟩ (by simp) rfl; exact h) (symV hbel hsz rfl rfl (show 41 < 99 by decide) (Below.refl _ _) rfl)
    · intro A W hsz hoth hbel hdep
      exact kMoveV _ (.pointer (some ⟨w3.heap.size, 0, none⟩)) rfl (wanted_of rfl rfl (by have h := hdep ⟨18, .guard⟩ (by simp) rfl; exact h)) ((hoth 7 (free2_of (by kernel_rfl))).trans rfl) (symV hbel hsz rfl rfl (show 42 < 99 by decide) (Below.refl _ _) rfl)
    · intro A W hsz hoth hbel hdep
      exact kMoveV _ (.pointer (some ⟨w3.heap.size, 0, none⟩)) rfl (wanted_of rfl rfl (by have h := hdep ⟨18, .guard⟩ (by simp) rfl; exact h)) ((hoth 7 (free2_of (by kernel_rfl))).trans rfl) (symV hbel hsz rfl rfl (show 43 < 99 by decide) (Below.refl _ _) rfl)
    · intro A W hsz hoth hbel hdep
      exact kLoadRow _ _ _ _ _ _ rfl (wanted_of rfl rfl (by have h := hdep ⟨18, .guard⟩ (by simp) rfl; exact h)) ((hoth 8 (free2_of (by kernel_rfl))).trans rfl) ((hM5.get 2 rfl).on hbel) Tryd.underlying25 rfl (info_WideC _) (symV hbel hsz rfl rfl (show 44 < 99 by decide) (Below.refl _ _) rfl)
    · intro A W hsz hoth hbel hdep
      exact kLoadRow _ _ _ _ _ _ rfl (wanted_of rfl rfl (by have h := hdep ⟨18, .guard⟩ (by simp) rfl; exact h)) ((hoth 9 (free2_of (by kernel_rfl))).trans rfl) ((hM5.get 1 rfl).on hbel) Tryd.underlying25 rfl (info_WideC _) (symV hbel hsz rfl rfl (show 45 < 99 by decide) (Below.refl _ _) rfl)
    · intro A W hsz hoth hbel hdep
      refine kCall3 21 _ _ _ _ _ _ _ rfl (wanted_of rfl rfl (by have h := hdep ⟨18, .chain⟩ (by simp) rfl; exact h)) (by kernel_rfl) (by have h := hdep ⟨20, .data⟩ (by simp) rfl; exact h) (by have h := hdep ⟨21, .data⟩ (by simp) rfl; exact h) (by have h := hdep ⟨22, .data⟩ (by simp) rfl; exact h) ?_
      refine (fAdd_as hm (w3.heap.size) mx my Hv46.out.symm W ((hM5.get 3 rfl).on hbel)).mono ?_
      rintro e r ⟨rfl, hBc⟩
      exact ⟨_, rfl, (symV hbel hsz rfl rfl (show 46 < 99 by decide) hBc rfl)⟩
    · intro A W hsz hoth hbel hdep
      exact kLoadRow _ _ _ _ _ _ rfl (wanted_of rfl rfl (by have h := hdep ⟨18, .guard⟩ (by simp) rfl; exact h)) ((hoth 9 (free2_of (by kernel_rfl))).trans rfl) ((hM5.get 1 rfl).on hbel) Tryd.underlying25 rfl (info_WideC _) (symV hbel hsz rfl rfl (show 47 < 99 by decide) (Below.refl _ _) rfl)
    · intro A W hsz hoth hbel hdep
      refine kCall3 23 _ _ _ _ _ _ _ rfl (wanted_of rfl rfl (by have h := hdep ⟨18, .guard⟩ (by simp) rfl; exact h)) (by kernel_rfl) (by have h := hdep ⟨19, .data⟩ (by simp) rfl; exact h) (by have h := hdep ⟨23, .data⟩ (by simp) rfl; exact h) (by have h := hdep ⟨24, .data⟩ (by simp) rfl; exact h) ?_
      refine (fSub_as hm (w3.heap.size) mv46 my Hv48.out W ((hM5.get 3 rfl).on hbel)).mono ?_
      rintro e r ⟨rfl, hBc⟩
      exact ⟨_, rfl, (symV hbel hsz rfl rfl (show 48 < 99 by decide) hBc rfl)⟩
    · intro A W hsz hoth hbel hdep
      exact kMoveV _ (.pointer (some ⟨w3.heap.size, 0, none⟩)) rfl (wanted_of rfl rfl (by have h := hdep ⟨18, .guard⟩ (by simp) rfl; exact h)) ((hoth 7 (free2_of (by kernel_rfl))).trans rfl) (symV hbel hsz rfl rfl (show 49 < 99 by decide) (Below.refl _ _) rfl)
    · intro A W hsz hoth hbel hdep
      exact kLoadRow _ _ _ _ _ _ rfl (wanted_of rfl rfl (by have h := hdep ⟨18, .guard⟩ (by simp) rfl; exact h)) ((hoth 8 (free2_of (by kernel_rfl))).trans rfl) ((hM5.get 2 rfl).on hbel) Tryd.underlying25 rfl (info_WideC _) (symV hbel hsz rfl rfl (show 50 < 99 by decide) (Below.refl _ _) rfl)
    · intro A W hsz hoth hbel hdep
      exact kBuildW0 rfl (wanted_of rfl rfl (by have h := hdep ⟨18, .guard⟩ (by simp) rfl; exact h)) (symV hbel hsz rfl rfl (show 51 < 99 by decide) (Below.refl _ _) rfl)
    · intro A W hsz hoth hbel hdep
      refine kCall3 30 _ _ _ _ _ _ _ rfl (wanted_of rfl rfl (by have h := hdep ⟨18, .guard⟩ (by simp) rfl; exact h)) (by kernel_rfl) (by have h := hdep ⟨26, .data⟩ (by simp) rfl; exact h) (by have h := hdep ⟨27, .data⟩ (by simp) rfl; exact h) (by have h := hdep ⟨28, .data⟩ (by simp) rfl; exact h) ?_
      refine (fFold_as hm (w3.heap.size) mx M256_pos Hv52.out W ((hM5.get 3 rfl).on hbel)).mono ?_
      rintro e r ⟨rfl, hBc⟩
      exact ⟨_, rfl, (symV hbel hsz rfl rfl (show 52 < 99 by decide) hBc rfl)⟩
    · intro A W hsz hoth hbel hdep
      exact kNeqW _ _ _ (v48) (v52) false rfl (wanted_of rfl rfl (by have h := hdep ⟨18, .guard⟩ (by simp) rfl; exact h)) (by have h := hdep ⟨25, .data⟩ (by simp) rfl; exact h) (by have h := hdep ⟨29, .data⟩ (by simp) rfl; exact h) (F53.out) (symV hbel hsz rfl rfl (show 53 < 99 by decide) (Below.refl _ _) rfl)
    · intro A W hsz hoth hbel hdep
      exact kPick _ _ _ false (.bool false) rfl rfl (by have h := hdep ⟨18, .data⟩ (by simp) rfl; exact h) (by have h := hdep ⟨30, .data⟩ (by simp) rfl; exact h) (symV hbel hsz rfl rfl (show 54 < 99 by decide) (Below.refl _ _) rfl)
    · intro A W hsz hoth hbel hdep
      exact kMoveV _ (.bool false) rfl rfl (by have h := hdep ⟨31, .data⟩ (by simp) rfl; exact h) (symV hbel hsz rfl rfl (show 55 < 99 by decide) (Below.refl _ _) rfl)
    · intro A W hsz hoth hbel hdep
      exact kMoveV _ (.pointer (some ⟨w3.heap.size, 0, none⟩)) rfl (wanted_of rfl rfl (by have h := hdep ⟨32, .guard⟩ (by simp) rfl; exact h)) ((hoth 7 (free2_of (by kernel_rfl))).trans rfl) (symV hbel hsz rfl rfl (show 56 < 99 by decide) (Below.refl _ _) rfl)
    · intro A W hsz hoth hbel hdep
      exact kLoadRow _ _ _ _ _ _ rfl (wanted_of rfl rfl (by have h := hdep ⟨32, .guard⟩ (by simp) rfl; exact h)) ((hoth 8 (free2_of (by kernel_rfl))).trans rfl) ((hM5.get 2 rfl).on hbel) Tryd.underlying25 rfl (info_WideC _) (symV hbel hsz rfl rfl (show 57 < 99 by decide) (Below.refl _ _) rfl)
    · intro A W hsz hoth hbel hdep
      exact kMoveV _ (.pointer (some ⟨w3.heap.size, 0, none⟩)) rfl (wanted_of rfl rfl (by have h := hdep ⟨32, .guard⟩ (by simp) rfl; exact h)) ((hoth 7 (free2_of (by kernel_rfl))).trans rfl) (symV hbel hsz rfl rfl (show 58 < 99 by decide) (Below.refl _ _) rfl)
    · intro A W hsz hoth hbel hdep
      exact kLoadRow _ _ _ _ _ _ rfl (wanted_of rfl rfl (by have h := hdep ⟨32, .guard⟩ (by simp) rfl; exact h)) ((hoth 9 (free2_of (by kernel_rfl))).trans rfl) ((hM5.get 1 rfl).on hbel) Tryd.underlying25 rfl (info_WideC _) (symV hbel hsz rfl rfl (show 59 < 99 by decide) (Below.refl _ _) rfl)
    · intro A W hsz hoth hbel hdep
      exact kLoadRow _ _ _ _ _ _ rfl (wanted_of rfl rfl (by have h := hdep ⟨32, .guard⟩ (by simp) rfl; exact h)) ((hoth 10 (free2_of (by kernel_rfl))).trans rfl) ((hM5.get 0 rfl).on hbel) Tryd.underlying25 rfl (info_WideC _) (symV hbel hsz rfl rfl (show 60 < 99 by decide) (Below.refl _ _) rfl)
    · intro A W hsz hoth hbel hdep
      refine kCall3 25 _ _ _ _ _ _ _ rfl (wanted_of rfl rfl (by have h := hdep ⟨32, .chain⟩ (by simp) rfl; exact h)) (by kernel_rfl) (by have h := hdep ⟨35, .data⟩ (by simp) rfl; exact h) (by have h := hdep ⟨36, .data⟩ (by simp) rfl; exact h) (by have h := hdep ⟨37, .data⟩ (by simp) rfl; exact h) ?_
      refine (fMul_as hm (w3.heap.size) my mz Hv61.out W ((hM5.get 3 rfl).on hbel)).mono ?_
      rintro e r ⟨rfl, hBc⟩
      exact ⟨_, rfl, (symV hbel hsz rfl rfl (show 61 < 99 by decide) hBc rfl)⟩
    · intro A W hsz hoth hbel hdep
      refine kCall3 25 _ _ _ _ _ _ _ rfl (wanted_of rfl rfl (by have h := hdep ⟨32, .guard⟩ (by simp) rfl; exact h)) (by kernel_rfl) (by have h := hdep ⟨33, .data⟩ (by simp) rfl; exact h) (by have h := hdep ⟨34, .data⟩ (by simp) rfl; exact h) (by have h := hdep ⟨38, .data⟩ (by simp) rfl; exact h) ?_
      refine (fMul_as hm (w3.heap.size) mx mv61 Hv62.out W ((hM5.get 3 rfl).on hbel)).mono ?_
      rintro e r ⟨rfl, hBc⟩
      exact ⟨_, rfl, (symV hbel hsz rfl rfl (show 62 < 99 by decide) hBc rfl)⟩
    · intro A W hsz hoth hbel hdep
      exact kMoveV _ (.pointer (some ⟨w3.heap.size, 0, none⟩)) rfl (wanted_of rfl rfl (by have h := hdep ⟨32, .guard⟩ (by simp) rfl; exact h)) ((hoth 7 (free2_of (by kernel_rfl))).trans rfl) (symV hbel hsz rfl rfl (show 63 < 99 by decide) (Below.refl _ _) rfl)
    · intro A W hsz hoth hbel hdep
      exact kMoveV _ (.pointer (some ⟨w3.heap.size, 0, none⟩)) rfl (wanted_of rfl rfl (by have h := hdep ⟨32, .guard⟩ (by simp) rfl; exact h)) ((hoth 7 (free2_of (by kernel_rfl))).trans rfl) (symV hbel hsz rfl rfl (show 64 < 99 by decide) (Below.refl _ _) rfl)
    · intro A W hsz hoth hbel hdep
      exact kLoadRow _ _ _ _ _ _ rfl (wanted_of rfl rfl (by have h := hdep ⟨32, .guard⟩ (by simp) rfl; exact h)) ((hoth 8 (free2_of (by kernel_rfl))).trans rfl) ((hM5.get 2 rfl).on hbel) Tryd.underlying25 rfl (info_WideC _) (symV hbel hsz rfl rfl (show 65 < 99 by decide) (Below.refl _ _) rfl)
    · intro A W hsz hoth hbel hdep
      exact kLoadRow _ _ _ _ _ _ rfl (wanted_of rfl rfl (by have h := hdep ⟨32, .guard⟩ (by simp) rfl; exact h)) ((hoth 9 (free2_of (by kernel_rfl))).trans rfl) ((hM5.get 1 rfl).on hbel) Tryd.underlying25 rfl (info_WideC _) (symV hbel hsz rfl rfl (show 66 < 99 by decide) (Below.refl _ _) rfl)
    · intro A W hsz hoth hbel hdep
      refine kCall3 25 _ _ _ _ _ _ _ rfl (wanted_of rfl rfl (by have h := hdep ⟨32, .guard⟩ (by simp) rfl; exact h)) (by kernel_rfl) (by have h := hdep ⟨41, .data⟩ (by simp) rfl; exact h) (by have h := hdep ⟨42, .data⟩ (by simp) rfl; exact h) (by have h := hdep ⟨43, .data⟩ (by simp) rfl; exact h) ?_
      refine (fMul_as hm (w3.heap.size) mx my Hv67.out W ((hM5.get 3 rfl).on hbel)).mono ?_
      rintro e r ⟨rfl, hBc⟩
      exact ⟨_, rfl, (symV hbel hsz rfl rfl (show 67 < 99 by decide) hBc rfl)⟩
    · intro A W hsz hoth hbel hdep
      exact kLoadRow _ _ _ _ _ _ rfl (wanted_of rfl rfl (by have h := hdep ⟨32, .guard⟩ (by simp) rfl; exact h)) ((hoth 10 (free2_of (by kernel_rfl))).trans rfl) ((hM5.get 0 rfl).on hbel) Tryd.underlying25 rfl (info_WideC _) (symV hbel hsz rfl rfl (show 68 < 99 by decide) (Below.refl _ _) rfl)
    · intro A W hsz hoth hbel hdep
      refine kCall3 25 _ _ _ _ _ _ _ rfl (wanted_of rfl rfl (by have h := hdep ⟨32, .guard⟩ (by simp) rfl; exact h)) (by kernel_rfl) (by have h := hdep ⟨40, .data⟩ (by simp) rfl; exact h) (by have h := hdep ⟨44, .data⟩ (by simp) rfl; exact h) (by have h := hdep ⟨45, .data⟩ (by simp) rfl; exact h) ?_
      refine (fMul_as hm (w3.heap.size) mv67 mz Hv69.out W ((hM5.get 3 rfl).on hbel)).mono ?_
      rintro e r ⟨rfl, hBc⟩
      exact ⟨_, rfl, (symV hbel hsz rfl rfl (show 69 < 99 by decide) hBc rfl)⟩
    · intro A W hsz hoth hbel hdep
      exact kNeqW _ _ _ (v62) (v69) false rfl (wanted_of rfl rfl (by have h := hdep ⟨32, .guard⟩ (by simp) rfl; exact h)) (by have h := hdep ⟨39, .data⟩ (by simp) rfl; exact h) (by have h := hdep ⟨46, .data⟩ (by simp) rfl; exact h) (F70.out) (symV hbel hsz rfl rfl (show 70 < 99 by decide) (Below.refl _ _) rfl)
    · intro A W hsz hoth hbel hdep
      exact kPick _ _ _ false (.bool false) rfl rfl (by have h := hdep ⟨32, .data⟩ (by simp) rfl; exact h) (by have h := hdep ⟨47, .data⟩ (by simp) rfl; exact h) (symV hbel hsz rfl rfl (show 71 < 99 by decide) (Below.refl _ _) rfl)
    intro w6 hB6
    dsimp only [AllV]
    dsimp only [putAll]
    go_frame
    have hM6 := hM5.on hB6
    clear hB6 hM5
    go_wp2_with (first
      | ((with_reducible change wpList _ _ _ (Oper.mk (some 74) _ _ _ _ _ :: _) _ _); refine kLoadRow _ _ _ _ _ _ rfl rfl rfl (hM6.get 0 rfl) Tryd.underlying25 rfl (info_WideC _) ?_; go_frame)
      | (go_at_call 12; (with_reducible change Calls _ _ #[Value.pointer (some ⟨w3.heap.size, 0, none⟩), Value.agg (wcells z)] _ _); refine (fInv_as hm (w3.heap.size) mz hz.out Hv75.out _ (hM6.get 3 rfl)).mono ?_; rintro e w7 ⟨rfl, hB7⟩; have hM7 := hM6.on hB7; clear hB7 hM6; (try unfold WV); go_frame)
      | ((with_reducible change wpList _ _ _ (Oper.mk (some 11) _ _ _ _ _ :: _) _ _); refine mmAlloc hM7 _ _ rfl rfl zero_Wide ?_; intro w8 hM8; clear hM7; go_frame)
      | ((with_reducible change wpList _ _ _ (Oper.mk none (Op.store _ (Operand.tmp 11) (Operand.tmp 76)) _ _ _ _ :: _) _ _); refine mmStoreAt hM8 0 _ _ _ _ _ _ (wcells v75) rfl rfl rfl rfl rfl (info_WideC _) (by simp only [wcells_size]) (wcells_one _) ?_; intro w9 hM9; dsimp only [List.set] at hM9; clear hM8; go_frame))
    refine region_sym (fun _ => 0) [.val (.int .i64 (0)), .val (.bool false), .val (.bool false), .val (.pointer (some ⟨w3.heap.size, 0, none⟩)), .val (.pointer (some ⟨w3.heap.size, 0, none⟩)), .val (.agg (wcells x)), .val (.agg (wcells z)), .val (.agg (wcells v85)), .val (.agg (wcells v75)), .val (.agg (wcells v87)), .val (.pointer (some ⟨w3.heap.size, 0, none⟩)), .val (.agg (wcells x)), .val (.agg (wcells 0)), .val (.agg (wcells v91)), .val (.bool true), .val (.bool true), .val (.pointer (some ⟨w3.heap.size, 0, none⟩)), .val (.agg (wcells v75)), .val (.bool true), .val (.bool true), .val (.bool true), .val (.bool true)] [.val (.int .i64 (0)), .val (.bool false), .val (.bool false), .val (.pointer (some ⟨w3.heap.size, 0, none⟩)), .val (.pointer (some ⟨w3.heap.size, 0, none⟩)), .val (.agg (wcells x)), .val (.agg (wcells z)), .val (.agg (wcells v85)), .val (.agg (wcells v75)), .val (.agg (wcells v87)), .val (.pointer (some ⟨w3.heap.size, 0, none⟩)), .val (.agg (wcells x)), .val (.agg (wcells 0)), .val (.agg (wcells v91)), .val (.bool true), .val (.bool true), .val (.pointer (some ⟨w3.heap.size, 0, none⟩)), .val (.agg (wcells v75)), .val (.bool true), .val (.bool true), .val (.bool true), .val (.bool true)] (by kernel_rfl) (by kernel_rfl) rfl rfl (steps_all ⟨?_, ?_, ?_, ?_, ?_, ?_, ?_, ?_, ?_, ?_, ?_, ?_, ?_, ?_, ?_, ?_, ?_, ?_, ?_, ?_, ?_, ?_, trivial⟩) ?_
    · intro A W hsz hoth hbel hdep
      exact kMoveV _ (.int .i64 (0)) rfl rfl ((hoth 12 (free2_of (by kernel_rfl))).trans rfl) (symV hbel hsz rfl rfl (show 78 < 99 by decide) (Below.refl _ _) rfl)
    · intro A W hsz hoth hbel hdep
      exact kNeqI _ _ _ _ .i64 (0) (0) false rfl rfl (by have h := hdep ⟨0, .data⟩ (by simp) rfl; exact h) rfl (by decide) (symV hbel hsz rfl rfl (show 79 < 99 by decide) (Below.refl _ _) rfl)
    · intro A W hsz hoth hbel hdep
      exact kMoveV _ (.bool false) rfl rfl (by have h := hdep ⟨1, .data⟩ (by simp) rfl; exact h) (symV hbel hsz rfl rfl (show 80 < 99 by decide) (Below.refl _ _) rfl)
    · intro A W hsz hoth hbel hdep
      exact kMoveV _ (.pointer (some ⟨w3.heap.size, 0, none⟩)) rfl (wanted_of rfl rfl (by have h := hdep ⟨2, .guard⟩ (by simp) rfl; exact h)) ((hoth 7 (free2_of (by kernel_rfl))).trans rfl) (symV hbel hsz rfl rfl (show 81 < 99 by decide) (Below.refl _ _) rfl)
    · intro A W hsz hoth hbel hdep
      exact kMoveV _ (.pointer (some ⟨w3.heap.size, 0, none⟩)) rfl (wanted_of rfl rfl (by have h := hdep ⟨2, .guard⟩ (by simp) rfl; exact h)) ((hoth 7 (free2_of (by kernel_rfl))).trans rfl) (symV hbel hsz rfl rfl (show 82 < 99 by decide) (Below.refl _ _) rfl)
    · intro A W hsz hoth hbel hdep
      exact kLoadRow _ _ _ _ _ _ rfl (wanted_of rfl rfl (by have h := hdep ⟨2, .guard⟩ (by simp) rfl; exact h)) ((hoth 8 (free2_of (by kernel_rfl))).trans rfl) ((hM9.get 3 rfl).on hbel) Tryd.underlying25 rfl (info_WideC _) (symV hbel hsz rfl rfl (show 83 < 99 by decide) (Below.refl _ _) rfl)
    · intro A W hsz hoth hbel hdep
      exact kLoadRow _ _ _ _ _ _ rfl (wanted_of rfl rfl (by have h := hdep ⟨2, .guard⟩ (by simp) rfl; exact h)) ((hoth 10 (free2_of (by kernel_rfl))).trans rfl) ((hM9.get 1 rfl).on hbel) Tryd.underlying25 rfl (info_WideC _) (symV hbel hsz rfl rfl (show 84 < 99 by decide) (Below.refl _ _) rfl)
    · intro A W hsz hoth hbel hdep
      refine kCall3 25 _ _ _ _ _ _ _ rfl (wanted_of rfl rfl (by have h := hdep ⟨2, .chain⟩ (by simp) rfl; exact h)) (by kernel_rfl) (by have h := hdep ⟨4, .data⟩ (by simp) rfl; exact h) (by have h := hdep ⟨5, .data⟩ (by simp) rfl; exact h) (by have h := hdep ⟨6, .data⟩ (by simp) rfl; exact h) ?_
      refine (fMul_as hm (w3.heap.size) mx mz Hv85.out W ((hM9.get 4 rfl).on hbel)).mono ?_
      rintro e r ⟨rfl, hBc⟩
      exact ⟨_, rfl, (symV hbel hsz rfl rfl (show 85 < 99 by decide) hBc rfl)⟩
    · intro A W hsz hoth hbel hdep
      exact kLoadRow _ _ _ _ _ _ rfl (wanted_of rfl rfl (by have h := hdep ⟨2, .guard⟩ (by simp) rfl; exact h)) ((hoth 11 (free2_of (by kernel_rfl))).trans rfl) ((hM9.get 0 rfl).on hbel) Tryd.underlying25 rfl (info_WideC _) (symV hbel hsz rfl rfl (show 86 < 99 by decide) (Below.refl _ _) rfl)
    · intro A W hsz hoth hbel hdep
      refine kCall3 25 _ _ _ _ _ _ _ rfl (wanted_of rfl rfl (by have h := hdep ⟨2, .guard⟩ (by simp) rfl; exact h)) (by kernel_rfl) (by have h := hdep ⟨3, .data⟩ (by simp) rfl; exact h) (by have h := hdep ⟨7, .data⟩ (by simp) rfl; exact h) (by have h := hdep ⟨8, .data⟩ (by simp) rfl; exact h) ?_
      refine (fMul_as hm (w3.heap.size) mv85 mv75 Hv87.out W ((hM9.get 4 rfl).on hbel)).mono ?_
      rintro e r ⟨rfl, hBc⟩
      exact ⟨_, rfl, (symV hbel hsz rfl rfl (show 87 < 99 by decide) hBc rfl)⟩
    · intro A W hsz hoth hbel hdep
      exact kMoveV _ (.pointer (some ⟨w3.heap.size, 0, none⟩)) rfl (wanted_of rfl rfl (by have h := hdep ⟨2, .guard⟩ (by simp) rfl; exact h)) ((hoth 7 (free2_of (by kernel_rfl))).trans rfl) (symV hbel hsz rfl rfl (show 88 < 99 by decide) (Below.refl _ _) rfl)
    · intro A W hsz hoth hbel hdep
      exact kLoadRow _ _ _ _ _ _ rfl (wanted_of rfl rfl (by have h := hdep ⟨2, .guard⟩ (by simp) rfl; exact h)) ((hoth 8 (free2_of (by kernel_rfl))).trans rfl) ((hM9.get 3 rfl).on hbel) Tryd.underlying25 rfl (info_WideC _) (symV hbel hsz rfl rfl (show 89 < 99 by decide) (Below.refl _ _) rfl)
    · intro A W hsz hoth hbel hdep
      exact kBuildW0 rfl (wanted_of rfl rfl (by have h := hdep ⟨2, .guard⟩ (by simp) rfl; exact h)) (symV hbel hsz rfl rfl (show 90 < 99 by decide) (Below.refl _ _) rfl)
    · intro A W hsz hoth hbel hdep
      refine kCall3 30 _ _ _ _ _ _ _ rfl (wanted_of rfl rfl (by have h := hdep ⟨2, .guard⟩ (by simp) rfl; exact h)) (by kernel_rfl) (by have h := hdep ⟨10, .data⟩ (by simp) rfl; exact h) (by have h := hdep ⟨11, .data⟩ (by simp) rfl; exact h) (by have h := hdep ⟨12, .data⟩ (by simp) rfl; exact h) ?_
      refine (fFold_as hm (w3.heap.size) mx M256_pos Hv91.out W ((hM9.get 4 rfl).on hbel)).mono ?_
      rintro e r ⟨rfl, hBc⟩
      exact ⟨_, rfl, (symV hbel hsz rfl rfl (show 91 < 99 by decide) hBc rfl)⟩
    · intro A W hsz hoth hbel hdep
      exact kEqlW _ _ _ (v87) (v91) true rfl (wanted_of rfl rfl (by have h := hdep ⟨2, .guard⟩ (by simp) rfl; exact h)) (by have h := hdep ⟨9, .data⟩ (by simp) rfl; exact h) (by have h := hdep ⟨13, .data⟩ (by simp) rfl; exact h) (F92.out) (symV hbel hsz rfl rfl (show 92 < 99 by decide) (Below.refl _ _) rfl)
    · intro A W hsz hoth hbel hdep
      exact kMoveV _ (.bool true) rfl (wanted_of rfl rfl (by have h := hdep ⟨2, .guard⟩ (by simp) rfl; exact h)) (by have h := hdep ⟨14, .data⟩ (by simp) rfl; exact h) (symV hbel hsz rfl rfl (show 93 < 99 by decide) (Below.refl _ _) rfl)
    · intro A W hsz hoth hbel hdep
      exact kMoveV _ (.pointer (some ⟨w3.heap.size, 0, none⟩)) rfl (wanted_of rfl rfl (by have h := hdep ⟨15, .guard⟩ (by simp) rfl; exact h)) ((hoth 7 (free2_of (by kernel_rfl))).trans rfl) (symV hbel hsz rfl rfl (show 94 < 99 by decide) (Below.refl _ _) rfl)
    · intro A W hsz hoth hbel hdep
      exact kLoadRow _ _ _ _ _ _ rfl (wanted_of rfl rfl (by have h := hdep ⟨15, .guard⟩ (by simp) rfl; exact h)) ((hoth 11 (free2_of (by kernel_rfl))).trans rfl) ((hM9.get 0 rfl).on hbel) Tryd.underlying25 rfl (info_WideC _) (symV hbel hsz rfl rfl (show 95 < 99 by decide) (Below.refl _ _) rfl)
    · intro A W hsz hoth hbel hdep
      refine kCall2 27 _ _ _ _ _ rfl (wanted_of rfl rfl (by have h := hdep ⟨15, .chain⟩ (by simp) rfl; exact h)) (by kernel_rfl) (by have h := hdep ⟨16, .data⟩ (by simp) rfl; exact h) (by have h := hdep ⟨17, .data⟩ (by simp) rfl; exact h) ?_
      refine (fIn_as hm (w3.heap.size) mv75 F96.out W ((hM9.get 4 rfl).on hbel)).mono ?_
      rintro e r ⟨rfl, hBc⟩
      exact ⟨_, rfl, (symV hbel hsz rfl rfl (show 96 < 99 by decide) hBc rfl)⟩
    · intro A W hsz hoth hbel hdep
      exact kPick _ _ _ true (.bool true) rfl (wanted_of rfl rfl (by have h := hdep ⟨2, .guard⟩ (by simp) rfl; exact h)) (by have h := hdep ⟨15, .data⟩ (by simp) rfl; exact h) (by have h := hdep ⟨18, .data⟩ (by simp) rfl; exact h) (symV hbel hsz rfl rfl (show 97 < 99 by decide) (Below.refl _ _) rfl)
    · intro A W hsz hoth hbel hdep
      exact kPick _ _ _ false (.bool true) rfl rfl (by have h := hdep ⟨2, .data⟩ (by simp) rfl; exact h) (by have h := hdep ⟨19, .data⟩ (by simp) rfl; exact h) (symV hbel hsz rfl rfl (show 98 < 99 by decide) (Below.refl _ _) rfl)
    · intro A W hsz hoth hbel hdep
      exact kAssignV _ (.bool true) rfl rfl (by have h := hdep ⟨20, .data⟩ (by simp) rfl; exact h) (symV hbel hsz rfl rfl (show 6 < 99 by decide) (Below.refl _ _) rfl)
    intro w10 hB10
    dsimp only [AllV]
    dsimp only [putAll]
    go_frame
    have hM10 := hM9.on hB10
    clear hB10 hM9
    go_wp2_with fail
    go_ret
    exact ⟨rfl, hM10.below⟩
end Go.Proofs.YtajpdmcbdekpbaaDoor
