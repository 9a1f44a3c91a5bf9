/-
  The walk of field's once: the modulus is taken away, if it is in the number.
-/
import Derived.Test.YtajpdmcbdekpbaaDoorFBase
namespace Go.Proofs.YtajpdmcbdekpbaaDoor
open Go Go.RowKit

theorem once_less {a m : Nat} (h : a < m) : a = a % m := (Nat.mod_eq_of_lt h).symm
theorem once_more {a m : Nat} (ha : a < M256) (hm : Modu m) (h : ¬ a < m) : wcells (a + M256 - m) = wcells (a % m) := by
  have h2 := hm.gt; have h1 := hm.lt
  rw [← wcells_mod, show a + M256 - m = a - m + M256 by omega, Nat.add_mod_right, wcells_mod, Nat.mod_eq_sub_mod (by omega), Nat.mod_eq_of_lt (show a - m < m by omega)]
set_option maxRecDepth 100000 in
set_option maxHeartbeats 4000000 in
theorem fonce_any {m : Nat} (hm : Modu m) (a : Nat) (g : Nat) (ma : a < M256) (w : World) (hr : Row w g 54 (wcells m)) :
    Calls Tryd.prog 37 #[.pointer (some ⟨g, 0, none⟩), WV a] w fun e w' => e = .returned (WV (a % m)) ∧ Below w.heap.size w w' := by
  have hM0 := mem_nil w
  unfold WV
  by_cases h : a < m
  · have hd : decide (a < m) = true := by simpa using h
    have E := Lib.hid (once_less h)
    clear h
    go_enter Tryd.func37, Tryd.ntmps37
    go_wp2_with (first
      | ((with_reducible change wpList _ _ _ (Oper.mk (some 3) _ _ _ _ _ :: _) _ _); refine mBox hM0 _ _ rfl rfl rfl ?_; intro w1 hM1; clear hM0; go_frame)
      | ((with_reducible change wpList _ _ _ (Oper.mk (some 4) _ _ _ _ _ :: _) _ _); refine mAlloc hM1 rfl rfl ?_; intro w2 hM2; clear hM1; go_frame))
    refine region_sym (fun _ => 9) [.val (.agg (wcells a)), .val (.pointer (some ⟨g, 0, none⟩)), .val (.pointer (some ⟨g, 0, none⟩)), .val (.pointer (some ⟨g, 0, none⟩)), .val (.agg (wcells m)), .val (.tuple #[.agg (wcells (a + M256 - m)), .bool (decide (a < m))]), .val (.tuple #[.agg (wcells (a + M256 - m)), .bool (decide (a < m))]), .val (.agg (wcells (a + M256 - m))), .val (.bool (decide (a < m))), .fresh w2.heap.size 25 4, .hold w2.heap.size 25 (wcells (a + M256 - m)), .val (.bool (decide (a < m)))] [.val (.agg (wcells a)), .val (.pointer (some ⟨g, 0, none⟩)), .val (.pointer (some ⟨g, 0, none⟩)), .val (.pointer (some ⟨g, 0, none⟩)), .val (.agg (wcells m)), .val (.tuple #[.agg (wcells (a + M256 - m)), .bool (decide (a < m))]), .val (.tuple #[.agg (wcells (a + M256 - m)), .bool (decide (a < m))]), .val (.agg (wcells (a + M256 - m))), .val (.bool (decide (a < m))), .hold w2.heap.size 25 (wcells (a + M256 - m)), .val undef, .val (.bool (decide (a < m)))] (by kernel_rfl) (by kernel_rfl) rfl rfl (steps_all ⟨?_, ?_, ?_, ?_, ?_, ?_, ?_, ?_, ?_, ?_, ?_, ?_, trivial⟩) ?_
    · intro A W hsz hoth hbel hdep
      exact kLoadRow _ _ _ _ _ _ rfl rfl ((hoth 3 (free2_of (by kernel_rfl))).trans rfl) ((hM2.get 1 rfl).below hbel (hM2.get 1 rfl).lt) Tryd.underlying25 rfl (info_WideC _) (symV hbel hsz rfl rfl (show 8 < 19 by decide) (Below.refl _ _) rfl)
    · intro A W hsz hoth hbel hdep
      exact kMoveV _ (.pointer (some ⟨g, 0, none⟩)) rfl rfl ((hoth 0 (free2_of (by kernel_rfl))).trans rfl) (symV hbel hsz rfl rfl (show 9 < 19 by decide) (Below.refl _ _) rfl)
    · intro A W hsz hoth hbel hdep
      exact kNilCheck _ _ rfl rfl (by have h := hdep ⟨1, .data⟩ (by simp) rfl; exact h) (symV hbel hsz rfl rfl (show 10 < 19 by decide) (Below.refl _ _) rfl)
    · intro A W hsz hoth hbel hdep
      exact kFieldRing _ _ rfl rfl (by have h := hdep ⟨2, .data⟩ (by simp) rfl; exact h) (symV hbel hsz rfl rfl (show 11 < 19 by decide) (Below.refl _ _) rfl)
    · intro A W hsz hoth hbel hdep
      exact kLoadRow _ _ _ _ _ _ rfl rfl (by have h := hdep ⟨3, .data⟩ (by simp) rfl; exact h) ((hr.below hM2.below hr.lt).below hbel (hr.below hM2.below hr.lt).lt) Tryd.underlying25 rfl (info_WideC _) (symV hbel hsz rfl rfl (show 12 < 19 by decide) (Below.refl _ _) rfl)
    · intro A W hsz hoth hbel hdep
      refine kCall2 38 _ _ _ _ _ rfl rfl (by kernel_rfl) (by have h := hdep ⟨0, .data⟩ (by simp) rfl; exact h) (by have h := hdep ⟨4, .data⟩ (by simp) rfl; exact h) ?_
      refine (wSub_any a m ma hm.lt W).mono ?_
      rintro e r ⟨rfl, hBc⟩
      exact ⟨_, rfl, (symV hbel hsz rfl rfl (show 13 < 19 by decide) hBc rfl)⟩
    · intro A W hsz hoth hbel hdep
      exact kMoveV _ (.tuple #[.agg (wcells (a + M256 - m)), .bool (decide (a < m))]) rfl rfl (by have h := hdep ⟨5, .data⟩ (by simp) rfl; exact h) (symV hbel hsz rfl rfl (show 7 < 19 by decide) (Below.refl _ _) rfl)
    · intro A W hsz hoth hbel hdep
      exact kExtract _ _ _ (.agg (wcells (a + M256 - m))) rfl rfl (by have h := hdep ⟨6, .data⟩ (by simp) rfl; exact h) rfl (symV hbel hsz rfl rfl (show 14 < 19 by decide) (Below.refl _ _) rfl)
    · intro A W hsz hoth hbel hdep
      exact kExtract _ _ _ (.bool (decide (a < m))) rfl rfl (by have h := hdep ⟨6, .data⟩ (by simp) rfl; exact h) rfl (symV hbel hsz rfl rfl (show 15 < 19 by decide) (Below.refl _ _) rfl)
    · intro A W hsz hoth hbel hdep
      refine kAllocL _ _ rfl rfl zero_Wide ?_
      intro r hR hl hBc
      exact (symV hbel hsz rfl rfl (show 5 < 19 by decide) hBc ⟨_, _, rfl, hbel.size, wcells_size _, hR⟩)
    · intro A W hsz hoth hbel hdep
      obtain ⟨g, cs, d8, hg, hcs, hR⟩ : ∃ g cs, A.tmps.getD 5 undef = .pointer (some ⟨g, 0, none⟩) ∧ w2.heap.size ≤ g ∧ cs.size = 4 ∧ Row W g 25 cs := (by have h := hdep ⟨9, .data⟩ (by simp) rfl; exact h)
      refine kStoreRow _ _ _ _ _ _ (wcells (a + M256 - m)) rfl rfl d8 (by have h := hdep ⟨7, .data⟩ (by simp) rfl; exact h) hR (info_WideC _) (by rw [wcells_size, hcs]) (wcells_one _) ?_
      intro r hR2 hW
      exact symW hbel rfl hW hg hR2 (by simp only [Singles, and_self, wcells_size]) ⟨g, d8, hg, hR2⟩
    · intro A W hsz hoth hbel hdep
      exact kAssignV _ (.bool (decide (a < m))) rfl rfl (by have h := hdep ⟨8, .data⟩ (by simp) rfl; exact h) (symV hbel hsz rfl rfl (show 6 < 19 by decide) (Below.refl _ _) rfl)
    intro w3 hB3
    dsimp only [AllV]
    intro g3 hg3 hR3
    dsimp only [putAll]
    go_frame
    have hM3 := hM2.add hB3 hg3 hR3; clear hB3 hg3 hR3 hM2
    rw [hd]
    go_wp2_with (first
      | ((with_reducible change wpList _ _ _ (Oper.mk (some 17) _ _ _ _ _ :: _) _ _); refine mLoad hM3 2 _ _ _ rfl rfl rfl rfl ?_; go_frame)
      | ((with_reducible change wpList _ _ _ (Oper.mk none (Op.store _ (Operand.tmp 4) (Operand.tmp 17)) _ _ _ _ :: _) _ _); refine mStoreAt hM3 1 _ _ _ _ (a) rfl rfl rfl rfl rfl ?_; intro w4 hM4; dsimp only [List.set] at hM4; clear hM3; go_frame))
    exact result_row Tryd.results37 rfl (hM4.get 1 rfl) Tryd.underlying25 rfl (info_WideC _) rfl ⟨by rw [← E.out], hM4.below⟩
  · have hd : decide (a < m) = false := by simpa using h
    have E := Lib.hid (once_more ma hm h)
    clear h
    go_enter Tryd.func37, Tryd.ntmps37
    go_wp2_with (first
      | ((with_reducible change wpList _ _ _ (Oper.mk (some 3) _ _ _ _ _ :: _) _ _); refine mBox hM0 _ _ rfl rfl rfl ?_; intro w1 hM1; clear hM0; go_frame)
      | ((with_reducible change wpList _ _ _ (Oper.mk (some 4) _ _ _ _ _ :: _) _ _); refine mAlloc hM1 rfl rfl ?_; intro w2 hM2; clear hM1; go_frame))
    refine region_sym (fun _ => 9) [.val (.agg (wcells a)), .val (.pointer (some ⟨g, 0, none⟩)), .val (.pointer (some ⟨g, 0, none⟩)), .val (.pointer (some ⟨g, 0, none⟩)), .val (.agg (wcells m)), .val (.tuple #[.agg (wcells (a + M256 - m)), .bool (decide (a < m))]), .val (.tuple #[.agg (wcells (a + M256 - m)), .bool (decide (a < m))]), .val (.agg (wcells (a + M256 - m))), .val (.bool (decide (a < m))), .fresh w2.heap.size 25 4, .hold w2.heap.size 25 (wcells (a + M256 - m)), .val (.bool (decide (a < m)))] [.val (.agg (wcells a)), .val (.pointer (some ⟨g, 0, none⟩)), .val (.pointer (some ⟨g, 0, none⟩)), .val (.pointer (some ⟨g, 0, none⟩)), .val (.agg (wcells m)), .val (.tuple #[.agg (wcells (a + M256 - m)), .bool (decide (a < m))]), .val (.tuple #[.agg (wcells (a + M256 - m)), .bool (decide (a < m))]), .val (.agg (wcells (a + M256 - m))), .val (.bool (decide (a < m))), .hold w2.heap.size 25 (wcells (a + M256 - m)), .val undef, .val (.bool (decide (a < m)))] (by kernel_rfl) (by kernel_rfl) rfl rfl (steps_all ⟨?_, ?_, ?_, ?_, ?_, ?_, ?_, ?_, ?_, ?_, ?_, ?_, trivial⟩) ?_
    · intro A W hsz hoth hbel hdep
      exact kLoadRow _ _ _ _ _ _ rfl rfl ((hoth 3 (free2_of (by kernel_rfl))).trans rfl) ((hM2.get 1 rfl).below hbel (hM2.get 1 rfl).lt) Tryd.underlying25 rfl (info_WideC _) (symV hbel hsz rfl rfl (show 8 < 19 by decide) (Below.refl _ _) rfl)
    · intro A W hsz hoth hbel hdep
      exact kMoveV _ (.pointer (some ⟨g, 0, none⟩)) rfl rfl ((hoth 0 (free2_of (by kernel_rfl))).trans rfl) (symV hbel hsz rfl rfl (show 9 < 19 by decide) (Below.refl _ _) rfl)
    · intro A W hsz hoth hbel hdep
      exact kNilCheck _ _ rfl rfl (by have h := hdep ⟨1, .data⟩ (by simp) rfl; exact h) (symV hbel hsz rfl rfl (show 10 < 19 by decide) (Below.refl _ _) rfl)
    · intro A W hsz hoth hbel hdep
      exact kFieldRing _ _ rfl rfl (by have h := hdep ⟨2, .data⟩ (by simp) rfl; exact h) (symV hbel hsz rfl rfl (show 11 < 19 by decide) (Below.refl _ _) rfl)
    · intro A W hsz hoth hbel hdep
      exact kLoadRow _ _ _ _ _ _ rfl rfl (by have h := hdep ⟨3, .data⟩ (by simp) rfl; exact h) ((hr.below hM2.below hr.lt).below hbel (hr.below hM2.below hr.lt).lt) Tryd.underlying25 rfl (info_WideC _) (symV hbel hsz rfl rfl (show 12 < 19 by decide) (Below.refl _ _) rfl)
    · intro A W hsz hoth hbel hdep
      refine kCall2 38 _ _ _ _ _ rfl rfl (by kernel_rfl) (by have h := hdep ⟨0, .data⟩ (by simp) rfl; exact h) (by have h := hdep ⟨4, .data⟩ (by simp) rfl; exact h) ?_
      refine (wSub_any a m ma hm.lt W).mono ?_
      rintro e r ⟨rfl, hBc⟩
      exact ⟨_, rfl, (symV hbel hsz rfl rfl (show 13 < 19 by decide) hBc rfl)⟩
    · intro A W hsz hoth hbel hdep
      exact kMoveV _ (.tuple #[.agg (wcells (a + M256 - m)), .bool (decide (a < m))]) rfl rfl (by have h := hdep ⟨5, .data⟩ (by simp) rfl; exact h) (symV hbel hsz rfl rfl (show 7 < 19 by decide) (Below.refl _ _) rfl)
    · intro A W hsz hoth hbel hdep
      exact kExtract _ _ _ (.agg (wcells (a + M256 - m))) rfl rfl (by have h := hdep ⟨6, .data⟩ (by simp) rfl; exact h) rfl (symV hbel hsz rfl rfl (show 14 < 19 by decide) (Below.refl _ _) rfl)
    · intro A W hsz hoth hbel hdep
      exact kExtract _ _ _ (.bool (decide (a < m))) rfl rfl (by have h := hdep ⟨6, .data⟩ (by simp) rfl; exact h) rfl (symV hbel hsz rfl rfl (show 15 < 19 by decide) (Below.refl _ _) rfl)
    · intro A W hsz hoth hbel hdep
      refine kAllocL _ _ rfl rfl zero_Wide ?_
      intro r hR hl hBc
      exact (symV hbel hsz rfl rfl (show 5 < 19 by decide) hBc ⟨_, _, rfl, hbel.size, wcells_size _, hR⟩)
    · intro A W hsz hoth hbel hdep
      obtain ⟨g, cs, d8, hg, hcs, hR⟩ : ∃ g cs, A.tmps.getD 5 undef = .pointer (some ⟨g, 0, none⟩) ∧ w2.heap.size ≤ g ∧ cs.size = 4 ∧ Row W g 25 cs := (by have h := hdep ⟨9, .data⟩ (by simp) rfl; exact h)
      refine kStoreRow _ _ _ _ _ _ (wcells (a + M256 - m)) rfl rfl d8 (by have h := hdep ⟨7, .data⟩ (by simp) rfl; exact h) hR (info_WideC _) (by rw [wcells_size, hcs]) (wcells_one _) ?_
      intro r hR2 hW
      exact symW hbel rfl hW hg hR2 (by simp only [Singles, and_self, wcells_size]) ⟨g, d8, hg, hR2⟩
    · intro A W hsz hoth hbel hdep
      exact kAssignV _ (.bool (decide (a < m))) rfl rfl (by have h := hdep ⟨8, .data⟩ (by simp) rfl; exact h) (symV hbel hsz rfl rfl (show 6 < 19 by decide) (Below.refl _ _) rfl)
    intro w3 hB3
    dsimp only [AllV]
    intro g3 hg3 hR3
    dsimp only [putAll]
    go_frame
    have hM3 := hM2.add hB3 hg3 hR3; clear hB3 hg3 hR3 hM2
    rw [hd]
    go_wp2_with (first
      | ((with_reducible change wpList _ _ _ (Oper.mk (some 18) _ _ _ _ _ :: _) _ _); refine mLoad hM3 0 _ _ _ rfl rfl rfl rfl ?_; go_frame)
      | ((with_reducible change wpList _ _ _ (Oper.mk none (Op.store _ (Operand.tmp 4) (Operand.tmp 18)) _ _ _ _ :: _) _ _); refine mStoreAt hM3 1 _ _ _ _ (a + M256 - m) rfl rfl rfl rfl rfl ?_; intro w4 hM4; dsimp only [List.set] at hM4; clear hM3; go_frame))
    exact result_row Tryd.results37 rfl (hM4.get 1 rfl) Tryd.underlying25 rfl (info_WideC _) rfl ⟨by rw [← E.out], hM4.below⟩
end Go.Proofs.YtajpdmcbdekpbaaDoor
