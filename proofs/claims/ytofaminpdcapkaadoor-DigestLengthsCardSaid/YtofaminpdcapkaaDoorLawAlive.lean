/-
  The walk of the statements' own 'digestAlive', and what the plain sum says of nothing and of three letters, by the kernel.
-/
import Derived.Test.YtofaminpdcapkaaDoorDigText
import Derived.Test.YtofaminpdcapkaaDoorKitEq
namespace Go.Proofs.YtofaminpdcapkaaDoor
open Go.RowKit

set_option maxRecDepth 100000 in
theorem sha_nil : B (at8 (sha []) 0) = 227 ∧ B (at8 (sha []) 1) = 176 ∧ B (at8 (sha []) 2) = 196 ∧ B (at8 (sha []) 3) = 66 := by decide +kernel
set_option maxRecDepth 100000 in
theorem sha_abc : textTo (sha [97, 98, 99]) 32 = [97, 100, 49, 53, 48, 48, 102, 50, 54, 49, 102, 102, 49, 48, 98, 52, 57, 99, 55, 97, 49, 55, 57, 54, 97, 51, 54, 49, 48, 51, 98, 48, 50, 51, 50, 50, 97, 101, 53, 100, 100, 101, 52, 48, 52, 49, 52, 49, 101, 97, 99, 102, 48, 49, 56, 102, 98, 102, 49, 54, 55, 56, 98, 97] := by decide +kernel

theorem bytesInfo0 : (Tryd.prog.info? 25).map (fun i => (i.zero, i.size)) = some (some (.slice none 0 0), 1) := by kernel_rfl
theorem bytesInfo : ∃ i, Tryd.prog.info? 25 = some i ∧ i.zero = some (.slice none 0 0) ∧ i.size = 1 := by
  have h := bytesInfo0
  cases hq : Tryd.prog.info? 25 with
  | none => rw [hq] at h; cases h
  | some i => rw [hq] at h; simp at h; exact ⟨i, rfl, h.1, h.2⟩
theorem areLists_one {w : World} {g : Nat} {E : TypeId} {x : Value} {l : List UInt8} (h : Row w g E #[x]) (hx : IsVals w x (l.map VB)) : AreLists w (.slice (some ⟨g, 0, none⟩) 1 1) [l] :=
  ⟨[x], rfl, isVals_lit (l := [x]) h, fun i y L h1 h2 => by
    match i, h1, h2 with
    | 0, h1, h2 => simp at h1 h2; subst h1; subst h2; exact hx⟩
theorem IsVals.one {w : World} {v : Value} {l : List Value} (h : IsVals w v l) : v.oneCell' = true := by
  obtain ⟨ao, c, rfl, _⟩ := h; rfl
theorem areLists_nil (w : World) : AreLists w (.slice none 0 0) [] := ⟨[], rfl, isVals_nil w, fun i x L h => by simp at h⟩

set_option maxRecDepth 100000 in
set_option maxHeartbeats 400000 in
theorem alive_any (w : World) (hK : Keys w) :
    Calls Tryd.prog 10 #[] w fun e w' => e = .returned (.bool true) ∧ Below w.heap.size w w' := by
  obtain ⟨e0, e1, e2, e3⟩ := sha_nil
  go_enter Tryd.func10, Tryd.ntmps10
  go_wp2_with (first
    | (go_at_call 9; refine (Sum_any [] _ _ hK (areLists_nil _) (by decide) (by decide)).mono ?_; rintro e w1 ⟨rfl, hB1⟩)
    | ((with_reducible change wpList _ _ _ (Oper.mk (some 1) _ _ _ _ _ :: _) _ _); refine kAlloc _ _ rfl rfl zero_Hash ?_; intro w2 hR2 hz2 hB2)
    | ((with_reducible change wpList _ _ _ (Oper.mk none _ _ _ _ _ :: _) _ _); refine kStoreRow _ _ _ _ _ _ (tab 32 fun p => VB (at8 (sha []) p)) rfl rfl rfl rfl hR2 (by rw [tab_size]; exact info_Hash) (by rw [tab_size, tab_size]) (tab_one _ _ fun _ _ => rfl) ?_; intro w3 hR3 hW3)
    | ((with_reducible change wpList _ _ _ (Oper.mk _ (Op.indexAddr _ _ _) _ _ _ _ :: _) _ _); refine kIndexAddr1 _ _ _ _ _ _ _ _ _ rfl rfl rfl rfl Tryd.underlying23 info_byte (Int.toNat_of_nonneg (by decide)).symm (by decide) ?_)
    | ((with_reducible change wpList _ _ _ (Oper.mk _ (Op.load 5 _) _ _ _ _ :: _) _ _); refine kLoad1 _ _ _ _ _ _ _ _ rfl rfl rfl hR3 Tryd.underlying5 rfl (tab_get _ _ _ (by decide)) ?_))
  go_ret
  exact ⟨rfl, (hB1.trans (hB2.mono hB1.size)).trans (hW3.below hB1.size)⟩

set_option maxRecDepth 100000 in
set_option maxHeartbeats 400000 in
theorem DigestNames_any (w : World) (hK : Keys w) :
    Calls Tryd.prog 3 #[] w fun e w' => e = .returned (.bool true) ∧ Below w.heap.size w w' := by
  obtain ⟨i, hi, hz, hs1, hby⟩ := byteInfo
  obtain ⟨ib, hib, hzb, hsb⟩ := bytesInfo
  go_enter Tryd.func3, Tryd.ntmps3
  go_wp2_with (first
    | ((with_reducible change wpList _ _ _ (Oper.mk (some 2) _ _ _ _ _ :: _) _ _); refine kBuildSlice3 _ _ _ _ _ (VB 97) (VB 98) (VB 99) rfl rfl Tryd.underlying25 i _ hi hz hs1 rfl rfl rfl rfl rfl rfl ?_; intro w1 hR1 hz1 hB1; have hv1 : IsVals w1 (.slice (some ⟨w.heap.size, 0, none⟩) 3 3) (([97, 98, 99] : List UInt8).map VB) := isVals_lit (l := [VB 97, VB 98, VB 99]) hR1)
    | ((with_reducible change wpList _ _ _ (Oper.mk (some 3) _ _ _ _ _ :: _) _ _); refine kConvSame _ _ _ _ _ _ _ rfl rfl rfl hR1 Tryd.underlying25 Tryd.underlying5 ?_; intro w2 hW2 hk2; have hv2 := hk2 _ _ hv1; clear hk2)
    | ((with_reducible change wpList _ _ _ (Oper.mk (some 4) _ _ _ _ _ :: _) _ _); refine kBuildSlice1 _ _ _ (.slice (some ⟨w.heap.size, 0, none⟩) 3 3) rfl rfl Tryd.underlying34 ib _ hib hzb hsb rfl rfl ?_; intro w3 hR3 hz3 hB3; have hB03 : Below w.heap.size w w3 := (hB1.trans (hW2.below (Nat.le_refl _))).trans (hB3.mono (by have := hW2.size; omega)))
    | (go_at_call 9; refine (Sum_any [[97, 98, 99]] _ _ (hK.below hB03) (areLists_one hR3 (hv2.below hB3)) (by decide) (by decide)).mono ?_; rintro e w4 ⟨rfl, hB4⟩)
    | ((with_reducible change wpList _ _ _ (Oper.mk (some 1) _ _ _ _ _ :: _) _ _); refine kAlloc _ _ rfl rfl zero_Hash ?_; intro w5 hR5 hz5 hB5)
    | ((with_reducible change wpList _ _ _ (Oper.mk none _ _ _ _ _ :: _) _ _); refine kStoreRow _ _ _ _ _ _ (tab 32 fun p => VB (at8 (sha [97, 98, 99]) p)) rfl rfl rfl rfl hR5 (by rw [tab_size]; exact info_Hash) (by rw [tab_size, tab_size]) (tab_one _ _ fun _ _ => rfl) ?_; intro w6 hR6 hW6; have hs6 := hW6.size; have hB06 : Below w.heap.size w w6 := ((hB03.trans (hB4.mono hB03.size)).trans (hB5.mono (Nat.le_trans hB03.size hB4.size))).trans (hW6.below (Nat.le_trans hB03.size hB4.size)))
    | (go_at_call 10; refine (alive_any _ (hK.below hB06)).mono ?_; rintro e w7 ⟨rfl, hB7⟩)
    | ((with_reducible change wpList _ _ _ (Oper.mk (some 12) _ _ _ _ _ :: _) _ _); refine kLoadRow _ _ _ _ _ _ rfl rfl rfl (hR6.below hB7 hR6.lt) Tryd.underlying23 rfl (by rw [tab_size]; exact info_Hash) ?_)
    | (go_at_call 11; refine (Text_any _ _).mono ?_; rintro e w8 ⟨rfl, hB8⟩; rw [sha_abc])
    | ((with_reducible change wpList _ _ _ (Oper.mk (some 14) _ _ _ _ _ :: _) _ _); refine kEqlStr _ _ _ _ _ _ true rfl rfl rfl rfl (by decide) ?_))
  go_ret
  exact ⟨rfl, ((hB06.trans (hB7.mono hB06.size)).trans (hB8.mono (Nat.le_trans hB06.size hB7.size)))⟩
end Go.Proofs.YtofaminpdcapkaaDoor
