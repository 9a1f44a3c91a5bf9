/-
  Layer 7: the words that sum, on both sides: the runner's and the reference's.
-/
import Derived.Test.YtnaclalbeocpkaaGreatDoorScRefO
import Derived.Test.YtnaclalbeocpkaaGreatDoorScOps
import Derived.Test.YtnaclalbeocpkaaGreatDoorTwice
namespace Go.Proofs.YtnaclalbeocpkaaGreatDoor
open Go Go.RowKit

theorem zero_ShortE : ((Tryz.prog.info? 23).bind (·.zero)).map Value.cells = some (tab 20 fun _ => VB 0) := by kernel_rfl
theorem info_ShortE : (Tryz.prog.info? 23).map (·.size) = some 20 := by kernel_rfl
theorem tab_takeE (n : Nat) (l : List UInt8) (h : n ≤ l.length) : tab n (fun p => VB (at8 l p)) = ((l.take n).map VB).toArray := by
  unfold tab
  congr 1
  apply List.ext_getElem?
  intro i
  by_cases hi : i < n
  · rw [List.getElem?_map, List.getElem?_map, List.getElem?_range hi, List.getElem?_take, if_pos hi, List.getElem?_eq_getElem (by omega)]
    simp [at8, show i < l.length by omega]
  · rw [List.getElem?_eq_none (by simp; omega), List.getElem?_eq_none (by simp; omega)]
theorem ok_Hash : okT 33 := ⟨by decide, by decide, by decide⟩
theorem ok_Short : okT 23 := ⟨by decide, by decide, by decide⟩
theorem bv_row {w : World} {g : Nat} {T : TypeId} {l : List UInt8} (hT : okT T) (h : Row w g T (l.map VB).toArray) : BV w (.slice (some ⟨g, 0, none⟩) l.length l.length) l := by
  refine ⟨by have := isVals_lit h; rw [List.length_map] at this; exact this, fun a n c e hl => ?_⟩
  simp only [Value.slice.injEq, Option.some.injEq] at e
  rw [← e.1]
  exact ⟨_, _, _, h, hT⟩
set_option maxRecDepth 100000 in
set_option maxHeartbeats 8000000 in
theorem scChange_168 {base g n : Nat} {hs : List Value} {Gs : List (Nat × Obj)} {x : List UInt8} {st : List (List UInt8)} {ws : List Bool} (hKG : ∀ w, (∀ k o, (k, o) ∈ Gs → w.heap[k]? = some o) → Keys w) (w : World) (h : Rn base hs Gs w g ⟨x :: st, ws⟩ n) : Calls Tryz.prog 45 #[.pointer (some ⟨g, 0, none⟩), .int .u8 168] w (DoPost base hs Gs g n w (⟨(sha x).take 32 :: st, ws⟩, 0)) := by
  obtain ⟨i, hi, hz, hs1, hby⟩ := bysInfo
  have hxl := h.len
  have hsl : st.length < 5000 := by have := h.sl; simp at this; omega
  have hLl : ((sha x).take 32).length = 32 := by rw [List.length_take, sha_len]; rfl
  obtain ⟨L, hL⟩ : ∃ L, ((sha x).take 32) = L := ⟨_, rfl⟩
  have htab : tab 32 (fun p => VB (at8 (sha x) p)) = (L.map VB).toArray := by rw [← hL]; exact tab_takeE 32 _ (by rw [sha_len]; decide)
  rw [hL] at hLl ⊢
  have hgl : ∀ w, Rn base hs Gs w g ⟨st, ws⟩ n → Keys w := fun w hr => hKG w (fun k o ho => by obtain ⟨sv, bv, vs, hx⟩ := hr; exact (hx.gl k o ho).2)
  have hsum : ∀ w v, Keys w → AreLists w v [x] → Calls Tryz.prog 55 #[v] w fun e w' => e = .returned (.agg (L.map VB).toArray) ∧ Below w.heap.size w w' := fun w v hK hv => by
    have := Sum_any [x] v w hK hv (by simp) (by simp; omega)
    rw [show [x].flatten = x by simp, htab] at this; exact this
  clear hL htab
  go_enter Tryz.func45, Tryz.ntmps45
  go_wp2_with (first
    | (go_at_call 42; refine (scPop_any _ h).mono ?_; rintro e w1 ⟨v1, rfl, hV1, hR1, hF1⟩; go_frame)
    | ((with_reducible change wpList _ _ _ (Oper.mk (some 63) _ _ _ _ _ :: _) _ _); refine kBuildSlice1 _ _ _ v1 rfl rfl Tryz.underlying40 i _ hi hz hs1 rfl (vals_oneS hV1.vals) ?_; intro w2 hRr hzz hB2; clear hzz; have hLs := areLists_one hRr (hV1.vals.below hB2); clear hRr hV1; have hR2 := hR1.below hB2; have hF2 := hF1.trans (fr_below hB2 hR1.le); clear hR1 hF1 hB2; go_frame)
    | (go_at_call 55; refine (hsum _ _ (hgl _ hR2) hLs).mono ?_; rintro e w3 ⟨rfl, hB3⟩; clear hsum hLs; have hR3 := hR2.below hB3; have hF3 := hF2.trans (fr_below hB3 hR2.le); clear hR2 hF2 hB3; go_frame)
    | ((with_reducible change wpList _ _ _ (Oper.mk (some 7) _ _ _ _ _ :: _) _ _); refine kAlloc _ _ rfl rfl zero_Hash ?_; intro w4 hX4 hzz hB4; clear hzz; go_frame)
    | ((with_reducible change wpList _ _ _ (Oper.mk none (Op.store _ (Operand.tmp 7) _) _ _ _ _ :: _) _ _); refine kStoreRow _ _ _ _ _ _ _ rfl rfl rfl rfl hX4 (by rw [info_Hash]; simp [hLl]) (by rw [tab_size]; simp [hLl]) (by intro u hu; simp at hu; obtain ⟨z, -, rfl⟩ := hu; rfl) ?_; intro w5 hX5 hW5; have hB5 := hB4.trans (hW5.below (Nat.le_refl _)); have hR5 := hR3.below hB5; have hF5 := hF3.trans (fr_below hB5 hR3.le); have hV5 := bv_row ok_Hash hX5; rw [hLl] at hV5; clear hR3 hF3 hX4 hW5 hB4 hB5; go_frame)
    | ((with_reducible change wpList _ _ _ (Oper.mk (some 66) _ _ _ _ _ :: _) _ _); refine kSliceArrAll _ _ 32 _ rfl rfl Tryz.underlying33 info_b8P _ 0 rfl ?_; go_frame)
    | (go_at_call 41; refine (scPushP_any _ hR5 hV5 (by omega) hsl).mono ?_; rintro e w6 ⟨rfl, hR6, hF6⟩; go_frame))
  go_ret
  exact ⟨rfl, fun _ => hR6, hF5.trans hF6⟩
set_option maxRecDepth 100000 in
set_option maxHeartbeats 8000000 in
theorem scChange_169 {base g n : Nat} {hs : List Value} {Gs : List (Nat × Obj)} {x : List UInt8} {st : List (List UInt8)} {ws : List Bool} (hKG : ∀ w, (∀ k o, (k, o) ∈ Gs → w.heap[k]? = some o) → Keys w) (w : World) (h : Rn base hs Gs w g ⟨x :: st, ws⟩ n) : Calls Tryz.prog 45 #[.pointer (some ⟨g, 0, none⟩), .int .u8 169] w (DoPost base hs Gs g n w (⟨(sha (sha x)).take 20 :: st, ws⟩, 0)) := by
  obtain ⟨i, hi, hz, hs1, hby⟩ := bysInfo
  have hxl := h.len
  have hsl : st.length < 5000 := by have := h.sl; simp at this; omega
  have hLl : ((sha (sha x)).take 20).length = 20 := by rw [List.length_take, sha_len]; rfl
  obtain ⟨L, hL⟩ : ∃ L, ((sha (sha x)).take 20) = L := ⟨_, rfl⟩
  have htab : tab 20 (fun p => VB (at8 (sha (sha x)) p)) = (L.map VB).toArray := by rw [← hL]; exact tab_takeE 20 _ (by rw [sha_len]; decide)
  rw [hL] at hLl ⊢
  have hgl : ∀ w, Rn base hs Gs w g ⟨st, ws⟩ n → Keys w := fun w hr => hKG w (fun k o ho => by obtain ⟨sv, bv, vs, hx⟩ := hr; exact (hx.gl k o ho).2)
  have hsum : ∀ w v, Keys w → AreLists w v [x] → Calls Tryz.prog 56 #[v] w fun e w' => e = .returned (.agg (L.map VB).toArray) ∧ Below w.heap.size w w' := fun w v hK hv => by
    have := Short_any [x] v w hK hv (by simp) (by simp; omega)
    rw [show [x].flatten = x by simp, htab] at this; exact this
  clear hL htab
  go_enter Tryz.func45, Tryz.ntmps45
  go_wp2_with (first
    | (go_at_call 42; refine (scPop_any _ h).mono ?_; rintro e w1 ⟨v1, rfl, hV1, hR1, hF1⟩; go_frame)
    | ((with_reducible change wpList _ _ _ (Oper.mk (some 72) _ _ _ _ _ :: _) _ _); refine kBuildSlice1 _ _ _ v1 rfl rfl Tryz.underlying40 i _ hi hz hs1 rfl (vals_oneS hV1.vals) ?_; intro w2 hRr hzz hB2; clear hzz; have hLs := areLists_one hRr (hV1.vals.below hB2); clear hRr hV1; have hR2 := hR1.below hB2; have hF2 := hF1.trans (fr_below hB2 hR1.le); clear hR1 hF1 hB2; go_frame)
    | (go_at_call 56; refine (hsum _ _ (hgl _ hR2) hLs).mono ?_; rintro e w3 ⟨rfl, hB3⟩; clear hsum hLs; have hR3 := hR2.below hB3; have hF3 := hF2.trans (fr_below hB3 hR2.le); clear hR2 hF2 hB3; go_frame)
    | ((with_reducible change wpList _ _ _ (Oper.mk (some 8) _ _ _ _ _ :: _) _ _); refine kAlloc _ _ rfl rfl zero_ShortE ?_; intro w4 hX4 hzz hB4; clear hzz; go_frame)
    | ((with_reducible change wpList _ _ _ (Oper.mk none (Op.store _ (Operand.tmp 8) _) _ _ _ _ :: _) _ _); refine kStoreRow _ _ _ _ _ _ _ rfl rfl rfl rfl hX4 (by rw [info_ShortE]; simp [hLl]) (by rw [tab_size]; simp [hLl]) (by intro u hu; simp at hu; obtain ⟨z, -, rfl⟩ := hu; rfl) ?_; intro w5 hX5 hW5; have hB5 := hB4.trans (hW5.below (Nat.le_refl _)); have hR5 := hR3.below hB5; have hF5 := hF3.trans (fr_below hB5 hR3.le); have hV5 := bv_row ok_Short hX5; rw [hLl] at hV5; clear hR3 hF3 hX4 hW5 hB4 hB5; go_frame)
    | ((with_reducible change wpList _ _ _ (Oper.mk (some 75) _ _ _ _ _ :: _) _ _); refine kSliceArrAll _ _ 20 _ rfl rfl Tryz.underlying23 info_b8P _ 0 rfl ?_; go_frame)
    | (go_at_call 41; refine (scPushP_any _ hR5 hV5 (by omega) hsl).mono ?_; rintro e w6 ⟨rfl, hR6, hF6⟩; go_frame))
  go_ret
  exact ⟨rfl, fun _ => hR6, hF5.trans hF6⟩
end Go.Proofs.YtnaclalbeocpkaaGreatDoor
