/-
  The walks of Twice and Short, the program's and the reference's.
-/
import Derived.Test.YtdeggdmoijfhdaaDoorLawAlive
import Derived.Test.YtdeggdmoijfhdaaDoorRefAll
import Derived.Laws.Cover3
namespace Go.Proofs.YtdeggdmoijfhdaaDoor
open Go Go.RowKit

theorem sha_len (L : List UInt8) : (sha L).length = 32 := by unfold sha St.bytes; simp
theorem tab_list (l : List UInt8) (n : Nat) (h : l.length = n) : (tab n fun p => VB (at8 l p)) = (l.map VB).toArray := by
  subst h
  apply Array.ext_getElem?
  intro j
  by_cases hj : j < l.length
  · rw [tab_get _ _ _ hj]; simp [at8, hj]
  · rw [Array.getElem?_eq_none (by rw [tab_size]; omega), Array.getElem?_eq_none (by simp; omega)]
theorem row_vals {w : World} {g : Nat} {l : List UInt8} {n : Nat} {E : TypeId} (h : Row w g E (tab n fun p => VB (at8 l p))) (hl : l.length = n) : IsVals w (.slice (some ⟨g, 0, none⟩) n n) (l.map VB) := by
  rw [tab_list l n hl] at h
  have := isVals_lit h
  rw [List.length_map, hl] at this
  exact this
theorem tab_cut (f : Nat → Value) : (tab 32 f).extract 0 (0 + 20) = tab 20 f := by
  apply Array.ext_getElem?
  intro j
  rw [Array.getElem?_extract]
  by_cases hj : j < 20
  · rw [tab_get 20 f j hj, tab_size, if_pos (by omega), Nat.zero_add, tab_get 32 f j (by omega)]
  · rw [tab_size, if_neg (by omega), Array.getElem?_eq_none (by rw [tab_size]; omega)]

section
variable {P : Program} {ops : Array Oper} {Q : Exit → Act → World → Prop} {rest : List Oper} {o : Oper} {a : Act} {w : World}
theorem kArrayAt (arr e : TypeId) (x : Operand) (n : Nat) (ad : Option Addr) (len cap : Nat) (ho : o.op = .sliceToArrayPointer arr x) (hg : Region.wanted o (yielded ops a.tmps) = true) (hx : a.eval x = .slice ad len cap) (hu : P.underlying arr = some (.array n e)) (hn : n ≤ len)
    (h : wpList P ops Q rest (a.put o.dst (.pointer ad)) w) : wpList P ops Q (o :: rest) a w := by
  refine BigFrame.wpList_want hg fun K hK => ?_
  unfold Oper.wp execOp
  simp only [ho, hx, Sem.run_bind, run_arrayAt (P := P) w arr e n ad len cap hu hn, Result.andThen_ok, Sem.run_pure]
  exact hK _ _ h
end

set_option maxRecDepth 100000 in
set_option maxHeartbeats 400000 in
theorem Twice_any (Ls : List (List UInt8)) (v : Value) (w : World) (hK : Keys w) (hv : AreLists w v Ls) (hn : Ls.length ≤ 1000000) (hlen : Ls.flatten.length < 1000000000000) :
    Calls Tryd.prog 37 #[v] w fun e w' => e = .returned (.agg (tab 32 fun p => VB (at8 (sha (sha Ls.flatten)) p))) ∧ Below w.heap.size w w' := by
  obtain ⟨ib, hib, hzb, hsb⟩ := bytesInfo
  go_enter Tryd.func37, Tryd.ntmps37
  go_wp2_with (first
    | ((with_reducible change wpList _ _ _ (Oper.mk (some 2) _ _ _ _ _ :: _) _ _); refine kAlloc _ _ rfl rfl zero_Hash ?_; intro w1 hR1 hz1' hB1; have hz1 : w.heap.size + 1 ≤ w1.heap.size := (by omega); clear hz1')
    | (go_at_call 42; (with_reducible change Calls _ _ #[v] _ _); refine (Sum_any Ls _ _ (hK.below hB1) (hv.below hB1) hn hlen).mono ?_; rintro e w2 ⟨rfl, hB2⟩; have hs2 := hB2.size)
    | ((with_reducible change wpList _ _ _ (Oper.mk (some 3) _ _ _ _ _ :: _) _ _); refine kAlloc _ _ rfl rfl zero_Hash ?_; intro w3 hR3 hz3' hB3; have hz3 : w2.heap.size + 1 ≤ w3.heap.size := (by omega); clear hz3')
    | ((with_reducible change wpList _ _ _ (Oper.mk none (Op.store _ (Operand.tmp 3) _) _ _ _ _ :: _) _ _); refine kStoreRow _ _ _ _ _ _ _ rfl rfl rfl rfl hR3 (by rw [tab_size]; exact info_Hash) (by simp only [tab_size]) (tab_one _ _ fun _ _ => rfl) ?_; intro w4 hR4 hW4; have hs4 : w3.heap.size ≤ w4.heap.size := (by have := hW4.size; omega))
    | ((with_reducible change wpList _ _ _ (Oper.mk (some 6) _ _ _ _ _ :: _) _ _); refine kSliceArrAll _ _ _ _ rfl rfl Tryd.underlying24 info_byte _ _ rfl ?_)
    | ((with_reducible change wpList _ _ _ (Oper.mk (some 7) _ _ _ _ _ :: _) _ _); refine kBuildSlice1 _ _ _ (.slice (some ⟨w2.heap.size, 0, none⟩) 32 32) rfl rfl Tryd.underlying71 ib _ hib hzb hsb rfl rfl ?_; intro w5 hR5 hz5' hB5; have hz5 : w4.heap.size + 1 ≤ w5.heap.size := (by omega); clear hz5'; have hB05 : Below w.heap.size w w5 := (((hB1.trans (hB2.mono (by omega))).trans (hB3.mono (by omega))).trans (hW4.below (by omega))).trans (hB5.mono (by omega)))
    | (go_at_call 42; refine (Sum_any [sha Ls.flatten] _ _ (hK.below hB05) (areLists_one hR5 ((row_vals hR4 (sha_len _)).below hB5)) (by simp) (by simp [sha_len])).mono ?_; rintro e w6 ⟨rfl, hB6⟩; have hs6 := hB6.size)
    | ((with_reducible change wpList _ _ _ (Oper.mk none (Op.store _ (Operand.tmp 2) _) _ _ _ _ :: _) _ _); refine kStoreRow _ _ _ _ _ _ _ rfl rfl rfl rfl (((hW4.row ((hR1.below hB2 (by omega)).below hB3 (by omega)) (by omega)).below hB5 (by omega)).below hB6 (by omega)) (by rw [tab_size]; exact info_Hash) (by simp only [tab_size]) (tab_one _ _ fun _ _ => rfl) ?_; intro w7 hR7 hW7))
  exact result_row Tryd.results37 rfl hR7 Tryd.underlying24 rfl (by rw [tab_size]; exact info_Hash) rfl ⟨by simp, (hB05.trans (hB6.mono (by omega))).trans (hW7.below (Nat.le_refl _))⟩

set_option maxRecDepth 100000 in
set_option maxHeartbeats 400000 in
theorem rTwice_any (L : List UInt8) (v : Value) (w : World) (hv : IsVals w v (L.map VB)) (hL : L.length ≤ 1000000) :
    Calls Tryd.prog 30 #[v] w fun e w' => e = .returned (.agg (tab 32 fun p => VB (at8 (sha (sha L)) p))) ∧ Below w.heap.size w w' := by
  go_enter Tryd.func30, Tryd.ntmps30
  go_wp2_with (first
    | ((with_reducible change wpList _ _ _ (Oper.mk (some 2) _ _ _ _ _ :: _) _ _); refine kAlloc _ _ rfl rfl zero_Hash ?_; intro w1 hR1 hz1' hB1; have hz1 : w.heap.size + 1 ≤ w1.heap.size := (by omega); clear hz1')
    | (go_at_call 40; (with_reducible change Calls _ _ #[v] _ _); refine (rSum_any L _ _ (hv.below hB1) hL).mono ?_; rintro e w2 ⟨rfl, hB2⟩; have hs2 := hB2.size)
    | ((with_reducible change wpList _ _ _ (Oper.mk (some 3) _ _ _ _ _ :: _) _ _); refine kAlloc _ _ rfl rfl zero_Hash ?_; intro w3 hR3 hz3' hB3; have hz3 : w2.heap.size + 1 ≤ w3.heap.size := (by omega); clear hz3')
    | ((with_reducible change wpList _ _ _ (Oper.mk none (Op.store _ (Operand.tmp 3) _) _ _ _ _ :: _) _ _); refine kStoreRow _ _ _ _ _ _ _ rfl rfl rfl rfl hR3 (by rw [tab_size]; exact info_Hash) (by simp only [tab_size]) (tab_one _ _ fun _ _ => rfl) ?_; intro w4 hR4 hW4; have hs4 : w3.heap.size ≤ w4.heap.size := (by have := hW4.size; omega); have hB04 : Below w.heap.size w w4 := ((hB1.trans (hB2.mono (by omega))).trans (hB3.mono (by omega))).trans (hW4.below (by omega)))
    | ((with_reducible change wpList _ _ _ (Oper.mk (some 6) _ _ _ _ _ :: _) _ _); refine kSliceArrAll _ _ _ _ rfl rfl Tryd.underlying24 info_byte _ _ rfl ?_)
    | (go_at_call 40; refine (rSum_any (sha L) _ _ (row_vals hR4 (sha_len _)) (by rw [sha_len]; decide)).mono ?_; rintro e w6 ⟨rfl, hB6⟩; have hs6 := hB6.size)
    | ((with_reducible change wpList _ _ _ (Oper.mk none (Op.store _ (Operand.tmp 2) _) _ _ _ _ :: _) _ _); refine kStoreRow _ _ _ _ _ _ _ rfl rfl rfl rfl ((hW4.row ((hR1.below hB2 (by omega)).below hB3 (by omega)) (by omega)).below hB6 (by omega)) (by rw [tab_size]; exact info_Hash) (by simp only [tab_size]) (tab_one _ _ fun _ _ => rfl) ?_; intro w7 hR7 hW7))
  exact result_row Tryd.results30 rfl hR7 Tryd.underlying24 rfl (by rw [tab_size]; exact info_Hash) rfl ⟨rfl, (hB04.trans (hB6.mono (by omega))).trans (hW7.below (Nat.le_refl _))⟩

end Go.Proofs.YtdeggdmoijfhdaaDoor
