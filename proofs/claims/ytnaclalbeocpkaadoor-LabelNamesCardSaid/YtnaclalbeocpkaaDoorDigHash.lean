/-
  The walk of digest's '(state).hash': eight numbers become 32 bytes, the highest byte of each number first.
-/
import Derived.Test.YtnaclalbeocpkaaDoorDigSched
namespace Go.Proofs.YtnaclalbeocpkaaDoor
open Go.RowKit

theorem info_state : (Tryd.prog.info? 86).map (·.size) = some 8 := by kernel_rfl
theorem info_Hash : (Tryd.prog.info? 59).map (·.size) = some 32 := by kernel_rfl
theorem zero_Hash : ((Tryd.prog.info? 59).bind (·.zero)).map Value.cells = some (tab 32 fun _ => VB 0) := by kernel_rfl

set_option maxRecDepth 100000 in
set_option maxHeartbeats 400000 in
theorem hash_any (l : List UInt32) (w : World) :
    Calls Tryd.prog 52 #[.agg (tab 8 fun j => V32 (at32 l j))] w fun e w' => e = .returned (.agg (tab 32 fun p => VB (hbyte l p))) ∧ Below w.heap.size w w' := by
  go_enter Tryd.func52, Tryd.ntmps52
  go_wp2_with (first
    | ((with_reducible change wpList _ _ _ (Oper.mk (some 1) _ _ _ _ _ :: _) _ _); refine kBox _ _ _ rfl rfl rfl ?_; intro w1 hR1 hs1 hB1)
    | ((with_reducible change wpList _ _ _ (Oper.mk (some 2) _ _ _ _ _ :: _) _ _); refine kAlloc _ _ rfl rfl zero_Hash ?_; intro w2 hR2 hs2 hB2)
    | ((with_reducible change wpList _ _ _ (Oper.mk (some 3) _ _ _ _ _ :: _) _ _); refine kAlloc _ _ rfl rfl zero_Hash ?_; intro w3 hR3 hs3 hB3)
    | ((with_reducible change wpList _ _ _ (Oper.mk (some 7) _ _ _ _ _ :: _) _ _); refine kLoadRow _ _ _ _ _ _ rfl rfl rfl ((hR1.below hB2 (by omega)).below hB3 (by omega)) Tryd.underlying86 rfl (by rw [tab_size]; exact info_state) ?_))
  rw [show w2.heap.size = w.heap.size + 1 + 1 by omega] at hR3 hB3
  have hR2' := hR2.below hB3 (by omega)
  rw [hs1] at hR2'
  have hB : Below w.heap.size w w3 := (hB1.trans (hB2.mono (by omega))).trans (hB3.mono (by omega))
  clear hR1 hR2 hB1 hB2 hB3 hs1 hs2 hs3
  go_loopw [8] (fun i wr => ∃ k : Nat, k ≤ 8 ∧ i = .int .i64 k ∧ Row wr (w.heap.size + 1 + 1) 59 (tab 32 fun p => VB (if p < 4 * k then hbyte l p else 0)) ∧ Below (w.heap.size + 2) w3 wr) (fun i _ => 8 - (intOf i).toNat)
  case atStart => exact ⟨0, by omega, rfl, hR3, Below.refl _ _⟩
  case round =>
    obtain ⟨k, hk, rfl, hR, hBr⟩ := hrel
    by_cases hlt : k < 8
    · have hd : decide ((k : Int) < 8) = true := by simp; omega
      go_wp2_with (first
        | ((with_reducible change wpList _ _ _ (Oper.mk (some 11) _ _ _ _ _ :: _) _ _); refine kIndex _ _ _ _ _ _ _ k _ _ _ rfl rfl rfl rfl Tryd.underlying86 Tryd.underlying84 rfl info_u32 rfl hlt (tab_get _ _ _ hlt) ?_))
      go_loopw [12] (fun i wq => ∃ j : Nat, j ≤ 4 ∧ i = .int .i64 j ∧ Row wq (w.heap.size + 1 + 1) 59 (tab 32 fun p => VB (if p < 4 * k + j then hbyte l p else 0)) ∧ Below (w.heap.size + 2) w3 wq) (fun i _ => 4 - (intOf i).toNat)
      case atStart => exact ⟨0, by omega, rfl, hR, hBr⟩
      case round =>
        obtain ⟨j, hj, rfl, hRq, hBq⟩ := hrel
        by_cases hlt2 : j < 4
        · have hsh : (24 - 8 * (j : Int)).toNat = 24 - 8 * j := by omega
          have hd2 : decide ((j : Int) < 4) = true := by simp; omega
          have hby := byte_shr (at32 l k) (24 - 8 * j)
          go_wp2_with (first
            | ((with_reducible change wpList _ _ _ (Oper.mk (some 25) _ _ _ _ _ :: _) _ _); refine kIndexAddr1 _ _ _ _ _ _ _ (4 * k + j) _ rfl rfl rfl rfl Tryd.underlying59 info_byte (by omega) (by omega) ?_)
            | ((with_reducible change wpList _ _ _ (Oper.mk none _ _ _ _ _ :: _) _ _); refine kStore1 _ _ _ _ _ _ _ (VB (hbyte l (4 * k + j))) rfl rfl rfl ?_ hRq info_byte (by rw [tab_size]; omega) rfl ?_; rotate_left; intro w5 hR5 hW5))
          · go_roundw
            case rel =>
              refine ⟨j + 1, by omega, by go_num, ?_, hBq.trans (hW5.below (by omega))⟩
              rw [tab_set (g := fun p => VB (if p < 4 * k + (j + 1) then hbyte l p else 0))] at hR5
              · exact hR5
              · intro p _
                by_cases hp : p = 4 * k + j
                · subst hp; rw [if_pos (by omega), if_pos rfl]
                · rw [if_neg hp]
                  by_cases hp2 : p < 4 * k + j
                  · rw [if_pos hp2, if_pos (by omega)]
                  · rw [if_neg hp2, if_neg (by omega)]
            case measure => simp [intOf]; omega
          · unfold hbyte
            rw [show (4 * k + j) / 4 = k by omega, show (4 * k + j) % 4 = j by omega]
        · obtain rfl : j = 4 := by omega
          rw [show 4 * k + 4 = 4 * (k + 1) by omega] at hRq
          go_wp2
          go_roundw
          case rel => exact ⟨k + 1, by omega, by go_num, hRq, hBq⟩
          case measure => simp [intOf]; omega
    · obtain rfl : k = 8 := by omega
      rw [tab_congr (g := fun p => VB (hbyte l p)) (fun p hp => by rw [if_pos (by omega)])] at hR
      have hR2q := hR2'.below hBr (by omega)
      have hb : Below w.heap.size w wr := hB.trans (hBr.mono (by omega))
      go_wp2_with (first
        | ((with_reducible change wpList _ _ _ (Oper.mk (some 28) _ _ _ _ _ :: _) _ _); refine kLoadRow _ _ _ _ _ _ rfl rfl rfl hR Tryd.underlying59 rfl (by rw [tab_size]; exact info_Hash) ?_)
        | ((with_reducible change wpList _ _ _ (Oper.mk none _ _ _ _ _ :: _) _ _); refine kStoreRow _ _ _ _ _ _ _ rfl rfl rfl rfl hR2q (by rw [tab_size]; exact info_Hash) (by rw [tab_size, tab_size]) (tab_one _ _ fun _ _ => rfl) ?_; intro w6 hR6 hW6))
      exact result_row Tryd.results52 rfl hR6 Tryd.underlying59 rfl (by rw [tab_size]; exact info_Hash) rfl ⟨rfl, hb.trans (hW6.below (by omega))⟩
end Go.Proofs.YtnaclalbeocpkaaDoor
