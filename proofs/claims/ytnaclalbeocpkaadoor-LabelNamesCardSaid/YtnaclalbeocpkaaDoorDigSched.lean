/-
  The walk of digest's 'schedule': 64 bytes become the row of 64 numbers.
-/
import Derived.Test.YtnaclalbeocpkaaDoorDigBits
import Derived.Test.YtnaclalbeocpkaaDoorKitAll
import Derived.Maps.RangeWalk
namespace Go.Proofs.YtnaclalbeocpkaaDoor
open Go.RowKit

theorem info_arr64 : (Tryd.prog.info? 97).map (·.size) = some 64 := by kernel_rfl
theorem info_block : (Tryd.prog.info? 89).map (·.size) = some 64 := by kernel_rfl
theorem info_u32 : (Tryd.prog.info? 84).map (·.size) = some 1 := by kernel_rfl
theorem zero_arr64 : ((Tryd.prog.info? 97).bind (·.zero)).map Value.cells = some (tab 64 fun _ => V32 0) := by kernel_rfl

theorem info_byte : (Tryd.prog.info? 5).map (·.size) = some 1 := by kernel_rfl

set_option maxRecDepth 100000 in
set_option maxHeartbeats 400000 in
theorem schedule_any (bs : List UInt8) (hbs : bs.length = 64) (w : World) :
    Calls Tryd.prog 57 #[.agg (tab 64 fun j => VB (at8 bs j))] w fun e w' => e = .returned (.agg (tab 64 fun j => V32 (at32 (sched bs) j))) ∧ Below w.heap.size w w' := by
  go_enter Tryd.func57, Tryd.ntmps57
  go_wp2_with (first
    | ((with_reducible change wpList _ _ _ (Oper.mk (some 1) _ _ _ _ _ :: _) _ _); refine kBox _ _ _ rfl rfl rfl ?_; intro w1 hR1 hs1 hB1)
    | ((with_reducible change wpList _ _ _ (Oper.mk (some 2) _ _ _ _ _ :: _) _ _); refine kAlloc _ _ rfl rfl zero_arr64 ?_; intro w2 hR2 hs2 hB2)
    | ((with_reducible change wpList _ _ _ (Oper.mk (some 3) _ _ _ _ _ :: _) _ _); refine kAlloc _ _ rfl rfl zero_arr64 ?_; intro w3 hR3 hs3 hB3)
    | ((with_reducible change wpList _ _ _ (Oper.mk (some 7) _ _ _ _ _ :: _) _ _); refine kLoadRow _ _ _ _ _ _ rfl rfl rfl ((hR1.below hB2 (by omega)).below hB3 (by omega)) Tryd.underlying89 rfl (by rw [tab_size]; exact info_block) ?_))
  have hsz : w3.heap.size = w.heap.size + 3 := by omega
  rw [show w2.heap.size = w.heap.size + 1 + 1 by omega] at hR3 hB3
  have hR2' := hR2.below hB3 (by omega)
  rw [hs1] at hR2'
  have hB : Below w.heap.size w w3 := (hB1.trans (hB2.mono (by omega))).trans (hB3.mono (by omega))
  clear hR1 hR2 hB1 hB2 hB3 hs1 hs2 hs3
  go_loopw [8] (fun i wr => ∃ k : Nat, k ≤ 64 ∧ i = .int .i64 k ∧ Row wr (w.heap.size + 1 + 1) 97 (tab 64 fun j => V32 (part bs k j)) ∧ Below (w.heap.size + 2) w3 wr ∧ wr.heap.size = w3.heap.size) (fun i _ => 64 - (intOf i).toNat)
  case atStart => exact ⟨0, by omega, rfl, by simpa [part_zero] using hR3, Below.refl _ _, rfl⟩
  case round =>
    obtain ⟨k, hk, rfl, hR, hBr, hsr⟩ := hrel
    have Hsr := Lib.hid hsr
    have Hsz := Lib.hid hsz
    clear hsr hsz
    by_cases hlt : k < 64
    · go_wp2_with (first
        | ((with_reducible change wpList _ _ _ (Oper.mk (some 11) _ _ _ _ _ :: _) _ _); refine kIndex _ _ _ _ _ _ _ k _ _ _ rfl rfl rfl rfl Tryd.underlying89 Tryd.underlying5 rfl info_byte rfl hlt (tab_get _ _ _ hlt) ?_)
        | ((with_reducible change wpList _ _ _ (Oper.mk (some 16) _ _ _ _ _ :: _) _ _); refine kIndexAddr1 _ _ _ _ _ _ _ (k / 4) _ rfl rfl rfl rfl Tryd.underlying97 info_u32 (by omega) (by omega) ?_)
        | ((with_reducible change wpList _ _ _ (Oper.mk (some 22) _ _ _ _ _ :: _) _ _); refine kIndexAddr1 _ _ _ _ _ _ _ (k / 4) _ rfl rfl rfl rfl Tryd.underlying97 info_u32 (by omega) (by omega) ?_)
        | ((with_reducible change wpList _ _ _ (Oper.mk (some 17) _ _ _ _ _ :: _) _ _); refine kLoad1 _ _ _ _ _ _ _ _ rfl rfl rfl hR Tryd.underlying84 rfl (tab_get _ _ _ (by omega)) ?_)
        | ((with_reducible change wpList _ _ _ (Oper.mk (none) _ _ _ _ _ :: _) _ _); refine kStore1 _ _ _ _ _ _ _ (V32 (push8 (part bs k (k / 4)) (at8 bs k))) rfl rfl rfl (congrArg (Value.int IntKind.u32) (push8_walk (part bs k (k / 4)) (at8 bs k))) hR info_u32 (by rw [tab_size]; omega) rfl ?_; intro w5 hR5 hW5))
      go_roundw
      case rel =>
        refine ⟨k + 1, by omega, by go_num, ?_, hBr.trans (hW5.below (by omega)), by rw [hW5.size, Hsr.out]⟩
        rw [tab_set (g := fun j => V32 (part bs (k + 1) j))] at hR5
        · exact hR5
        · intro j hj
          rw [part_succ bs k j (by omega), at8_lt bs k (by omega)]
          split
          · rename_i h; subst h; rfl
          · rfl
      case measure => simp [intOf]; omega
    · rw [show k = 64 by omega] at hR
      have hd : decide ((k : Int) < 64) = false := by simp; omega
      rw [tab_congr (fun j _ => congrArg V32 (words_at bs hbs j))] at hR
      go_wp2
      go_loopw [6] (fun i wq => ∃ n : Nat, n ≤ 48 ∧ i = .int .i64 ((n : Int) + 16) ∧ Row wq (w.heap.size + 1 + 1) 97 (tab 64 fun j => V32 (at32 (extW (words bs) n) j)) ∧ Below (w.heap.size + 2) w3 wq ∧ Hid (wq.heap.size = w3.heap.size)) (fun i _ => 64 - (intOf i).toNat)
      case atStart => exact ⟨0, by omega, rfl, hR, hBr, Hsr⟩
      case round =>
        obtain ⟨n, hn, rfl, hRq, hBq, Hsq⟩ := hrel
        by_cases hlt2 : n < 48
        · have hadd := mod_add
          have hd2 : decide ((n : Int) + 16 < 64) = true := by simp; omega
          go_wp2_with fail
          refine region_drew_tail 23 (by kernel_rfl) (by kernel_rfl) ?_
          simp only [List.take_succ_cons, List.take_zero, List.drop_succ_cons, List.drop_zero]
          repeat (first
            | ((with_reducible change wpQuiet _ _ _ _ (Oper.mk (some 31) _ _ _ _ _ :: _) _); refine qIndexAddr1 _ _ _ _ _ _ _ n _ rfl rfl rfl rfl Tryd.underlying97 info_u32 (by omega) (by omega) ?_; go_frame)
            | ((with_reducible change wpQuiet _ _ _ _ (Oper.mk (some 35) _ _ _ _ _ :: _) _); refine qIndexAddr1 _ _ _ _ _ _ _ (n + 16 - 7) _ rfl rfl rfl rfl Tryd.underlying97 info_u32 (by omega) (by omega) ?_; go_frame)
            | ((with_reducible change wpQuiet _ _ _ _ (Oper.mk (some 40) _ _ _ _ _ :: _) _); refine qIndexAddr1 _ _ _ _ _ _ _ (n + 16 - 15) _ rfl rfl rfl rfl Tryd.underlying97 info_u32 (by omega) (by omega) ?_; go_frame)
            | ((with_reducible change wpQuiet _ _ _ _ (Oper.mk (some 46) _ _ _ _ _ :: _) _); refine qIndexAddr1 _ _ _ _ _ _ _ (n + 16 - 2) _ rfl rfl rfl rfl Tryd.underlying97 info_u32 (by omega) (by omega) ?_; go_frame)
            | ((with_reducible change wpQuiet _ _ _ _ (Oper.mk (some 50) _ _ _ _ _ :: _) _); refine qIndexAddr1 _ _ _ _ _ _ _ (n + 16) _ rfl rfl rfl rfl Tryd.underlying97 info_u32 (by omega) (by omega) ?_; go_frame)
            | ((with_reducible change wpQuiet _ _ _ _ (Oper.mk _ (Op.load _ _) _ _ _ _ :: _) _); refine qLoad1 _ _ _ _ _ _ _ _ rfl rfl rfl (fun _ ⟨_, e⟩ => by rw [e]; exact hRq) Tryd.underlying84 rfl (tab_get _ _ _ (by omega)) ?_; go_frame)
            | go_big_quiet_step (first | (go_at_call 60; exact quiet_same (spread15_any _ _)) | (go_at_call 61; exact quiet_same (spread2_any _ _))))
          refine wpQuiet_nil ?_
          rintro _ ⟨nq, rfl⟩
          have hnx := nextW_n (extW (words bs) n) n (by rw [extW_length, words_length])
          refine kStore1 _ _ _ _ _ (n + 16) _ (V32 (nextW (extW (words bs) n))) rfl rfl rfl (by rw [hnx]; exact congrArg (Value.int IntKind.u32) (mod_add _ _)) (hRq.drewN nq) info_u32 (by rw [tab_size]; omega) rfl ?_
          intro w5 hR5 hW5
          go_wp2
          go_roundw
          case rel =>
            refine ⟨n + 1, by omega, by go_num, ?_, hBq.trans (⟨hW5.os, hW5.tape, hW5.output, Nat.le_of_eq hW5.size.symm, fun k hk => hW5.other k (by omega)⟩), hW5.size.trans Hsq.out⟩
            rw [tab_set (g := fun j => V32 (at32 (extW (words bs) (n + 1)) j))] at hR5
            · exact hR5
            · intro j hj
              rw [extW_at, words_length, Nat.add_comm 16 n]
              split <;> rfl
          case measure => simp [intOf]; omega
        · rw [show n = 48 by omega] at hRq
          have hR2q := hR2'.below hBq (by omega)
          have hb : Below w.heap.size w wr := hB.trans (hBq.mono (by omega))
          go_wp2_with (first
            | ((with_reducible change wpList _ _ _ (Oper.mk (some 51) _ _ _ _ _ :: _) _ _); refine kLoadRow _ _ _ _ _ _ rfl rfl rfl hRq Tryd.underlying97 rfl (by rw [tab_size]; exact info_arr64) ?_)
            | ((with_reducible change wpList _ _ _ (Oper.mk none _ _ _ _ _ :: _) _ _); refine kStoreRow _ _ _ _ _ _ _ rfl rfl rfl rfl hR2q (by rw [tab_size]; exact info_arr64) (by rw [tab_size, tab_size]) (tab_one _ _ fun _ _ => rfl) ?_; intro w6 hR6 hW6))
          exact result_row Tryd.results57 rfl hR6 Tryd.underlying97 rfl (by rw [tab_size]; exact info_arr64) rfl ⟨rfl, hb.trans (hW6.below (by omega))⟩
end Go.Proofs.YtnaclalbeocpkaaDoor
