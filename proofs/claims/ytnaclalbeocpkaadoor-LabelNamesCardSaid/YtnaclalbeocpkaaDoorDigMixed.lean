/-
  The walk of digest's '(state).mixed': the state behind one more block.
-/
import Derived.Test.YtnaclalbeocpkaaDoorDigHash
namespace Go.Proofs.YtnaclalbeocpkaaDoor
open Go.RowKit

/-- the program's table of 64 numbers lies as its initialiser lays it -/
def Keys (w : World) : Prop := ∀ i, i < 64 → w.cell? ⟨1, i, none⟩ = some (V32 (at32 kTab i))
theorem Keys.below {w w' : World} (h : Keys w) (hb : Below w.heap.size w w') : Keys w' := fun i hi => by
  have := h i hi
  rw [hb.cell (block_lt_of_cell this)]; exact this
theorem Keys.drewN {w : World} (h : Keys w) (n : Nat) : Keys (w.drewN n) := h

theorem zero_state : ((Tryd.prog.info? 86).bind (·.zero)).map Value.cells = some (tab 8 fun _ => V32 0) := by kernel_rfl

set_option maxRecDepth 100000 in
set_option maxHeartbeats 1000000 in
theorem mixed_any (s : St) (bs : List UInt8) (hbs : bs.length = 64) (w : World) (hK : Keys w) :
    Calls Tryd.prog 56 #[.agg (tab 8 fun j => V32 (at32 s.list j)), .agg (tab 64 fun j => VB (at8 bs j))] w fun e w' => e = .returned (.agg (tab 8 fun j => V32 (at32 (comp s bs).list j))) ∧ Below w.heap.size w w' := by
  go_enter Tryd.func56, Tryd.ntmps56
  go_wp2_with (first
    | ((with_reducible change wpList _ _ _ (Oper.mk (some 2) _ _ _ _ _ :: _) _ _); refine kBox _ _ _ rfl rfl rfl ?_; intro w1 hR1 hs1 hB1)
    | ((with_reducible change wpList _ _ _ (Oper.mk (some 3) _ _ _ _ _ :: _) _ _); refine kBox _ _ _ rfl rfl rfl ?_; intro w2 hR2 hs2 hB2)
    | ((with_reducible change wpList _ _ _ (Oper.mk (some 4) _ _ _ _ _ :: _) _ _); refine kAlloc _ _ rfl rfl zero_state ?_; intro w3 hR3 hs3 hB3)
    | ((with_reducible change wpList _ _ _ (Oper.mk (some 17) _ _ _ _ _ :: _) _ _); refine kLoadRow _ _ _ _ _ _ rfl rfl rfl (hR2.below hB3 (by omega)) Tryd.underlying89 rfl (by rw [tab_size]; exact info_block) ?_)
    | (go_at_call 57; refine (schedule_any bs hbs _).mono ?_; rintro e w4 ⟨rfl, hB4⟩)
    | ((with_reducible change wpList _ _ _ (Oper.mk (some 5) _ _ _ _ _ :: _) _ _); refine kAlloc _ _ rfl rfl zero_arr64 ?_; intro w5 hR5 hs5 hB5)
    | ((with_reducible change wpList _ _ _ (Oper.mk none (Op.store 97 _ _) _ _ _ _ :: _) _ _); refine kStoreRow _ _ _ _ _ _ _ rfl rfl rfl rfl hR5 (by rw [tab_size]; exact info_arr64) (by rw [tab_size, tab_size]) (tab_one _ _ fun _ _ => rfl) ?_; intro w6 hR6 hW6))
  go_frame
  have h34 := hB4.size
  have hS := (((hR1.below hB2 (by omega)).below hB3 (by omega)).below hB4 (by omega)).below hB5 (by omega)
  have hS6 := hW6.row hS (by omega)
  have hRes := ((hR3.below hB4 (by omega)).below hB5 (by omega))
  have hRes6 := hW6.row hRes (by omega)
  have hB06 : Below w.heap.size w w6 := (((((hB1.trans (hB2.mono (by omega))).trans (hB3.mono (by omega))).trans (hB4.mono (by omega))).trans (hB5.mono (by omega))).trans (hW6.below (by omega)))
  have hK6 := hK.below hB06
  have hne2 : w.heap.size + 2 < w4.heap.size := by omega
  rw [show w2.heap.size = w.heap.size + 1 + 1 by omega] at hRes6
  clear hK hR1 hR2 hR3 hR5 hs1 hs2 hs3 hs5 hB1 hB2 hB3 hB4 hB5 hW6 hS hRes
  generalize w4.heap.size = g5 at *
  refine wp_region_quiet_lit (by kernel_rfl) (by kernel_rfl) ?_
  repeat (first
    | ((with_reducible change wpQuiet _ _ _ _ (Oper.mk _ (Op.indexAddr _ _ _) _ _ _ _ :: _) _); refine qIndexAddr1 _ _ _ _ _ _ _ _ _ rfl rfl rfl rfl Tryd.underlying86 info_u32 (Int.toNat_of_nonneg (by decide)).symm (by decide) ?_; go_frame; simp only [Int.reduceToNat])
    | ((with_reducible change wpQuiet _ _ _ _ (Oper.mk _ (Op.load _ _) _ _ _ _ :: _) _); refine qLoad1 _ _ _ _ _ _ _ _ rfl rfl rfl (fun _ ⟨_, e⟩ => by rw [e]; exact hS6) Tryd.underlying84 rfl (tab_get _ _ _ (by decide)) ?_; go_frame)
    | go_big_quiet_step (fail))
  refine wpQuiet_nil ?_
  rintro _ ⟨nq, rfl⟩
  have hS7 := hS6.drewN nq
  have hRes7 := hRes6.drewN nq
  have hR7 := hR6.drewN nq
  have hK7 := hK6.drewN nq
  have hB7 : Below w.heap.size w (w6.drewN nq) := ⟨hB06.os, hB06.tape, hB06.output, hB06.size, hB06.block⟩
  clear hS6 hRes6 hR6 hK6 hB06 h34
  generalize w6.drewN nq = w7 at *
  go_wp2
  go_loopw [35, 6, 7, 8, 9, 10, 11, 12, 13] (fun i a b c d e f g h wr => ∃ n : Nat, n ≤ 64 ∧ i = .int .i64 n ∧ a = V32 (rnds (sched bs) s n).a ∧ b = V32 (rnds (sched bs) s n).b ∧ c = V32 (rnds (sched bs) s n).c ∧ d = V32 (rnds (sched bs) s n).d ∧ e = V32 (rnds (sched bs) s n).e ∧ f = V32 (rnds (sched bs) s n).f ∧ g = V32 (rnds (sched bs) s n).g ∧ h = V32 (rnds (sched bs) s n).h ∧ Row wr w.heap.size 86 (tab 8 fun j => V32 (at32 s.list j)) ∧ Row wr (w.heap.size + 1 + 1) 86 (tab 8 fun _ => V32 0) ∧ Row wr g5 97 (tab 64 fun j => V32 (at32 (sched bs) j)) ∧ Keys wr ∧ Below w.heap.size w wr) (fun i _ _ _ _ _ _ _ _ _ => 64 - (intOf i).toNat)
  case atStart => exact ⟨0, by omega, rfl, rfl, rfl, rfl, rfl, rfl, rfl, rfl, rfl, hS7, hRes7, hR7, hK7, hB7⟩
  case round =>
    obtain ⟨n, hn, rfl, rfl, rfl, rfl, rfl, rfl, rfl, rfl, rfl, hSr, hResr, hRr, hKr, hBr⟩ := hrel
    by_cases hlt : n < 64
    · have hd : decide ((n : Int) < 64) = true := by simp; omega
      have r1 := mod_add
      have r2 := bxor
      have r3 := band
      have r4 : ∀ a : UInt32, bits BinOp.xor IntKind.u32 (if IntKind.u32.signed = true then -1 else IntKind.u32.max) (I a) = I (~~~a) := bnot
      go_wp2_with fail
      refine wp_region_quiet_lit (by kernel_rfl) (by kernel_rfl) ?_
      repeat (first
        | ((with_reducible change wpQuiet _ _ _ _ (Oper.mk _ (Op.indexAddr _ _ _) _ _ _ _ :: _) _); refine qIndexAddr1 _ _ _ _ _ _ _ n _ rfl rfl rfl rfl Tryd.underlying97 info_u32 rfl hlt ?_; go_frame)
        | ((with_reducible change wpQuiet _ _ _ _ (Oper.mk (some 53) (Op.load _ _) _ _ _ _ :: _) _); refine qLoadCell _ _ _ _ _ _ rfl rfl rfl (fun _ ⟨_, e⟩ => by rw [e]; exact hKr n hlt) Tryd.underlying84 rfl ?_; go_frame)
        | ((with_reducible change wpQuiet _ _ _ _ (Oper.mk (some 57) (Op.load _ _) _ _ _ _ :: _) _); refine qLoad1 _ _ _ _ _ _ _ _ rfl rfl rfl (fun _ ⟨_, e⟩ => by rw [e]; exact hRr) Tryd.underlying84 rfl (tab_get _ _ _ hlt) ?_; go_frame)
        | go_big_quiet_step ((go_at_call 58; exact quiet_same (turnE_any _ _))))
      refine wpQuiet_nil ?_
      rintro _ ⟨nr, rfl⟩
      go_wp2_with (go_at_call 59; refine (turnA_any _ _).mono ?_; rintro e w' ⟨rfl, rfl⟩)
      go_roundw
      case rel =>
        simp only [r1]
        exact ⟨n + 1, by omega, by go_num, rfl, rfl, rfl, rfl, rfl, rfl, rfl, rfl, hSr, hResr, hRr, hKr, ⟨hBr.os, hBr.tape, hBr.output, hBr.size, hBr.block⟩⟩
      case measure => simp [intOf]; omega
    · obtain rfl : n = 64 := by omega
      have r1 := mod_add
      go_wp2_with (first
        | ((with_reducible change wpList _ _ _ (Oper.mk _ (Op.indexAddr _ _ _) _ _ _ _ :: _) _ _); refine kIndexAddr1 _ _ _ _ _ _ _ _ _ rfl rfl rfl rfl Tryd.underlying86 info_u32 (Int.toNat_of_nonneg (by decide)).symm (by decide) ?_)
        | ((with_reducible change wpList _ _ _ (Oper.mk _ (Op.load _ _) _ _ _ _ :: _) _ _); refine kLoad1 _ _ _ _ _ _ _ _ rfl rfl rfl hSr Tryd.underlying84 rfl (tab_get _ _ _ (by decide)) ?_)
        | ((with_reducible change wpList _ _ _ (Oper.mk none _ _ _ _ _ :: _) _ _); refine kStoreRow _ _ _ _ _ _ (tab 8 fun j => V32 (at32 (comp s bs).list j)) rfl rfl rfl ?_ hResr (by rw [tab_size]; exact info_state) (by rw [tab_size, tab_size]) (tab_one _ _ fun _ _ => rfl) ?_; rotate_left; intro w8 hR8 hW8))
      · exact result_row Tryd.results56 rfl hR8 Tryd.underlying86 rfl (by rw [tab_size]; exact info_state) rfl ⟨rfl, hBr.trans (hW8.below (by omega))⟩
      · rfl
end Go.Proofs.YtnaclalbeocpkaaDoor
