/-
  Joined: DigBits, DigSched, DigHash, DigMixed, DigEnd, Sha2, DigAdd, DigSum.
-/
import Derived.Test.YtdeggdmoijfhdaaDoorRows
import Derived.Test.YtdeggdmoijfhdaaDoorKitAll
import Derived.WalkKit
import Derived.WalkSpells
import Derived.WalkLawsBesides
import Derived.Lib.Hide
import Derived.Maps.RangeWalk
import Derived.Test.YtdeggdmoijfhdaaDoorBytesKit
/-
  The walks of the small functions that turn and shift one number of 32 bits: each returns what its plain function says and leaves the world alone.
-/
namespace Go.Proofs.YtdeggdmoijfhdaaDoor
open Go.RowKit

theorem rot_amount (n : Nat) (h1 : 1 ≤ n) (h2 : n ≤ 31) : bits BinOp.and IntKind.u64 (IntKind.u64.wrap (-(n : Int))) 31 = 32 - (n : Int) := by
  have : ∀ n : Fin 32, 1 ≤ n.val → bits BinOp.and IntKind.u64 (IntKind.u64.wrap (-(n.val : Int))) 31 = 32 - (n.val : Int) := by decide +kernel
  exact this ⟨n, by omega⟩ h1

set_option maxHeartbeats 400000 in
theorem turned_any (x : UInt32) (n : Nat) (w : World) (h1 : 1 ≤ n) (h2 : n ≤ 31) :
    Calls Tryd.prog 68 #[.int .u32 (I x), .int .i64 (n : Int)] w fun e w' => e = .returned (.int .u32 (I (rotr x n))) ∧ w = w' := by
  have hb := rot_amount n h1 h2
  have hc : (32 - (n : Int)).toNat = 32 - n := by omega
  have hd : (32 - (32 - (n : Int))) = (n : Int) := by omega
  have hI := I_lo x
  have hJ := I_hi x
  have he := Lib.hid (rot_code x n)
  go_enter Tryd.func68, Tryd.ntmps68
  go_wp2
  go_ret
  exact ⟨congrArg _ (congrArg _ he.out), rfl⟩

theorem turned_int (x : UInt32) (n : Int) (w : World) (h1 : 1 ≤ n) (h2 : n ≤ 31) :
    Calls Tryd.prog 68 #[.int .u32 (I x), .int .i64 n] w fun e w' => e = .returned (.int .u32 (I (rotr x n.toNat))) ∧ w = w' := by
  obtain ⟨m, rfl⟩ := Int.eq_ofNat_of_zero_le (show 0 ≤ n by omega)
  rw [Int.toNat_natCast]
  exact turned_any x m w (by omega) (by omega)

set_option maxHeartbeats 400000 in
theorem turnE_any (x : UInt32) (w : World) :
    Calls Tryd.prog 64 #[.int .u32 (I x)] w fun e w' => e = .returned (.int .u32 (I (bS1 x))) ∧ w = w' := by
  have hx := bxor
  go_enter Tryd.func64, Tryd.ntmps64
  go_wp2_with (go_at_call 68; refine (turned_int _ _ _ (by omega) (by omega)).mono ?_; rintro e w' ⟨rfl, rfl⟩)
  go_ret
  exact ⟨rfl, rfl⟩

set_option maxHeartbeats 400000 in
theorem turnA_any (x : UInt32) (w : World) :
    Calls Tryd.prog 65 #[.int .u32 (I x)] w fun e w' => e = .returned (.int .u32 (I (bS0 x))) ∧ w = w' := by
  have hx := bxor
  go_enter Tryd.func65, Tryd.ntmps65
  go_wp2_with (go_at_call 68; refine (turned_int _ _ _ (by omega) (by omega)).mono ?_; rintro e w' ⟨rfl, rfl⟩)
  go_ret
  exact ⟨rfl, rfl⟩

theorem shr_code (x : UInt32) (n : Nat) : I x / 2 ^ n = I (shr x n) := by
  unfold I; rw [shr_toNat, Int.natCast_ediv, Int.natCast_pow]; rfl

set_option maxHeartbeats 400000 in
theorem spread15_any (x : UInt32) (w : World) :
    Calls Tryd.prog 66 #[.int .u32 (I x)] w fun e w' => e = .returned (.int .u32 (I (sS0 x))) ∧ w = w' := by
  have hx := bxor
  have hs : I x / 8 = I (shr x 3) := shr_code x 3
  go_enter Tryd.func66, Tryd.ntmps66
  go_wp2_with (go_at_call 68; refine (turned_int _ _ _ (by omega) (by omega)).mono ?_; rintro e w' ⟨rfl, rfl⟩)
  go_ret
  exact ⟨rfl, rfl⟩

set_option maxHeartbeats 400000 in
theorem spread2_any (x : UInt32) (w : World) :
    Calls Tryd.prog 67 #[.int .u32 (I x)] w fun e w' => e = .returned (.int .u32 (I (sS1 x))) ∧ w = w' := by
  have hx := bxor
  have hs : I x / 1024 = I (shr x 10) := shr_code x 10
  go_enter Tryd.func67, Tryd.ntmps67
  go_wp2_with (go_at_call 68; refine (turned_int _ _ _ (by omega) (by omega)).mono ?_; rintro e w' ⟨rfl, rfl⟩)
  go_ret
  exact ⟨rfl, rfl⟩

end Go.Proofs.YtdeggdmoijfhdaaDoor

/-
  The walk of digest's 'schedule': 64 bytes become the row of 64 numbers.
-/
namespace Go.Proofs.YtdeggdmoijfhdaaDoor
open Go.RowKit

theorem info_arr64 : (Tryd.prog.info? 96).map (·.size) = some 64 := by kernel_rfl
theorem info_block : (Tryd.prog.info? 89).map (·.size) = some 64 := by kernel_rfl
theorem info_u32 : (Tryd.prog.info? 22).map (·.size) = some 1 := by kernel_rfl
theorem zero_arr64 : ((Tryd.prog.info? 96).bind (·.zero)).map Value.cells = some (tab 64 fun _ => V32 0) := by kernel_rfl

theorem info_byte : (Tryd.prog.info? 5).map (·.size) = some 1 := by kernel_rfl

set_option maxRecDepth 100000 in
set_option maxHeartbeats 400000 in
theorem schedule_any (bs : List UInt8) (hbs : bs.length = 64) (w : World) :
    Calls Tryd.prog 63 #[.agg (tab 64 fun j => VB (at8 bs j))] w fun e w' => e = .returned (.agg (tab 64 fun j => V32 (at32 (sched bs) j))) ∧ Below w.heap.size w w' := by
  go_enter Tryd.func63, Tryd.ntmps63
  go_wp2_with (first
    | ((with_reducible change wpList _ _ _ (Oper.mk (some 1) _ _ _ _ _ :: _) _ _); refine kBox _ _ _ rfl rfl rfl ?_; intro w1 hR1 hs1 hB1)
    | ((with_reducible change wpList _ _ _ (Oper.mk (some 2) _ _ _ _ _ :: _) _ _); refine kAlloc _ _ rfl rfl zero_arr64 ?_; intro w2 hR2 hs2 hB2)
    | ((with_reducible change wpList _ _ _ (Oper.mk (some 3) _ _ _ _ _ :: _) _ _); refine kAlloc _ _ rfl rfl zero_arr64 ?_; intro w3 hR3 hs3 hB3)
    | ((with_reducible change wpList _ _ _ (Oper.mk (some 7) _ _ _ _ _ :: _) _ _); refine kLoadRow _ _ _ _ _ _ rfl rfl rfl ((hR1.below hB2 (by omega)).below hB3 (by omega)) Tryd.underlying89 rfl (by rw [tab_size]; exact info_block) ?_))
  have hsz : w3.heap.size = w.heap.size + 3 := by omega
  rw [show w2.heap.size = w.heap.size + 1 + 1 by omega] at hR3 hB3
  have hR2' := hR2.below hB3 (by omega)
  rw [hs1] at hR2'
  have hB : Below w.heap.size w w3 := (hB1.trans (hB2.mono (by omega))).trans (hB3.mono (by omega))
  clear hR1 hR2 hB1 hB2 hB3 hs1 hs2 hs3
  go_loopw [8] (fun i wr => ∃ k : Nat, k ≤ 64 ∧ i = .int .i64 k ∧ Row wr (w.heap.size + 1 + 1) 96 (tab 64 fun j => V32 (part bs k j)) ∧ Below (w.heap.size + 2) w3 wr ∧ wr.heap.size = w3.heap.size) (fun i _ => 64 - (intOf i).toNat)
  case atStart => exact ⟨0, by omega, rfl, by simpa [part_zero] using hR3, Below.refl _ _, rfl⟩
  case round =>
    obtain ⟨k, hk, rfl, hR, hBr, hsr⟩ := hrel
    have Hsr := Lib.hid hsr
    have Hsz := Lib.hid hsz
    clear hsr hsz
    by_cases hlt : k < 64
    · go_wp2_with (first
        | ((with_reducible change wpList _ _ _ (Oper.mk (some 11) _ _ _ _ _ :: _) _ _); refine kIndex _ _ _ _ _ _ _ k _ _ _ rfl rfl rfl rfl Tryd.underlying89 Tryd.underlying5 rfl info_byte rfl hlt (tab_get _ _ _ hlt) ?_)
        | ((with_reducible change wpList _ _ _ (Oper.mk (some 16) _ _ _ _ _ :: _) _ _); refine kIndexAddr1 _ _ _ _ _ _ _ (k / 4) _ rfl rfl rfl rfl Tryd.underlying96 info_u32 (by omega) (by omega) ?_)
        | ((with_reducible change wpList _ _ _ (Oper.mk (some 22) _ _ _ _ _ :: _) _ _); refine kIndexAddr1 _ _ _ _ _ _ _ (k / 4) _ rfl rfl rfl rfl Tryd.underlying96 info_u32 (by omega) (by omega) ?_)
        | ((with_reducible change wpList _ _ _ (Oper.mk (some 17) _ _ _ _ _ :: _) _ _); refine kLoad1 _ _ _ _ _ _ _ _ rfl rfl rfl hR Tryd.underlying22 rfl (tab_get _ _ _ (by omega)) ?_)
        | ((with_reducible change wpList _ _ _ (Oper.mk (none) _ _ _ _ _ :: _) _ _); refine kStore1 _ _ _ _ _ _ _ (V32 (push8 (part bs k (k / 4)) (at8 bs k))) rfl rfl rfl (congrArg (Value.int IntKind.u32) (push8_walk (part bs k (k / 4)) (at8 bs k))) hR info_u32 (by rw [tab_size]; omega) rfl ?_; intro w5 hR5 hW5))
      go_roundw
      case rel =>
        refine ⟨k + 1, by omega, by go_num, ?_, hBr.trans (hW5.below (by omega)), by rw [hW5.size, Hsr.out]⟩
        rw [tab_set (g := fun j => V32 (part bs (k + 1) j))] at hR5
        · exact hR5
        · intro j hj
          rw [part_succ bs k j (by omega), at8_lt bs k (by omega)]
          split
          · rename_i h; subst h; rfl
          · rfl
      case measure => simp [intOf]; omega
    · rw [show k = 64 by omega] at hR
      have hd : decide ((k : Int) < 64) = false := by simp; omega
      rw [tab_congr (fun j _ => congrArg V32 (words_at bs hbs j))] at hR
      go_wp2
      go_loopw [6] (fun i wq => ∃ n : Nat, n ≤ 48 ∧ i = .int .i64 ((n : Int) + 16) ∧ Row wq (w.heap.size + 1 + 1) 96 (tab 64 fun j => V32 (at32 (extW (words bs) n) j)) ∧ Below (w.heap.size + 2) w3 wq ∧ Hid (wq.heap.size = w3.heap.size)) (fun i _ => 64 - (intOf i).toNat)
      case atStart => exact ⟨0, by omega, rfl, hR, hBr, Hsr⟩
      case round =>
        obtain ⟨n, hn, rfl, hRq, hBq, Hsq⟩ := hrel
        by_cases hlt2 : n < 48
        · have hadd := mod_add
          have hd2 : decide ((n : Int) + 16 < 64) = true := by simp; omega
          go_wp2_with fail
          refine region_drew_tail 23 (by kernel_rfl) (by kernel_rfl) ?_
          simp only [List.take_succ_cons, List.take_zero, List.drop_succ_cons, List.drop_zero]
          repeat (first
            | ((with_reducible change wpQuiet _ _ _ _ (Oper.mk (some 31) _ _ _ _ _ :: _) _); refine qIndexAddr1 _ _ _ _ _ _ _ n _ rfl rfl rfl rfl Tryd.underlying96 info_u32 (by omega) (by omega) ?_; go_frame)
            | ((with_reducible change wpQuiet _ _ _ _ (Oper.mk (some 35) _ _ _ _ _ :: _) _); refine qIndexAddr1 _ _ _ _ _ _ _ (n + 16 - 7) _ rfl rfl rfl rfl Tryd.underlying96 info_u32 (by omega) (by omega) ?_; go_frame)
            | ((with_reducible change wpQuiet _ _ _ _ (Oper.mk (some 40) _ _ _ _ _ :: _) _); refine qIndexAddr1 _ _ _ _ _ _ _ (n + 16 - 15) _ rfl rfl rfl rfl Tryd.underlying96 info_u32 (by omega) (by omega) ?_; go_frame)
            | ((with_reducible change wpQuiet _ _ _ _ (Oper.mk (some 46) _ _ _ _ _ :: _) _); refine qIndexAddr1 _ _ _ _ _ _ _ (n + 16 - 2) _ rfl rfl rfl rfl Tryd.underlying96 info_u32 (by omega) (by omega) ?_; go_frame)
            | ((with_reducible change wpQuiet _ _ _ _ (Oper.mk (some 50) _ _ _ _ _ :: _) _); refine qIndexAddr1 _ _ _ _ _ _ _ (n + 16) _ rfl rfl rfl rfl Tryd.underlying96 info_u32 (by omega) (by omega) ?_; go_frame)
            | ((with_reducible change wpQuiet _ _ _ _ (Oper.mk _ (Op.load _ _) _ _ _ _ :: _) _); refine qLoad1 _ _ _ _ _ _ _ _ rfl rfl rfl (fun _ ⟨_, e⟩ => by rw [e]; exact hRq) Tryd.underlying22 rfl (tab_get _ _ _ (by omega)) ?_; go_frame)
            | go_big_quiet_step (first | (go_at_call 66; exact quiet_same (spread15_any _ _)) | (go_at_call 67; exact quiet_same (spread2_any _ _))))
          refine wpQuiet_nil ?_
          rintro _ ⟨nq, rfl⟩
          have hnx := nextW_n (extW (words bs) n) n (by rw [extW_length, words_length])
          refine kStore1 _ _ _ _ _ (n + 16) _ (V32 (nextW (extW (words bs) n))) rfl rfl rfl (by rw [hnx]; exact congrArg (Value.int IntKind.u32) (mod_add _ _)) (hRq.drewN nq) info_u32 (by rw [tab_size]; omega) rfl ?_
          intro w5 hR5 hW5
          go_wp2
          go_roundw
          case rel =>
            refine ⟨n + 1, by omega, by go_num, ?_, hBq.trans (⟨hW5.os, hW5.tape, hW5.output, Nat.le_of_eq hW5.size.symm, fun k hk => hW5.other k (by omega)⟩), hW5.size.trans Hsq.out⟩
            rw [tab_set (g := fun j => V32 (at32 (extW (words bs) (n + 1)) j))] at hR5
            · exact hR5
            · intro j hj
              rw [extW_at, words_length, Nat.add_comm 16 n]
              split <;> rfl
          case measure => simp [intOf]; omega
        · rw [show n = 48 by omega] at hRq
          have hR2q := hR2'.below hBq (by omega)
          have hb : Below w.heap.size w wr := hB.trans (hBq.mono (by omega))
          go_wp2_with (first
            | ((with_reducible change wpList _ _ _ (Oper.mk (some 51) _ _ _ _ _ :: _) _ _); refine kLoadRow _ _ _ _ _ _ rfl rfl rfl hRq Tryd.underlying96 rfl (by rw [tab_size]; exact info_arr64) ?_)
            | ((with_reducible change wpList _ _ _ (Oper.mk none _ _ _ _ _ :: _) _ _); refine kStoreRow _ _ _ _ _ _ _ rfl rfl rfl rfl hR2q (by rw [tab_size]; exact info_arr64) (by rw [tab_size, tab_size]) (tab_one _ _ fun _ _ => rfl) ?_; intro w6 hR6 hW6))
          exact result_row Tryd.results63 rfl hR6 Tryd.underlying96 rfl (by rw [tab_size]; exact info_arr64) rfl ⟨rfl, hb.trans (hW6.below (by omega))⟩
end Go.Proofs.YtdeggdmoijfhdaaDoor

/-
  The walk of digest's '(state).hash': eight numbers become 32 bytes, the highest byte of each number first.
-/
namespace Go.Proofs.YtdeggdmoijfhdaaDoor
open Go.RowKit

theorem info_state : (Tryd.prog.info? 86).map (·.size) = some 8 := by kernel_rfl
theorem info_Hash : (Tryd.prog.info? 24).map (·.size) = some 32 := by kernel_rfl
theorem zero_Hash : ((Tryd.prog.info? 24).bind (·.zero)).map Value.cells = some (tab 32 fun _ => VB 0) := by kernel_rfl

set_option maxRecDepth 100000 in
set_option maxHeartbeats 400000 in
theorem hash_any (l : List UInt32) (w : World) :
    Calls Tryd.prog 57 #[.agg (tab 8 fun j => V32 (at32 l j))] w fun e w' => e = .returned (.agg (tab 32 fun p => VB (hbyte l p))) ∧ Below w.heap.size w w' := by
  go_enter Tryd.func57, Tryd.ntmps57
  go_wp2_with (first
    | ((with_reducible change wpList _ _ _ (Oper.mk (some 1) _ _ _ _ _ :: _) _ _); refine kBox _ _ _ rfl rfl rfl ?_; intro w1 hR1 hs1 hB1)
    | ((with_reducible change wpList _ _ _ (Oper.mk (some 2) _ _ _ _ _ :: _) _ _); refine kAlloc _ _ rfl rfl zero_Hash ?_; intro w2 hR2 hs2 hB2)
    | ((with_reducible change wpList _ _ _ (Oper.mk (some 3) _ _ _ _ _ :: _) _ _); refine kAlloc _ _ rfl rfl zero_Hash ?_; intro w3 hR3 hs3 hB3)
    | ((with_reducible change wpList _ _ _ (Oper.mk (some 7) _ _ _ _ _ :: _) _ _); refine kLoadRow _ _ _ _ _ _ rfl rfl rfl ((hR1.below hB2 (by omega)).below hB3 (by omega)) Tryd.underlying86 rfl (by rw [tab_size]; exact info_state) ?_))
  rw [show w2.heap.size = w.heap.size + 1 + 1 by omega] at hR3 hB3
  have hR2' := hR2.below hB3 (by omega)
  rw [hs1] at hR2'
  have hB : Below w.heap.size w w3 := (hB1.trans (hB2.mono (by omega))).trans (hB3.mono (by omega))
  clear hR1 hR2 hB1 hB2 hB3 hs1 hs2 hs3
  go_loopw [8] (fun i wr => ∃ k : Nat, k ≤ 8 ∧ i = .int .i64 k ∧ Row wr (w.heap.size + 1 + 1) 24 (tab 32 fun p => VB (if p < 4 * k then hbyte l p else 0)) ∧ Below (w.heap.size + 2) w3 wr) (fun i _ => 8 - (intOf i).toNat)
  case atStart => exact ⟨0, by omega, rfl, hR3, Below.refl _ _⟩
  case round =>
    obtain ⟨k, hk, rfl, hR, hBr⟩ := hrel
    by_cases hlt : k < 8
    · have hd : decide ((k : Int) < 8) = true := by simp; omega
      go_wp2_with (first
        | ((with_reducible change wpList _ _ _ (Oper.mk (some 11) _ _ _ _ _ :: _) _ _); refine kIndex _ _ _ _ _ _ _ k _ _ _ rfl rfl rfl rfl Tryd.underlying86 Tryd.underlying22 rfl info_u32 rfl hlt (tab_get _ _ _ hlt) ?_))
      go_loopw [12] (fun i wq => ∃ j : Nat, j ≤ 4 ∧ i = .int .i64 j ∧ Row wq (w.heap.size + 1 + 1) 24 (tab 32 fun p => VB (if p < 4 * k + j then hbyte l p else 0)) ∧ Below (w.heap.size + 2) w3 wq) (fun i _ => 4 - (intOf i).toNat)
      case atStart => exact ⟨0, by omega, rfl, hR, hBr⟩
      case round =>
        obtain ⟨j, hj, rfl, hRq, hBq⟩ := hrel
        by_cases hlt2 : j < 4
        · have hsh : (24 - 8 * (j : Int)).toNat = 24 - 8 * j := by omega
          have hd2 : decide ((j : Int) < 4) = true := by simp; omega
          have hby := byte_shr (at32 l k) (24 - 8 * j)
          go_wp2_with (first
            | ((with_reducible change wpList _ _ _ (Oper.mk (some 25) _ _ _ _ _ :: _) _ _); refine kIndexAddr1 _ _ _ _ _ _ _ (4 * k + j) _ rfl rfl rfl rfl Tryd.underlying24 info_byte (by omega) (by omega) ?_)
            | ((with_reducible change wpList _ _ _ (Oper.mk none _ _ _ _ _ :: _) _ _); refine kStore1 _ _ _ _ _ _ _ (VB (hbyte l (4 * k + j))) rfl rfl rfl ?_ hRq info_byte (by rw [tab_size]; omega) rfl ?_; rotate_left; intro w5 hR5 hW5))
          · go_roundw
            case rel =>
              refine ⟨j + 1, by omega, by go_num, ?_, hBq.trans (hW5.below (by omega))⟩
              rw [tab_set (g := fun p => VB (if p < 4 * k + (j + 1) then hbyte l p else 0))] at hR5
              · exact hR5
              · intro p _
                by_cases hp : p = 4 * k + j
                · subst hp; rw [if_pos (by omega), if_pos rfl]
                · rw [if_neg hp]
                  by_cases hp2 : p < 4 * k + j
                  · rw [if_pos hp2, if_pos (by omega)]
                  · rw [if_neg hp2, if_neg (by omega)]
            case measure => simp [intOf]; omega
          · unfold hbyte
            rw [show (4 * k + j) / 4 = k by omega, show (4 * k + j) % 4 = j by omega]
        · obtain rfl : j = 4 := by omega
          rw [show 4 * k + 4 = 4 * (k + 1) by omega] at hRq
          go_wp2
          go_roundw
          case rel => exact ⟨k + 1, by omega, by go_num, hRq, hBq⟩
          case measure => simp [intOf]; omega
    · obtain rfl : k = 8 := by omega
      rw [tab_congr (g := fun p => VB (hbyte l p)) (fun p hp => by rw [if_pos (by omega)])] at hR
      have hR2q := hR2'.below hBr (by omega)
      have hb : Below w.heap.size w wr := hB.trans (hBr.mono (by omega))
      go_wp2_with (first
        | ((with_reducible change wpList _ _ _ (Oper.mk (some 28) _ _ _ _ _ :: _) _ _); refine kLoadRow _ _ _ _ _ _ rfl rfl rfl hR Tryd.underlying24 rfl (by rw [tab_size]; exact info_Hash) ?_)
        | ((with_reducible change wpList _ _ _ (Oper.mk none _ _ _ _ _ :: _) _ _); refine kStoreRow _ _ _ _ _ _ _ rfl rfl rfl rfl hR2q (by rw [tab_size]; exact info_Hash) (by rw [tab_size, tab_size]) (tab_one _ _ fun _ _ => rfl) ?_; intro w6 hR6 hW6))
      exact result_row Tryd.results57 rfl hR6 Tryd.underlying24 rfl (by rw [tab_size]; exact info_Hash) rfl ⟨rfl, hb.trans (hW6.below (by omega))⟩
end Go.Proofs.YtdeggdmoijfhdaaDoor

/-
  The walk of digest's '(state).mixed': the state behind one more block.
-/
namespace Go.Proofs.YtdeggdmoijfhdaaDoor
open Go.RowKit

/-- the program's table of 64 numbers lies as its initialiser lays it -/
def Keys (w : World) : Prop := ∀ i, i < 64 → w.cell? ⟨0, i, none⟩ = some (V32 (at32 kTab i))
theorem Keys.below {w w' : World} (h : Keys w) (hb : Below w.heap.size w w') : Keys w' := fun i hi => by
  have := h i hi
  rw [hb.cell (block_lt_of_cell this)]; exact this
theorem Keys.drewN {w : World} (h : Keys w) (n : Nat) : Keys (w.drewN n) := h

theorem zero_state : ((Tryd.prog.info? 86).bind (·.zero)).map Value.cells = some (tab 8 fun _ => V32 0) := by kernel_rfl

set_option maxRecDepth 100000 in
set_option maxHeartbeats 1000000 in
theorem mixed_any (s : St) (bs : List UInt8) (hbs : bs.length = 64) (w : World) (hK : Keys w) :
    Calls Tryd.prog 60 #[.agg (tab 8 fun j => V32 (at32 s.list j)), .agg (tab 64 fun j => VB (at8 bs j))] w fun e w' => e = .returned (.agg (tab 8 fun j => V32 (at32 (comp s bs).list j))) ∧ Below w.heap.size w w' := by
  go_enter Tryd.func60, Tryd.ntmps60
  go_wp2_with (first
    | ((with_reducible change wpList _ _ _ (Oper.mk (some 2) _ _ _ _ _ :: _) _ _); refine kBox _ _ _ rfl rfl rfl ?_; intro w1 hR1 hs1 hB1)
    | ((with_reducible change wpList _ _ _ (Oper.mk (some 3) _ _ _ _ _ :: _) _ _); refine kBox _ _ _ rfl rfl rfl ?_; intro w2 hR2 hs2 hB2)
    | ((with_reducible change wpList _ _ _ (Oper.mk (some 4) _ _ _ _ _ :: _) _ _); refine kAlloc _ _ rfl rfl zero_state ?_; intro w3 hR3 hs3 hB3)
    | ((with_reducible change wpList _ _ _ (Oper.mk (some 17) _ _ _ _ _ :: _) _ _); refine kLoadRow _ _ _ _ _ _ rfl rfl rfl (hR2.below hB3 (by omega)) Tryd.underlying89 rfl (by rw [tab_size]; exact info_block) ?_)
    | (go_at_call 63; refine (schedule_any bs hbs _).mono ?_; rintro e w4 ⟨rfl, hB4⟩)
    | ((with_reducible change wpList _ _ _ (Oper.mk (some 5) _ _ _ _ _ :: _) _ _); refine kAlloc _ _ rfl rfl zero_arr64 ?_; intro w5 hR5 hs5 hB5)
    | ((with_reducible change wpList _ _ _ (Oper.mk none (Op.store 96 _ _) _ _ _ _ :: _) _ _); refine kStoreRow _ _ _ _ _ _ _ rfl rfl rfl rfl hR5 (by rw [tab_size]; exact info_arr64) (by rw [tab_size, tab_size]) (tab_one _ _ fun _ _ => rfl) ?_; intro w6 hR6 hW6))
  go_frame
  have h34 := hB4.size
  have hS := (((hR1.below hB2 (by omega)).below hB3 (by omega)).below hB4 (by omega)).below hB5 (by omega)
  have hS6 := hW6.row hS (by omega)
  have hRes := ((hR3.below hB4 (by omega)).below hB5 (by omega))
  have hRes6 := hW6.row hRes (by omega)
  have hB06 : Below w.heap.size w w6 := (((((hB1.trans (hB2.mono (by omega))).trans (hB3.mono (by omega))).trans (hB4.mono (by omega))).trans (hB5.mono (by omega))).trans (hW6.below (by omega)))
  have hK6 := hK.below hB06
  have hne2 : w.heap.size + 2 < w4.heap.size := by omega
  rw [show w2.heap.size = w.heap.size + 1 + 1 by omega] at hRes6
  clear hK hR1 hR2 hR3 hR5 hs1 hs2 hs3 hs5 hB1 hB2 hB3 hB4 hB5 hW6 hS hRes
  generalize w4.heap.size = g5 at *
  refine wp_region_quiet_lit (by kernel_rfl) (by kernel_rfl) ?_
  repeat (first
    | ((with_reducible change wpQuiet _ _ _ _ (Oper.mk _ (Op.indexAddr _ _ _) _ _ _ _ :: _) _); refine qIndexAddr1 _ _ _ _ _ _ _ _ _ rfl rfl rfl rfl Tryd.underlying86 info_u32 (Int.toNat_of_nonneg (by decide)).symm (by decide) ?_; go_frame; simp only [Int.reduceToNat])
    | ((with_reducible change wpQuiet _ _ _ _ (Oper.mk _ (Op.load _ _) _ _ _ _ :: _) _); refine qLoad1 _ _ _ _ _ _ _ _ rfl rfl rfl (fun _ ⟨_, e⟩ => by rw [e]; exact hS6) Tryd.underlying22 rfl (tab_get _ _ _ (by decide)) ?_; go_frame)
    | go_big_quiet_step (fail))
  refine wpQuiet_nil ?_
  rintro _ ⟨nq, rfl⟩
  have hS7 := hS6.drewN nq
  have hRes7 := hRes6.drewN nq
  have hR7 := hR6.drewN nq
  have hK7 := hK6.drewN nq
  have hB7 : Below w.heap.size w (w6.drewN nq) := ⟨hB06.os, hB06.tape, hB06.output, hB06.size, hB06.block⟩
  clear hS6 hRes6 hR6 hK6 hB06 h34
  generalize w6.drewN nq = w7 at *
  go_wp2
  go_loopw [35, 6, 7, 8, 9, 10, 11, 12, 13] (fun i a b c d e f g h wr => ∃ n : Nat, n ≤ 64 ∧ i = .int .i64 n ∧ a = V32 (rnds (sched bs) s n).a ∧ b = V32 (rnds (sched bs) s n).b ∧ c = V32 (rnds (sched bs) s n).c ∧ d = V32 (rnds (sched bs) s n).d ∧ e = V32 (rnds (sched bs) s n).e ∧ f = V32 (rnds (sched bs) s n).f ∧ g = V32 (rnds (sched bs) s n).g ∧ h = V32 (rnds (sched bs) s n).h ∧ Row wr w.heap.size 86 (tab 8 fun j => V32 (at32 s.list j)) ∧ Row wr (w.heap.size + 1 + 1) 86 (tab 8 fun _ => V32 0) ∧ Row wr g5 96 (tab 64 fun j => V32 (at32 (sched bs) j)) ∧ Keys wr ∧ Below w.heap.size w wr) (fun i _ _ _ _ _ _ _ _ _ => 64 - (intOf i).toNat)
  case atStart => exact ⟨0, by omega, rfl, rfl, rfl, rfl, rfl, rfl, rfl, rfl, rfl, hS7, hRes7, hR7, hK7, hB7⟩
  case round =>
    obtain ⟨n, hn, rfl, rfl, rfl, rfl, rfl, rfl, rfl, rfl, rfl, hSr, hResr, hRr, hKr, hBr⟩ := hrel
    by_cases hlt : n < 64
    · have hd : decide ((n : Int) < 64) = true := by simp; omega
      have r1 := mod_add
      have r2 := bxor
      have r3 := band
      have r4 : ∀ a : UInt32, bits BinOp.xor IntKind.u32 (if IntKind.u32.signed = true then -1 else IntKind.u32.max) (I a) = I (~~~a) := bnot
      go_wp2_with fail
      refine wp_region_quiet_lit (by kernel_rfl) (by kernel_rfl) ?_
      repeat (first
        | ((with_reducible change wpQuiet _ _ _ _ (Oper.mk _ (Op.indexAddr _ _ _) _ _ _ _ :: _) _); refine qIndexAddr1 _ _ _ _ _ _ _ n _ rfl rfl rfl rfl Tryd.underlying96 info_u32 rfl hlt ?_; go_frame)
        | ((with_reducible change wpQuiet _ _ _ _ (Oper.mk (some 53) (Op.load _ _) _ _ _ _ :: _) _); refine qLoadCell _ _ _ _ _ _ rfl rfl rfl (fun _ ⟨_, e⟩ => by rw [e]; exact hKr n hlt) Tryd.underlying22 rfl ?_; go_frame)
        | ((with_reducible change wpQuiet _ _ _ _ (Oper.mk (some 57) (Op.load _ _) _ _ _ _ :: _) _); refine qLoad1 _ _ _ _ _ _ _ _ rfl rfl rfl (fun _ ⟨_, e⟩ => by rw [e]; exact hRr) Tryd.underlying22 rfl (tab_get _ _ _ hlt) ?_; go_frame)
        | go_big_quiet_step ((go_at_call 64; exact quiet_same (turnE_any _ _))))
      refine wpQuiet_nil ?_
      rintro _ ⟨nr, rfl⟩
      go_wp2_with (go_at_call 65; refine (turnA_any _ _).mono ?_; rintro e w' ⟨rfl, rfl⟩)
      go_roundw
      case rel =>
        simp only [r1]
        exact ⟨n + 1, by omega, by go_num, rfl, rfl, rfl, rfl, rfl, rfl, rfl, rfl, hSr, hResr, hRr, hKr, ⟨hBr.os, hBr.tape, hBr.output, hBr.size, hBr.block⟩⟩
      case measure => simp [intOf]; omega
    · obtain rfl : n = 64 := by omega
      have r1 := mod_add
      go_wp2_with (first
        | ((with_reducible change wpList _ _ _ (Oper.mk _ (Op.indexAddr _ _ _) _ _ _ _ :: _) _ _); refine kIndexAddr1 _ _ _ _ _ _ _ _ _ rfl rfl rfl rfl Tryd.underlying86 info_u32 (Int.toNat_of_nonneg (by decide)).symm (by decide) ?_)
        | ((with_reducible change wpList _ _ _ (Oper.mk _ (Op.load _ _) _ _ _ _ :: _) _ _); refine kLoad1 _ _ _ _ _ _ _ _ rfl rfl rfl hSr Tryd.underlying22 rfl (tab_get _ _ _ (by decide)) ?_)
        | ((with_reducible change wpList _ _ _ (Oper.mk none _ _ _ _ _ :: _) _ _); refine kStoreRow _ _ _ _ _ _ (tab 8 fun j => V32 (at32 (comp s bs).list j)) rfl rfl rfl ?_ hResr (by rw [tab_size]; exact info_state) (by rw [tab_size, tab_size]) (tab_one _ _ fun _ _ => rfl) ?_; rotate_left; intro w8 hR8 hW8))
      · exact result_row Tryd.results60 rfl hR8 Tryd.underlying86 rfl (by rw [tab_size]; exact info_state) rfl ⟨rfl, hBr.trans (hW8.below (by omega))⟩
      · rfl
end Go.Proofs.YtdeggdmoijfhdaaDoor

/-
  The walk of digest's 'ending': what comes behind so many bytes.
-/
namespace Go.Proofs.YtdeggdmoijfhdaaDoor
open Go.RowKit

theorem byteInfo0 : (Tryd.prog.info? 5).map (fun i => (i.zero, i.size, i.bytes)) = some (some (.int .u8 0), 1, 1) := by kernel_rfl
theorem byteInfo : ∃ i, Tryd.prog.info? 5 = some i ∧ i.zero = some (.int .u8 0) ∧ i.size = 1 ∧ i.bytes = 1 := by
  have h := byteInfo0
  cases hq : Tryd.prog.info? 5 with
  | none => rw [hq] at h; cases h
  | some i => rw [hq] at h; simp at h; exact ⟨i, rfl, h.1, h.2.1, h.2.2⟩

/-- the value is a slice of the call's own, of these bytes -/
def OwnBytes (w : World) (base : Nat) (v : Value) (l : List UInt8) : Prop := w.ownsRow base 5 1 v (l.map VB).length (l.map VB)
theorem OwnBytes.vals {w : World} {base : Nat} {v : Value} {l : List UInt8} (h : OwnBytes w base v l) : IsVals w v (l.map VB) := isVals_own h
theorem vb_one (l : List UInt8) : ∀ u ∈ l.map VB, u.oneCell' = true := fun u hu => by simp at hu; obtain ⟨b, _, rfl⟩ := hu; rfl

def OwnPost (w : World) (l : List UInt8) (e : Ending) (w' : World) : Prop := ∃ v, e = .returned v ∧ OwnBytes w' w.heap.size v l ∧ Below w.heap.size w w'

theorem replicate_own (w : World) (g : Nat) (n m : Nat) (b : UInt8) (hnm : n + 1 ≤ m) (hm : m ≤ maxLen) (h : Row w g 5 ((Array.replicate m (VB 0)).setIfInBounds 0 (VB b))) : OwnBytes w g (.slice (some ⟨g, 0, none⟩) (n + 1) m) (b :: List.replicate n 0) := by
  refine ⟨by simp, .inr ⟨g, m, _, by simp, Nat.le_refl _, h, by simp; omega, hm, by simp, ?_⟩⟩
  apply List.ext_getElem?
  intro j
  simp only [Array.toList_setIfInBounds, Array.toList_replicate, List.map_cons, List.map_replicate, List.length_cons, List.length_replicate, Nat.mul_one, List.getElem?_take, List.getElem?_set, List.length_replicate]
  by_cases hj : j < n + 1
  · rw [if_pos hj]
    by_cases h0 : j = 0
    · subst h0; simp; omega
    · obtain ⟨k, rfl⟩ := Nat.exists_eq_succ_of_ne_zero h0
      simp [List.getElem?_replicate]
      rw [if_pos (by omega), if_pos (by omega)]
  · rw [if_neg hj, List.getElem?_eq_none (by simp; omega)]

theorem be64_take (n j : Nat) (h : j < 8) : (be64 n).take (j + 1) = (be64 n).take j ++ [UInt8.ofNat (n / 2 ^ (56 - 8 * j))] := by
  rw [List.take_succ_eq_append_getElem (by simp [be64]; exact h)]
  simp [be64]
theorem be64_byte (n j : Nat) : (n : Int) * 8 / 2 ^ (56 - 8 * j) % 256 = B (UInt8.ofNat (n * 8 / 2 ^ (56 - 8 * j))) := by
  unfold B
  rw [UInt8.toNat_ofNat', Int.natCast_emod, Int.natCast_ediv, Int.natCast_pow, Int.natCast_mul]; rfl

set_option maxRecDepth 100000 in
set_option maxHeartbeats 400000 in
theorem ending_any (n : Nat) (hn : n < 1152921504606846976) (w : World) :
    Calls Tryd.prog 56 #[.int .u64 (n : Int)] w (OwnPost w (tailOf n)) := by
  obtain ⟨i, hi, hz, hs1, hby⟩ := byteInfo
  have hm : (119 - n % 64) % 64 + 9 ≤ 72 := by omega
  go_enter Tryd.func56, Tryd.ntmps56
  go_wp2_with (first
    | ((with_reducible change wpList _ _ _ (Oper.mk (some 16) _ _ _ _ _ :: _) _ _); refine kMake _ _ _ _ rfl rfl i _ Tryd.underlying57 hi hz hs1 (VB 0) rfl _ _ _ _ ((119 - n % 64) % 64 + 1) ((119 - n % 64) % 64 + 9) rfl rfl (by omega) (by omega) (by omega) (by rw [hby]; omega) (by omega) ?_; intro w1 hR1 hz1 hB1)
    | ((with_reducible change wpList _ _ _ (Oper.mk (some 18) _ _ _ _ _ :: _) _ _); refine kIndexAddrS _ _ _ _ _ _ _ _ _ _ 0 rfl rfl rfl rfl Tryd.underlying57 info_byte rfl (by omega) ?_)
    | ((with_reducible change wpList _ _ _ (Oper.mk none _ _ _ _ _ :: _) _ _); refine kStore1 _ _ _ _ _ _ _ (VB 128) rfl rfl rfl rfl hR1 info_byte (by simp) rfl ?_; intro w2 hR2 hW2))
  have hO := replicate_own w2 w.heap.size ((119 - n % 64) % 64) _ 128 (by omega) (by unfold maxLen; omega) hR2
  have hB2 : Below w.heap.size w w2 := hB1.trans (hW2.below (Nat.le_refl _))
  have hle : w.heap.size ≤ w2.heap.size := hB2.size
  clear hR1 hz1 hB1 hR2 hW2
  go_loopw [21, 4] (fun i v wr => ∃ j : Nat, j ≤ 8 ∧ i = .int .i64 j ∧ OwnBytes wr w.heap.size v ((128 :: List.replicate ((119 - n % 64) % 64) 0) ++ (be64 (n * 8)).take j) ∧ Below w.heap.size w wr) (fun i _ _ => 8 - (intOf i).toNat)
  case atStart => exact ⟨0, by omega, rfl, by simpa using hO, hB2⟩
  case round =>
    obtain ⟨j, hj, rfl, hOr, hBr⟩ := hrel
    by_cases hlt : j < 8
    · have hsh : (56 - 8 * (j : Int)).toNat = 56 - 8 * j := by omega
      have hd : decide ((j : Int) < 8) = true := by simp; omega
      have hsz := hBr.size
      have hlen : ((128 :: List.replicate ((119 - n % 64) % 64) 0 ++ (be64 (n * 8)).take j).map VB).length ≤ 72 := by simp; omega
      go_wp2_with (first
        | ((with_reducible change wpList _ _ _ (Oper.mk (some 31) _ _ _ _ _ :: _) _ _); refine kBuildSlice1 _ _ _ (VB (UInt8.ofNat (n * 8 / 2 ^ (56 - 8 * j)))) rfl rfl Tryd.underlying57 i _ hi hz hs1 (congrArg (Value.int IntKind.u8) (be64_byte n j)) rfl ?_; intro w3 hR3 hz3 hB3)
        | ((with_reducible change wpList _ _ _ (Oper.mk (some 32) _ _ _ _ _ :: _) _ _); refine kAppend _ _ _ _ rfl rfl w.heap.size i _ Tryd.underlying57 hi hz hs1 rfl _ _ _ [VB (UInt8.ofNat (n * 8 / 2 ^ (56 - 8 * j)))] rfl (ownsRow_below hOr hB3) rfl (isVals_lit hR3) (vb_one [_]) (by unfold maxLen; simp at hlen ⊢; omega) (by rw [hby]; simp at hlen ⊢; omega) (by omega) ?_; intro v4 w4 hO4 hG4))
      go_roundw
      case rel =>
        refine ⟨j + 1, by omega, by go_num, ?_, (hBr.trans (hB3.mono (by omega))).trans (below_grown (ownsRow_below hOr hB3) hG4 (by omega))⟩
        rw [be64_take _ _ hlt, ← List.append_assoc]
        unfold OwnBytes
        rw [List.map_append (l₂ := [_])]
        exact hO4
      case measure => simp [intOf]; omega
    · obtain rfl : j = 8 := by omega
      rw [List.take_of_length_le (by simp [be64])] at hOr
      go_wp2
      go_ret
      exact ⟨_, rfl, hOr, hBr⟩
end Go.Proofs.YtdeggdmoijfhdaaDoor

/-
  Plain facts on a hasher's cells and on what bytes that come piece by piece do to the state.
-/
namespace Go.Proofs.YtdeggdmoijfhdaaDoor
open Go Go.RowKit

theorem tab_splice {n : Nat} {f g : Nat → Value} {off : Nat} {l : List Value} (hl : off + l.length ≤ n)
    (h : ∀ j, j < n → some (g j) = if j < off then some (f j) else if j < off + l.length then l[j - off]? else some (f j)) : splice (tab n f) off l = tab n g := by
  apply Array.ext_getElem?
  intro j
  have e1 : (splice (tab n f) off l)[j]? = (List.take off (tab n f).toList ++ l ++ List.drop (off + l.length) (tab n f).toList)[j]? := by simp [splice]
  have hs : (tab n f).toList.length = n := by simp [tab]
  have hf : ∀ k, k < n → (tab n f).toList[k]? = some (f k) := fun k hk => by simp [tab, hk]
  rw [e1, List.append_assoc, List.getElem?_append]
  have ht : (List.take off (tab n f).toList).length = off := by rw [List.length_take, hs]; omega
  rw [ht]
  by_cases hj : j < n
  · rw [tab_get n g j hj, h j hj]
    by_cases h1 : j < off
    · rw [if_pos h1, if_pos h1, List.getElem?_take, if_pos h1, hf j hj]
    · rw [if_neg h1, if_neg h1, List.getElem?_append]
      by_cases h2 : j < off + l.length
      · rw [if_pos h2, if_pos (by omega)]
      · rw [if_neg h2, if_neg (by omega), List.getElem?_drop, show off + l.length + (j - off - l.length) = j by omega, hf j hj]
  · rw [show (tab n g)[j]? = none from Array.getElem?_eq_none (by rw [tab_size]; omega), if_neg (by omega), List.getElem?_append, if_neg (by omega), List.getElem?_drop]
    exact List.getElem?_eq_none (by rw [hs]; omega)

theorem tab_extract {n : Nat} {f : Nat → Value} {off k : Nat} (h : off + k ≤ n) : (tab n f).extract off (off + k) = tab k (fun j => f (off + j)) := by
  apply Array.ext_getElem?
  intro j
  rw [Array.getElem?_extract, tab_size]
  by_cases hj : j < k
  · rw [if_pos (by omega), tab_get n f _ (by omega), tab_get k _ j hj]
  · rw [if_neg (by omega)]
    exact (Array.getElem?_eq_none (by rw [tab_size]; omega)).symm

/-- a hasher's cells: the state, the block that isn't whole, how many bytes came -/
def hCell (s : St) (bg : List UInt8) (m : Nat) (j : Nat) : Value :=
  if j < 8 then V32 (at32 s.list j) else if j < 72 then VB (at8 bg (j - 8)) else .int .u64 (m : Int)
def hCells (s : St) (bg : List UInt8) (m : Nat) : Array Value := tab 73 (hCell s bg m)
theorem hCell_one (s : St) (bg : List UInt8) (m j : Nat) : (hCell s bg m j).oneCell' = true := by
  unfold hCell; split
  · rfl
  · split <;> rfl
theorem hCells_len (s : St) (bg : List UInt8) (m : Nat) : (hCells s bg m)[72]? = some (.int .u64 (m : Int)) := by
  unfold hCells; rw [tab_get _ _ _ (by decide)]; rfl
theorem hCells_setLen (s : St) (bg : List UInt8) (m m' : Nat) : (hCells s bg m).setIfInBounds 72 (.int .u64 (m' : Int)) = hCells s bg m' := by
  refine tab_set fun j hj => ?_
  by_cases h : j = 72
  · subst h; rfl
  · rw [if_neg h]; unfold hCell
    split
    · rfl
    · rw [if_pos (by omega), if_pos (by omega)]
theorem hCells_state (s : St) (bg : List UInt8) (m : Nat) : (hCells s bg m).extract 0 8 = tab 8 (fun j => V32 (at32 s.list j)) := by
  have := tab_extract (n := 73) (f := hCell s bg m) (off := 0) (k := 8) (by decide)
  rw [show (0 + 8 : Nat) = 8 from rfl] at this
  unfold hCells
  rw [this]
  exact tab_congr fun j hj => by unfold hCell; rw [if_pos (by omega), Nat.zero_add]
theorem hCells_begun (s : St) (bg : List UInt8) (m : Nat) : (hCells s bg m).extract 8 72 = tab 64 (fun j => VB (at8 bg j)) := by
  have := tab_extract (n := 73) (f := hCell s bg m) (off := 8) (k := 64) (by decide)
  rw [show (8 + 64 : Nat) = 72 from rfl] at this
  unfold hCells
  rw [this]
  exact tab_congr fun j hj => by unfold hCell; rw [if_neg (by omega), if_pos (by omega), show 8 + j - 8 = j by omega]
theorem hCells_setState (s s' : St) (bg : List UInt8) (m : Nat) : splice (hCells s bg m) 0 (tab 8 (fun j => V32 (at32 s'.list j))).toList = hCells s' bg m := by
  have hl : (tab 8 (fun j => V32 (at32 s'.list j))).toList.length = 8 := by simp [tab]
  refine tab_splice (by rw [hl]; decide) fun j hj => ?_
  rw [hl, if_neg (by omega)]
  by_cases h : j < 8
  · rw [if_pos (by omega), Nat.sub_zero, Array.getElem?_toList, tab_get _ _ _ h]
    unfold hCell; rw [if_pos h]
  · rw [if_neg (by omega)]; unfold hCell; rw [if_neg h, if_neg h]

/-- bytes written over a block at a place -/
def putAt (bg : List UInt8) (at_ : Nat) (r : List UInt8) : List UInt8 := bg.take at_ ++ r ++ bg.drop (at_ + r.length)
theorem putAt_length (bg : List UInt8) (p : Nat) (r : List UInt8) (h : p + r.length ≤ bg.length) : (putAt bg p r).length = bg.length := by
  simp [putAt]; omega
theorem at8_putAt (bg : List UInt8) (p : Nat) (r : List UInt8) (h : p + r.length ≤ bg.length) (j : Nat) :
    at8 (putAt bg p r) j = if j < p then at8 bg j else if j < p + r.length then at8 r (j - p) else at8 bg j := by
  unfold at8 putAt
  rw [List.getD_eq_getElem?_getD, List.getD_eq_getElem?_getD, List.getD_eq_getElem?_getD, List.append_assoc, List.getElem?_append]
  have ht : (List.take p bg).length = p := by simp; omega
  rw [ht]
  by_cases h1 : j < p
  · rw [if_pos h1, if_pos h1, List.getElem?_take, if_pos h1]
  · rw [if_neg h1, if_neg h1, List.getElem?_append]
    by_cases h2 : j < p + r.length
    · rw [if_pos h2, if_pos (by omega)]
    · rw [if_neg h2, if_neg (by omega), List.getElem?_drop, show p + r.length + (j - p - r.length) = j by omega]
theorem hCells_put (s : St) (bg : List UInt8) (m p : Nat) (r : List UInt8) (hb : bg.length = 64) (h : p + r.length ≤ 64) : splice (hCells s bg m) (8 + p) (r.map VB) = hCells s (putAt bg p r) m := by
  refine tab_splice (by simp; omega) fun j hj => ?_
  rw [List.length_map]
  by_cases h8 : j < 8
  · rw [if_pos (by omega)]; unfold hCell; rw [if_pos h8, if_pos h8]
  · by_cases h72 : j < 72
    · have e := at8_putAt bg p r (by omega) (j - 8)
      by_cases h1 : j < 8 + p
      · rw [if_pos h1]; unfold hCell; rw [if_neg h8, if_neg h8, if_pos h72, if_pos h72, e, if_pos (by omega)]
      · rw [if_neg h1]
        by_cases h2 : j < 8 + p + r.length
        · rw [if_pos h2, List.getElem?_map]; unfold hCell; rw [if_neg h8, if_pos h72, e, if_neg (by omega), if_pos (by omega), show j - 8 - p = j - (8 + p) by omega]
          simp [at8, show j - (8 + p) < r.length by omega]
        · rw [if_neg h2]; unfold hCell; rw [if_neg h8, if_neg h8, if_pos h72, if_pos h72, e, if_neg (by omega), if_neg (by omega)]
    · rw [if_neg (by omega), if_neg (by omega)]; unfold hCell; rw [if_neg h8, if_neg h8, if_neg h72, if_neg h72]

/-- the block that isn't whole begins with what came behind the last whole one -/
structure HInv (M bg : List UInt8) : Prop where
  len : bg.length = 64
  eq : bg.take (M.length % 64) = M.drop (64 * (M.length / 64))
def stOf (M : List UInt8) : St := absorb M (M.length / 64)

theorem hinv_less (M bg R : List UInt8) (h : HInv M bg) (hR : M.length % 64 + R.length < 64) : HInv (M ++ R) (putAt bg (M.length % 64) R) ∧ stOf (M ++ R) = stOf M := by
  have hd : (M ++ R).length / 64 = M.length / 64 := by simp; omega
  have hm : (M ++ R).length % 64 = M.length % 64 + R.length := by simp; omega
  have hle : 64 * (M.length / 64) ≤ M.length := by omega
  refine ⟨⟨by rw [putAt_length _ _ _ (by rw [h.len]; omega), h.len], ?_⟩, ?_⟩
  · rw [hm, hd, List.drop_append_of_le_length hle, ← h.eq]
    unfold putAt
    rw [List.take_append_of_le_length (by simp [h.len]; omega), List.take_of_length_le (by simp; omega)]
  · unfold stOf; rw [hd]; exact absorb_append M R _ hle
theorem hinv_full (M bg R : List UInt8) (h : HInv M bg) (hR : M.length % 64 + R.length = 64) : HInv (M ++ R) (putAt bg (M.length % 64) R) ∧ stOf (M ++ R) = comp (stOf M) (putAt bg (M.length % 64) R) := by
  have hd : (M ++ R).length / 64 = M.length / 64 + 1 := by simp; omega
  have hm : (M ++ R).length % 64 = 0 := by simp; omega
  have hle : 64 * (M.length / 64) ≤ M.length := by omega
  refine ⟨⟨by rw [putAt_length _ _ _ (by rw [h.len]; omega), h.len], ?_⟩, ?_⟩
  · rw [hm, hd, List.take_zero, List.drop_eq_nil_of_le (by simp; omega)]
  · unfold stOf; rw [hd]
    show comp (absorb (M ++ R) (M.length / 64)) (((M ++ R).drop (64 * (M.length / 64))).take 64) = _
    rw [absorb_append M R _ hle, List.drop_append_of_le_length hle, ← h.eq]
    unfold putAt
    rw [List.drop_eq_nil_of_le (by rw [h.len]; omega), List.append_nil, List.take_of_length_le (by simp [h.len]; omega)]

end Go.Proofs.YtdeggdmoijfhdaaDoor

/-
  The walk of digest's '(*Hasher).addList': bytes are added to a hasher.
-/
namespace Go.Proofs.YtdeggdmoijfhdaaDoor
open Go.RowKit

/-- block g is a hasher to which these bytes were added -/
def IsHasher (w : World) (g : Nat) (M : List UInt8) : Prop := ∃ bg, HInv M bg ∧ Row w g 91 (hCells (stOf M) bg M.length)
def sliceLen : Value → Nat
  | .slice _ n _ => n
  | _ => 0
theorem IsVals.len {w : World} {v : Value} {l : List Value} (h : IsVals w v l) : sliceLen v = l.length := by
  obtain ⟨ao, c, rfl, _⟩ := h; rfl
theorem info_u64 : (Tryd.prog.info? 29).map (·.size) = some 1 := by kernel_rfl

def AddPost (w : World) (g : Nat) (M : List UInt8) (e : Ending) (w' : World) : Prop := e = .returned (.tuple #[]) ∧ IsHasher w' g M ∧ w.grownBy w' (some g)

theorem Keys.grown {w w' : World} {g : Nat} (h : Keys w) (hg : w.grownBy w' (some g)) (h0 : g ≠ 0) : Keys w' := fun i hi => by
  have hc := h i hi
  rw [World.cell?_of_block (w := w) (hg.block _ (block_lt_of_cell hc) (by simpa using fun e => h0 e.symm))]; exact hc

set_option maxRecDepth 100000 in
set_option maxHeartbeats 1000000 in
theorem addList_any (M L : List UInt8) (g : Nat) (v : Value) (w : World) (hK : Keys w) (hg0 : g ≠ 0) (hH : IsHasher w g M) (hv : IsVals w v (L.map VB)) (hne : L ≠ [] → v.ownBlock ≠ some g) (hlen : M.length + L.length < 1152921504606846976) :
    Calls Tryd.prog 55 #[.pointer (some ⟨g, 0, none⟩), v] w (AddPost w g (M ++ L)) := by
  go_enter Tryd.func55, Tryd.ntmps55
  go_wp2
  go_loopw [1] (fun b wr => ∃ D R : List UInt8, L = D ++ R ∧ IsVals wr b (R.map VB) ∧ (R ≠ [] → b.ownBlock ≠ some g) ∧ IsHasher wr g (M ++ D) ∧ w.grownBy wr (some g)) (fun b _ => sliceLen b)
  case atStart => exact ⟨[], L, rfl, hv, hne, by simpa using hH, World.grownBy.refl _ _⟩
  case round =>
    obtain ⟨D, R, hL, hvr, hner, hHr, hGr⟩ := hrel
    by_cases hR : R = []
    · subst hR
      go_wp2_with (first
        | ((with_reducible change wpList _ _ _ (Oper.mk (some 7) _ _ _ _ _ :: _) _ _); refine kLen _ _ _ _ _ rfl rfl rfl hvr Tryd.underlying57 ?_))
      go_end0
      exact ⟨rfl, by rw [hL, List.append_nil]; exact hHr, hGr⟩
    · obtain ⟨bg, hI, hRow⟩ := hHr
      have hlR : 0 < R.length := List.length_pos_iff.2 hR
      have hlp : (0 : Int) < ((R.map VB).length : Int) := by simp; omega
      have hmlen : (M ++ D).length + R.length < 1152921504606846976 := by rw [hL] at hlen; simp at hlen ⊢; omega
      have Hl := Lib.hid hL
      clear hL hv hne hH
      generalize hMM : M ++ D = N at *
      have HMM := Lib.hid hMM
      clear hMM
      have hat : N.length % 64 < 64 := Nat.mod_lt _ (by decide)
      by_cases hfull : 64 ≤ N.length % 64 + R.length
      · have hr : min R.length (64 - N.length % 64) = 64 - N.length % 64 := by omega
        have ht : (((N.length : Int) + ((min R.length (64 - N.length % 64) : Nat) : Int)) % 64 == 0) = true := by simp; omega
        have Hr := Lib.hid hr
        clear hr
        go_wp2_with (first
          | ((with_reducible change wpList _ _ _ (Oper.mk (some 7) _ _ _ _ _ :: _) _ _); refine kLen _ _ _ _ _ rfl rfl rfl hvr Tryd.underlying57 ?_)
          | ((with_reducible change wpList _ _ _ (Oper.mk (some 12) _ _ _ _ _ :: _) _ _); refine kLoad1 _ _ _ _ _ _ _ _ rfl rfl rfl hRow Tryd.underlying29 rfl (hCells_len _ _ _) ?_)
          | ((with_reducible change wpList _ _ _ (Oper.mk (some 18) _ _ _ _ _ :: _) _ _); refine kSliceArrFrom _ _ _ _ _ rfl rfl Tryd.underlying89 info_byte _ _ rfl _ _ (N.length % 64) rfl (by omega) hat ?_)
          | ((with_reducible change wpList _ _ _ (Oper.mk (some 20) _ _ _ _ _ :: _) _ _); refine kCopy _ _ _ _ _ _ rfl rfl Tryd.underlying57 info_byte _ _ _ _ rfl _ rfl _ hvr (vb_one R) _ hRow (by unfold hCells; rw [tab_size]; omega) ?_; intro w2 hR2 hW2; rw [← List.map_take, hCells_put _ _ _ _ _ hI.len (by rw [List.length_take]; omega)] at hR2)
          | ((with_reducible change wpList _ _ _ (Oper.mk (some 23) _ _ _ _ _ :: _) _ _); refine kSliceFrom _ _ _ _ rfl rfl Tryd.underlying57 info_byte u1 _ rfl (hvr.wrote hW2 (fun _ _ _ b hb e => hner hR (by rw [hb, e]))) _ _ (min R.length (64 - N.length % 64)) rfl (by simp) (by simp; omega) ?_; intro b3 hv3 ho3)
          | ((with_reducible change wpList _ _ _ (Oper.mk (some 27) _ _ _ _ _ :: _) _ _); refine kLoad1 _ _ _ _ _ _ _ _ rfl rfl rfl hR2 Tryd.underlying29 rfl (hCells_len _ _ _) ?_)
          | ((with_reducible change wpList _ _ _ (Oper.mk none (Op.store 29 _ _) _ _ _ _ :: _) _ _); refine kStore1 _ _ _ _ _ _ _ (.int .u64 ((N.length + min R.length (64 - N.length % 64) : Nat) : Int)) rfl rfl rfl (congrArg (Value.int IntKind.u64) (Int.natCast_add _ _).symm) hR2 info_u64 (by unfold hCells; rw [tab_size]; omega) rfl ?_; intro w4 hR4 hW4; rw [hCells_setLen] at hR4)
          | ((with_reducible change wpList _ _ _ (Oper.mk (some 36) _ _ _ _ _ :: _) _ _); refine kLoad1 _ _ _ _ _ _ _ _ rfl rfl rfl hR4 Tryd.underlying29 rfl (hCells_len _ _ _) ?_))
        have hlt' : (R.take (64 - N.length % 64)).length = 64 - N.length % 64 := by rw [List.length_take]; omega
        have hI' := hinv_full N bg (R.take (64 - N.length % 64)) hI (by rw [hlt']; omega)
        have hNl : (N ++ R.take (64 - N.length % 64)).length = N.length + min R.length (64 - N.length % 64) := by rw [List.length_append, hlt', Hr.out]
        have hG4 : w.grownBy w4 (some g) := ⟨(hW4.os.trans hW2.os).trans hGr.os, (hW4.tape.trans hW2.tape).trans hGr.tape, (hW4.output.trans hW2.output).trans hGr.output, by rw [hW4.size, hW2.size]; exact hGr.size, fun k hk hne' => by
          have hkg : k ≠ g := fun e => hne' (by rw [e])
          rw [hW4.other k hkg, hW2.other k hkg]; exact hGr.block k hk hne'⟩
        have hK4 := hK.grown hG4 hg0
        have hv4 := hv3.wrote hW4 (fun _ _ _ b hb e => hner hR (by rw [← ho3, hb, e]))
        rw [← hNl] at hR4
        have HNl := Lib.hid hNl
        clear hNl hR2 hW2 hW4 hv3 hRow ht hlp
        generalize hbg : putAt bg (N.length % 64) (R.take (64 - N.length % 64)) = bg2 at *
        have Hbg := Lib.hid hbg
        have HI := Lib.hid hI'
        have Hlt := Lib.hid hlt'
        clear hbg hI' hlt'
        refine region_below_tail 12 (by kernel_rfl) (by kernel_rfl) ?_
        simp only [List.take_succ_cons, List.take_zero, List.drop_succ_cons, List.drop_zero]
        repeat (first
          | ((with_reducible change wpQuiet _ _ _ _ (Oper.mk (some 43) _ _ _ _ _ :: _) _); refine qLoadAs _ _ _ _ _ _ _ _ _ rfl rfl rfl (fun _ hw => row_regrown hR4 hw) Tryd.underlying86 rfl info_state (by unfold hCells; rw [tab_size]; decide) (hCells_state _ _ _) ?_; go_frame)
          | ((with_reducible change wpQuiet _ _ _ _ (Oper.mk (some 47) _ _ _ _ _ :: _) _); refine qLoadAs _ _ _ _ _ _ _ _ _ rfl rfl rfl (fun _ hw => row_regrown hR4 hw) Tryd.underlying89 rfl info_block (by unfold hCells; rw [tab_size]; decide) (hCells_begun _ _ _) ?_; go_frame)
          | go_big_quiet_step ((go_at_call 60; exact Calls.regrown_of (mixed_any (stOf N) bg2 HI.out.1.len _ (hK4.below (below_regrown _ _ _))))))
        refine wpQuiet_nil ?_
        rintro _ ⟨p, rfl⟩
        have hbr := below_regrown w4 p.d p.os
        refine kStorePart _ _ _ _ _ _ _ _ rfl rfl rfl rfl (hR4.below hbr hR4.lt) (by rw [tab_size]; exact info_state) (by unfold hCells; rw [tab_size, tab_size]; decide) (tab_one _ _ fun _ _ => rfl) ?_
        intro w6 hR6 hW6
        rw [hCells_setState] at hR6
        have hv6 := (hv4.below hbr).wrote hW6 (fun _ _ _ b hb e => hner hR (by rw [← ho3, hb, e]))
        have hG6 : w.grownBy w6 (some g) := ⟨(hW6.os.trans hbr.os).trans hG4.os, (hW6.tape.trans hbr.tape).trans hG4.tape, (hW6.output.trans hbr.output).trans hG4.output, by rw [hW6.size]; exact Nat.le_trans hG4.size hbr.size, fun k hk hne' => by
          have hkg : k ≠ g := fun e => hne' (by rw [e])
          rw [hW6.other k hkg, hbr.block k (Nat.lt_of_lt_of_le hk hG4.size)]; exact hG4.block k hk hne'⟩
        go_frame
        go_wp2
        go_roundw
        case rel =>
          refine ⟨D ++ R.take (64 - N.length % 64), R.drop (64 - N.length % 64), by rw [List.append_assoc, List.take_append_drop]; exact Hl.out, ?_, fun _ => by rw [ho3]; exact hner hR, ⟨bg2, ?_, ?_⟩, hG6⟩
          · rw [Hr.out, ← List.map_drop] at hv6; exact hv6
          · rw [← List.append_assoc, HMM.out]; exact HI.out.1
          · rw [← List.append_assoc, HMM.out, HI.out.2]; exact hR6
        case measure =>
          rw [hv6.len, hvr.len, List.length_drop, List.length_map, Hr.out]
          omega
      · have hr : min R.length (64 - N.length % 64) = R.length := by omega
        have ht : (((N.length : Int) + ((min R.length (64 - N.length % 64) : Nat) : Int)) % 64 == 0) = false := by simp; omega
        have Hr := Lib.hid hr
        clear hr
        go_wp2_with (first
          | ((with_reducible change wpList _ _ _ (Oper.mk (some 7) _ _ _ _ _ :: _) _ _); refine kLen _ _ _ _ _ rfl rfl rfl hvr Tryd.underlying57 ?_)
          | ((with_reducible change wpList _ _ _ (Oper.mk (some 12) _ _ _ _ _ :: _) _ _); refine kLoad1 _ _ _ _ _ _ _ _ rfl rfl rfl hRow Tryd.underlying29 rfl (hCells_len _ _ _) ?_)
          | ((with_reducible change wpList _ _ _ (Oper.mk (some 18) _ _ _ _ _ :: _) _ _); refine kSliceArrFrom _ _ _ _ _ rfl rfl Tryd.underlying89 info_byte _ _ rfl _ _ (N.length % 64) rfl (by omega) hat ?_)
          | ((with_reducible change wpList _ _ _ (Oper.mk (some 20) _ _ _ _ _ :: _) _ _); refine kCopy _ _ _ _ _ _ rfl rfl Tryd.underlying57 info_byte _ _ _ _ rfl _ rfl _ hvr (vb_one R) _ hRow (by unfold hCells; rw [tab_size]; omega) ?_; intro w2 hR2 hW2; rw [← List.map_take, hCells_put _ _ _ _ _ hI.len (by rw [List.length_take]; omega)] at hR2)
          | ((with_reducible change wpList _ _ _ (Oper.mk (some 23) _ _ _ _ _ :: _) _ _); refine kSliceFrom _ _ _ _ rfl rfl Tryd.underlying57 info_byte u1 _ rfl (hvr.wrote hW2 (fun _ _ _ b hb e => hner hR (by rw [hb, e]))) _ _ (min R.length (64 - N.length % 64)) rfl (by simp) (by simp; omega) ?_; intro b3 hv3 ho3)
          | ((with_reducible change wpList _ _ _ (Oper.mk (some 27) _ _ _ _ _ :: _) _ _); refine kLoad1 _ _ _ _ _ _ _ _ rfl rfl rfl hR2 Tryd.underlying29 rfl (hCells_len _ _ _) ?_)
          | ((with_reducible change wpList _ _ _ (Oper.mk none (Op.store 29 _ _) _ _ _ _ :: _) _ _); refine kStore1 _ _ _ _ _ _ _ (.int .u64 ((N.length + min R.length (64 - N.length % 64) : Nat) : Int)) rfl rfl rfl (congrArg (Value.int IntKind.u64) (Int.natCast_add _ _).symm) hR2 info_u64 (by unfold hCells; rw [tab_size]; omega) rfl ?_; intro w4 hR4 hW4; rw [hCells_setLen] at hR4)
          | ((with_reducible change wpList _ _ _ (Oper.mk (some 36) _ _ _ _ _ :: _) _ _); refine kLoad1 _ _ _ _ _ _ _ _ rfl rfl rfl hR4 Tryd.underlying29 rfl (hCells_len _ _ _) ?_))
        have htk : R.take (64 - N.length % 64) = R := List.take_of_length_le (by omega)
        have hI' := hinv_less N bg R hI (by omega)
        rw [htk, Hr.out] at hR4
        have hG4 : w.grownBy w4 (some g) := ⟨(hW4.os.trans hW2.os).trans hGr.os, (hW4.tape.trans hW2.tape).trans hGr.tape, (hW4.output.trans hW2.output).trans hGr.output, by rw [hW4.size, hW2.size]; exact hGr.size, fun k hk hne' => by
          have hkg : k ≠ g := fun e => hne' (by rw [e])
          rw [hW4.other k hkg, hW2.other k hkg]; exact hGr.block k hk hne'⟩
        have hv4 := hv3.wrote hW4 (fun _ _ _ b hb e => hner hR (by rw [← ho3, hb, e]))
        rw [Hr.out, List.drop_eq_nil_of_le (by simp)] at hv4
        go_roundw
        case rel =>
          refine ⟨D ++ R, [], by rw [List.append_nil]; exact Hl.out, hv4, fun h => absurd rfl h, ⟨putAt bg (N.length % 64) R, ?_, ?_⟩, hG4⟩
          · rw [← List.append_assoc, HMM.out]; exact hI'.1
          · rw [← List.append_assoc, HMM.out, hI'.2, List.length_append]; exact hR4
        case measure =>
          rw [hv4.len, hvr.len, List.length_map]
          simp
          omega
end Go.Proofs.YtdeggdmoijfhdaaDoor

/-
  The walks of digest's firstState, New, (*Hasher).Add, (*Hasher).Sum and Sum: the sum of all lists' bytes.
-/
namespace Go.Proofs.YtdeggdmoijfhdaaDoor
open Go.RowKit

theorem build_state : ∀ w, (Instr.build 86 #[(0, .int .u32 1779033703), (1, .int .u32 3144134277), (2, .int .u32 1013904242), (3, .int .u32 2773480762), (4, .int .u32 1359893119), (5, .int .u32 2600822924), (6, .int .u32 528734635), (7, .int .u32 1541459225)]).run Tryd.prog w = .ok (.agg (tab 8 fun j => V32 (at32 st0.list j))) w := fun _ => by kernel_rfl
theorem build_hasher : ∀ w, (Instr.build 91 #[(0, .agg (tab 8 fun j => V32 (at32 st0.list j)))]).run Tryd.prog w = .ok (.agg (hCells st0 (List.replicate 64 0) 0)) w := fun _ => by kernel_rfl
theorem info_Hasher : (Tryd.prog.info? 91).map (·.size) = some 73 := by kernel_rfl
theorem zero_Hasher : ((Tryd.prog.info? 91).bind (·.zero)).map Value.cells = some (hCells ⟨0, 0, 0, 0, 0, 0, 0, 0⟩ (List.replicate 64 0) 0) := by kernel_rfl

/-- A composite value whose parts are known. -/
theorem kBuild {P : Program} {ops : Array Oper} {Q : Exit → Act → World → Prop} {rest : List Oper} {o : Oper} {a : Act} {w : World} (T : TypeId) (parts : Array (Nat × Operand)) (vs : Array (Nat × Value)) (v : Value) (ho : o.op = .build T parts) (hg : Region.wanted o (yielded ops a.tmps) = true)
    (hp : (parts.map fun (i, x) => (i, a.eval x)) = vs) (hr : ∀ w, (Instr.build T vs).run P w = .ok v w)
    (h : wpList P ops Q rest (a.put o.dst v) w) : wpList P ops Q (o :: rest) a w := by
  refine BigFrame.wpList_want hg fun K hK => ?_
  unfold Oper.wp execOp
  simp only [ho, hp, Sem.run_bind, hr, Result.andThen_ok, Sem.run_pure]
  exact hK _ _ h

set_option maxRecDepth 100000 in
set_option maxHeartbeats 400000 in
theorem firstState_any (w : World) :
    Calls Tryd.prog 54 #[] w fun e w' => e = .returned (.agg (tab 8 fun j => V32 (at32 st0.list j))) ∧ Below w.heap.size w w' := by
  go_enter Tryd.func54, Tryd.ntmps54
  go_wp2_with (first
    | ((with_reducible change wpList _ _ _ (Oper.mk (some 0) _ _ _ _ _ :: _) _ _); refine kAlloc _ _ rfl rfl zero_state ?_; intro w1 hR1 hs1 hB1)
    | ((with_reducible change wpList _ _ _ (Oper.mk (some 1) _ _ _ _ _ :: _) _ _); refine kBuild _ _ _ _ rfl rfl (by simp [Act.eval]) build_state ?_)
    | ((with_reducible change wpList _ _ _ (Oper.mk none _ _ _ _ _ :: _) _ _); refine kStoreRow _ _ _ _ _ _ _ rfl rfl rfl rfl hR1 (by rw [tab_size]; exact info_state) (by rw [tab_size, tab_size]) (tab_one _ _ fun _ _ => rfl) ?_; intro w2 hR2 hW2))
  exact result_row Tryd.results54 rfl hR2 Tryd.underlying86 rfl (by rw [tab_size]; exact info_state) rfl ⟨rfl, hB1.trans (hW2.below (Nat.le_refl _))⟩

def NewPost (w : World) (e : Ending) (w' : World) : Prop := ∃ g, e = .returned (.pointer (some ⟨g, 0, none⟩)) ∧ IsHasher w' g [] ∧ w.heap.size ≤ g ∧ Below w.heap.size w w'
theorem hinv_nil : HInv [] (List.replicate 64 0) := ⟨by simp, rfl⟩

set_option maxRecDepth 100000 in
set_option maxHeartbeats 400000 in
theorem New_any (w : World) : Calls Tryd.prog 49 #[] w (NewPost w) := by
  go_enter Tryd.func49, Tryd.ntmps49
  go_wp2_with (first
    | (go_at_call 54; refine (firstState_any _).mono ?_; rintro e w1 ⟨rfl, hB1⟩)
    | ((with_reducible change wpList _ _ _ (Oper.mk (some 2) _ _ _ _ _ :: _) _ _); refine kBuild _ _ _ _ rfl rfl (by simp [Act.eval]) build_hasher ?_)
    | ((with_reducible change wpList _ _ _ (Oper.mk (some 3) _ _ _ _ _ :: _) _ _); refine kBox _ _ _ rfl rfl rfl ?_; intro w2 hR2 hs2 hB2))
  go_ret
  exact ⟨_, rfl, ⟨_, hinv_nil, hR2⟩, hB1.size, hB1.trans (hB2.mono hB1.size)⟩

theorem IsVals.grown {w w' : World} {v : Value} {l : List Value} {g : Nat} (h : IsVals w v l) (hg : w.grownBy w' (some g)) (hne : l ≠ [] → v.ownBlock ≠ some g) : IsVals w' v l := by
  obtain ⟨ao, c, rfl, hc, hn, hj⟩ := h
  refine ⟨ao, c, rfl, hc, hn, fun j u hu => ?_⟩
  obtain ⟨a, rfl, hcell⟩ := hj j u hu
  have hl : l ≠ [] := fun e => by rw [e] at hu; simp at hu
  have hb : a.block ≠ g := fun e => hne hl (by rw [← e]; rfl)
  have hblk : (a.add j).block = a.block := by unfold Addr.add; split <;> rfl
  exact ⟨a, rfl, by rw [World.cell?_of_block (w := w) (hg.block _ (block_lt_of_cell hcell) (by rw [hblk]; simpa using hb))]; exact hcell⟩

/-- the value reads as a list of lists of bytes, none of it in block g -/
def IsLists (w : World) (g : Nat) (v : Value) (Ls : List (List UInt8)) : Prop :=
  ∃ vs : List Value, vs.length = Ls.length ∧ IsVals w v vs ∧ (vs ≠ [] → v.ownBlock ≠ some g) ∧
    ∀ (i : Nat) (x : Value) (L : List UInt8), vs[i]? = some x → Ls[i]? = some L → IsVals w x (L.map VB) ∧ (L ≠ [] → x.ownBlock ≠ some g)
theorem IsLists.grown {w w' : World} {g : Nat} {v : Value} {Ls : List (List UInt8)} (h : IsLists w g v Ls) (hg : w.grownBy w' (some g)) : IsLists w' g v Ls := by
  obtain ⟨vs, hl, hv, hne, hi⟩ := h
  refine ⟨vs, hl, hv.grown hg hne, hne, fun i x L hx hL => ?_⟩
  obtain ⟨h1, h2⟩ := hi i x L hx hL
  exact ⟨h1.grown hg (fun e => h2 (fun e2 => e (by rw [e2]; rfl))), h2⟩
theorem info_bytes : (Tryd.prog.info? 57).map (·.size) = some 1 := by kernel_rfl

theorem flatten_take_succ (Ls : List (List UInt8)) (k : Nat) (h : k < Ls.length) : (Ls.take (k + 1)).flatten = (Ls.take k).flatten ++ Ls[k] := by
  rw [List.take_succ_eq_append_getElem h, List.flatten_append]; simp
theorem flatten_take_len (Ls : List (List UInt8)) (k : Nat) (h : k < Ls.length) : ((Ls.take k).flatten).length + Ls[k].length ≤ Ls.flatten.length := by
  have h1 := flatten_take_succ Ls k h
  have h2 : Ls.flatten = (Ls.take (k + 1)).flatten ++ (Ls.drop (k + 1)).flatten := by rw [← List.flatten_append, List.take_append_drop]
  rw [h2, h1]; simp

set_option maxRecDepth 100000 in
set_option maxHeartbeats 400000 in
theorem Add_any (M : List UInt8) (Ls : List (List UInt8)) (g : Nat) (v : Value) (w : World) (hK : Keys w) (hg0 : g ≠ 0) (hH : IsHasher w g M) (hv : IsLists w g v Ls) (hn : Ls.length ≤ 1000000) (hlen : M.length + Ls.flatten.length < 1152921504606846976) :
    Calls Tryd.prog 50 #[.pointer (some ⟨g, 0, none⟩), v] w (AddPost w g (M ++ Ls.flatten)) := by
  obtain ⟨vs, hl, hvs, hne, hi⟩ := hv
  have hn' : vs.length ≤ 1000000 := by omega
  have Hl := Lib.hid hl
  clear hl
  go_enter Tryd.func50, Tryd.ntmps50
  go_wp2_with (first
    | ((with_reducible change wpList _ _ _ (Oper.mk (some 7) _ _ _ _ _ :: _) _ _); refine kLen _ _ _ _ _ rfl rfl rfl hvs Tryd.underlying71 ?_))
  go_loopw [8] (fun i wr => ∃ k : Nat, k ≤ vs.length ∧ i = .int .i64 k ∧ IsHasher wr g (M ++ (Ls.take k).flatten) ∧ w.grownBy wr (some g)) (fun i _ => vs.length - (intOf i).toNat)
  case atStart => exact ⟨0, by omega, rfl, by simpa using hH, World.grownBy.refl _ _⟩
  case round =>
    obtain ⟨k, hk, rfl, hHr, hGr⟩ := hrel
    by_cases hlt : k < vs.length
    · have hd : decide ((k : Int) < (vs.length : Int)) = true := by simp; omega
      have hkL : k < Ls.length := by rw [← Hl.out]; exact hlt
      obtain ⟨hx1, hx2⟩ := hi k vs[k] Ls[k] (by simp [hlt]) (by simp [hkL])
      have hxr := hx1.grown hGr (fun e => hx2 (fun e2 => e (by rw [e2]; rfl)))
      have hvr := hvs.grown hGr hne
      have hKr := hK.grown hGr hg0
      have hfl := flatten_take_len Ls k hkL
      go_wp2_with (first
        | ((with_reducible change wpList _ _ _ (Oper.mk (some 10) _ _ _ _ _ :: _) _ _); refine kIndexAddrV _ _ _ _ _ _ _ _ k vs[k] rfl rfl rfl hvr rfl Tryd.underlying71 info_bytes rfl (by simp [hlt]) ?_; intro b hb)
        | ((with_reducible change wpList _ _ _ (Oper.mk (some 11) _ _ _ _ _ :: _) _ _); refine kLoadCell _ _ _ _ _ rfl rfl rfl hb Tryd.underlying57 rfl ?_)
        | (go_at_call 55; refine (addList_any _ _ _ _ _ hKr hg0 hHr hxr hx2 (by rw [List.length_append]; omega)).mono ?_; rintro e w2 ⟨rfl, hH2, hG2⟩))
      go_roundw
      case rel =>
        refine ⟨k + 1, by omega, by go_num, by rw [flatten_take_succ Ls k hkL, ← List.append_assoc]; exact hH2, ⟨hG2.os.trans hGr.os, hG2.tape.trans hGr.tape, hG2.output.trans hGr.output, Nat.le_trans hGr.size hG2.size, fun j hj hne' => ?_⟩⟩
        rw [hG2.block j (Nat.lt_of_lt_of_le hj hGr.size) hne']; exact hGr.block j hj hne'
      case measure => simp [intOf]; omega
    · have hd : decide ((k : Int) < (vs.length : Int)) = false := by simp; omega
      rw [List.take_of_length_le (by rw [← Hl.out]; omega)] at hHr
      go_wp2
      go_end0
      exact ⟨rfl, hHr, hGr⟩

theorem stOf_padded (M : List UInt8) : (stOf (M ++ tailOf M.length)).bytes = sha M := rfl

set_option maxRecDepth 100000 in
set_option maxHeartbeats 400000 in
theorem HSum_any (M : List UInt8) (g : Nat) (w : World) (hK : Keys w) (hH : IsHasher w g M) (hlen : M.length < 1000000000000) :
    Calls Tryd.prog 51 #[.pointer (some ⟨g, 0, none⟩)] w fun e w' => e = .returned (.agg (tab 32 fun p => VB (at8 (sha M) p))) ∧ Below w.heap.size w w' := by
  obtain ⟨bg, hI, hRow⟩ := hH
  have hlt := hRow.lt
  have h0w : 0 < w.heap.size := block_lt_of_cell (hK 0 (by decide))
  have htl : (tailOf M.length).length ≤ 100 := by simp [tailOf, be64]; omega
  go_enter Tryd.func51, Tryd.ntmps51
  go_wp2_with (first
    | ((with_reducible change wpList _ _ _ (Oper.mk (some 2) _ _ _ _ _ :: _) _ _); refine kAlloc _ _ rfl rfl zero_Hash ?_; intro w1 hR1 hs1 hB1)
    | ((with_reducible change wpList _ _ _ (Oper.mk (some 6) _ _ _ _ _ :: _) _ _); refine kLoadRow _ _ _ _ _ _ rfl rfl rfl (hRow.below hB1 hlt) Tryd.underlying91 rfl (by unfold hCells; rw [tab_size]; exact info_Hasher) ?_)
    | ((with_reducible change wpList _ _ _ (Oper.mk (some 3) _ _ _ _ _ :: _) _ _); refine kAlloc _ _ rfl rfl zero_Hasher ?_; intro w2 hR2 hs2 hB2)
    | ((with_reducible change wpList _ _ _ (Oper.mk none (Op.store 91 _ _) _ _ _ _ :: _) _ _); refine kStoreRow _ _ _ _ _ _ _ rfl rfl rfl rfl hR2 (by unfold hCells; rw [tab_size]; exact info_Hasher) (by unfold hCells; rw [tab_size, tab_size]) (tab_one _ _ fun _ _ => hCell_one _ _ _ _) ?_; intro w3 hR3 hW3)
    | ((with_reducible change wpList _ _ _ (Oper.mk (some 10) _ _ _ _ _ :: _) _ _); refine kLoad1 _ _ _ _ _ _ _ _ rfl rfl rfl (hW3.row ((hRow.below hB1 hlt).below hB2 (by omega)) (by omega)) Tryd.underlying29 rfl (hCells_len _ _ _) ?_)
    | (go_at_call 56; refine (ending_any _ (by omega) _).mono ?_; rintro e w4 ⟨v4, rfl, hO4, hB4⟩))
  have h3 := hW3.size
  rw [hs1] at hR3
  have hb4 := hB4.size
  have hB04 : Below w.heap.size w w4 := ((hB1.trans (hB2.mono (by omega))).trans (hW3.below (by omega))).trans (hB4.mono (by omega))
  have hR14 := (hW3.row (hR1.below hB2 (by omega)) (by omega)).below hB4 (by omega)
  have hne : v4.ownBlock ≠ some (w.heap.size + 1) := fun e => by have := (World.ownsRow.lt hO4 _ e).1; omega
  refine (addList_any M (tailOf M.length) (w.heap.size + 1) v4 w4 (hK.below hB04) (by omega) ⟨bg, hI, hR3.below hB4 (by omega)⟩ hO4.vals (fun _ => hne) (by omega)).mono ?_
  rintro e w5 ⟨rfl, ⟨bg5, hI5, hR5⟩, hG5⟩
  have hB5 : Below w.heap.size w4 w5 := (Below.refl _ _).grown hG5 (by omega) (fun k hk => by cases hk; omega)
  have hR15 : Row w5 w.heap.size 24 (tab 32 fun _ => VB 0) := by unfold Row; rw [hG5.block _ (by omega) (by simp)]; exact hR14
  have hs5 := hG5.size
  have hlt5 : w.heap.size + 1 < w5.heap.size := by omega
  clear hR1 hR2 hR3 hR14 hs1 hs2 hB1 hB2 hB4 hW3 hO4 h3
  go_wp2_with (first
    | ((with_reducible change wpList _ _ _ (Oper.mk (some 14) _ _ _ _ _ :: _) _ _); refine kLoadAs _ _ _ _ _ _ _ _ _ rfl rfl rfl hR5 Tryd.underlying86 rfl info_state (by unfold hCells; rw [tab_size]; decide) (hCells_state _ _ _) ?_)
    | (go_at_call 57; refine (hash_any _ _).mono ?_; rintro e w6 ⟨rfl, hB6⟩)
    | ((with_reducible change wpList _ _ _ (Oper.mk none _ _ _ _ _ :: _) _ _); refine kStoreRow _ _ _ _ _ _ _ rfl rfl rfl rfl (hR15.below hB6 (by omega)) (by rw [tab_size]; exact info_Hash) (by rw [tab_size, tab_size]) (tab_one _ _ fun _ _ => rfl) ?_; intro w7 hR7 hW7))
  rw [tab_congr (g := fun p => VB (at8 (sha M) p)) (fun p hp => by rw [hbyte_bytes _ _ hp, stOf_padded])] at hR7
  exact result_row Tryd.results51 rfl hR7 Tryd.underlying24 rfl (by rw [tab_size]; exact info_Hash) rfl ⟨rfl, ((hB04.trans hB5).trans (hB6.mono (by omega))).trans (hW7.below (Nat.le_refl _))⟩

theorem IsHasher.keysApart {w : World} (hK : Keys w) {g : Nat} (h : w.heap.size ≤ g) : g ≠ 0 := by
  have := block_lt_of_cell (hK 0 (by decide)); simp at this; omega
theorem AreLists.apart {w w' : World} {v : Value} {Ls : List (List UInt8)} (h : AreLists w v Ls) (hb : Below w.heap.size w w') {g : Nat} (hg : w.heap.size ≤ g) : IsLists w' g v Ls := by
  obtain ⟨vs, hl, hv, hi⟩ := h
  refine ⟨vs, hl, hv.below hb, hv.old hg, fun i x L hx hL => ⟨(hi i x L hx hL).below hb, fun hne => (hi i x L hx hL).old hg (fun e => hne (by simpa using e))⟩⟩
set_option maxRecDepth 100000 in
set_option maxHeartbeats 400000 in
theorem Sum_any (Ls : List (List UInt8)) (v : Value) (w : World) (hK : Keys w) (hv : AreLists w v Ls) (hn : Ls.length ≤ 1000000) (hlen : Ls.flatten.length < 1000000000000) :
    Calls Tryd.prog 42 #[v] w fun e w' => e = .returned (.agg (tab 32 fun p => VB (at8 (sha Ls.flatten) p))) ∧ Below w.heap.size w w' := by
  have h0w : 0 < w.heap.size := block_lt_of_cell (hK 0 (by decide))
  go_enter Tryd.func42, Tryd.ntmps42
  go_wp2_with (first
    | ((with_reducible change wpList _ _ _ (Oper.mk (some 2) _ _ _ _ _ :: _) _ _); refine kAlloc _ _ rfl rfl zero_Hash ?_; intro w1 hR1 hs1 hB1)
    | (go_at_call 49; refine (New_any _).mono ?_; rintro e w2 ⟨g, rfl, hH2, hg, hB2⟩))
  have hs2 := hB2.size
  have hB02 : Below w.heap.size w w2 := hB1.trans (hB2.mono (by omega))
  have hK2 := hK.below hB02
  refine (Add_any [] Ls g v w2 hK2 (by omega) hH2 (hv.apart hB02 (by omega)) hn (by simpa using (by omega : Ls.flatten.length < 1152921504606846976))).mono ?_
  rintro e w3 ⟨rfl, hH3, hG3⟩
  rw [List.nil_append] at hH3
  have hK3 := hK2.grown hG3 (by omega)
  have hR3 : Row w3 w.heap.size 24 (tab 32 fun _ => VB 0) := by
    unfold Row; rw [hG3.block _ (by omega) (by simp; omega)]; exact hR1.below hB2 (by omega)
  have hB3 : Below w.heap.size w w3 := hB02.trans ((Below.refl _ _).grown hG3 (by omega) (fun k hk => by cases hk; omega))
  have hs3 := hG3.size
  have hlt3 : w.heap.size < w3.heap.size := by omega
  clear hR1 hs1 hB1 hs2 hH2 hB2 hG3
  go_wp2_with (first
    | (go_at_call 51; refine (HSum_any _ _ _ hK3 hH3 hlen).mono ?_; rintro e w4 ⟨rfl, hB4⟩)
    | ((with_reducible change wpList _ _ _ (Oper.mk none _ _ _ _ _ :: _) _ _); refine kStoreRow _ _ _ _ _ _ _ rfl rfl rfl rfl (hR3.below hB4 hlt3) (by rw [tab_size]; exact info_Hash) (by rw [tab_size, tab_size]) (tab_one _ _ fun _ _ => rfl) ?_; intro w5 hR5 hW5))
  exact result_row Tryd.results42 rfl hR5 Tryd.underlying24 rfl (by rw [tab_size]; exact info_Hash) rfl ⟨rfl, (hB3.trans (hB4.mono (by omega))).trans (hW5.below (Nat.le_refl _))⟩
end Go.Proofs.YtdeggdmoijfhdaaDoor
