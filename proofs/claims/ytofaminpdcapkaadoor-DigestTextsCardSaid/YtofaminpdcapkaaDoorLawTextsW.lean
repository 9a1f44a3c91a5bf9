/-
  The walk of the statement DigestTexts.
-/
import Derived.Test.YtofaminpdcapkaaDoorDigParse
import Derived.Test.YtofaminpdcapkaaDoorRText
namespace Go.Proofs.YtofaminpdcapkaaDoor
open Go Go.RowKit

theorem Parse_text (h : List UInt8) (w : World) :
    Calls Tryd.prog 20 #[textV (textTo h 32)] w fun e w' => e = .returned (.tuple #[.agg (tab 32 fun p => VB (at8 h p)), .bool true]) ∧ Below w.heap.size w w' := by
  refine (Parse_any (textTo h 32) w (by rw [textTo_len]; decide)).mono ?_
  rintro e w' ⟨rfl, hB⟩
  refine ⟨?_, hB⟩
  rw [okHex_text, tab_congr (g := fun p => VB (at8 h p)) (fun p hp => by rw [if_pos rfl, hexAt_text h p hp])]
def hexRow (s : List UInt8) : List UInt8 := (List.range 32).map (hexAt s)
theorem hexRow_at (s : List UInt8) (p : Nat) (hp : p < 32) : at8 (hexRow s) p = hexAt s p := by
  unfold hexRow; rw [at8_lt _ _ (by simpa using hp)]; simp
theorem Parse_good (s : List UInt8) (w : World) (hs : s.length ≤ 1000000) (hok : okHex s = true) :
    Calls Tryd.prog 20 #[textV s] w fun e w' => e = .returned (.tuple #[.agg (tab 32 fun p => VB (at8 (hexRow s) p)), .bool true]) ∧ Below w.heap.size w w' := by
  refine (Parse_any s w hs).mono ?_
  rintro e w' ⟨rfl, hB⟩
  refine ⟨?_, hB⟩
  rw [hok, tab_congr (g := fun p => VB (at8 (hexRow s) p)) (fun p hp => by rw [if_pos rfl, hexRow_at s p hp])]
theorem Parse_bad (s : List UInt8) (w : World) (hs : s.length ≤ 1000000) (hok : okHex s = false) :
    Calls Tryd.prog 20 #[textV s] w fun e w' => e = .returned (.tuple #[.agg (tab 32 fun _ => VB 0), .bool false]) ∧ Below w.heap.size w w' := by
  refine (Parse_any s w hs).mono ?_
  rintro e w' ⟨rfl, hB⟩
  refine ⟨?_, hB⟩
  rw [hok, tab_congr (g := fun _ => VB 0) (fun p hp => by rw [if_neg (by decide)])]

theorem len64 (s : List UInt8) : (((s.length : Nat) : Int) == 64) = (decide (s.length = 64) && digsTo s 0) := by
  by_cases h : s.length = 64
  · rw [h]; rfl
  · rw [decide_eq_false h]; simp; omega
theorem okHex_len (s : List UInt8) (h : okHex s = false) : (decide (s.length = 64) && digsTo s s.length) = false := by
  by_cases e : s.length = 64
  · unfold okHex at h; rw [e] at h ⊢; exact h
  · rw [decide_eq_false e]; rfl

set_option maxRecDepth 100000 in
set_option maxHeartbeats 1000000 in
theorem DigestTexts_any (h s : List UInt8) (w : World) (hK : Keys w) :
    Calls Tryd.prog 6 #[.agg (tab 32 fun p => VB (at8 h p)), textV s] w fun e w' => e = .returned (.bool true) ∧ Below w.heap.size w w' := by
  by_cases hl : s.length ≤ 200
  · have hd : decide ((s.length : Int) > 200) = false := by simp; omega
    cases hok : okHex s
    · have Hok := Lib.hid hok
      clear hok
      go_enter Tryd.func6, Tryd.ntmps6
      go_wp2_with (first
        | ((with_reducible change wpList _ _ _ (Oper.mk (some 2) _ _ _ _ _ :: _) _ _); refine kBox _ _ _ rfl rfl rfl ?_; intro w1 hR1 hz1 hB1)
        | (go_at_call 10; refine (alive_any _ (hK.below hB1)).mono ?_; rintro e w2 ⟨rfl, hB2⟩)
        | ((with_reducible change wpList _ _ _ (Oper.mk (some 14) _ _ _ _ _ :: _) _ _); refine kLenStr _ _ _ rfl rfl rfl Tryd.underlying9 ?_)
        | ((with_reducible change wpList _ _ _ (Oper.mk (some 17) _ _ _ _ _ :: _) _ _); refine kLoadRow _ _ _ _ _ _ rfl rfl rfl (hR1.below hB2 hR1.lt) Tryd.underlying23 rfl (by rw [tab_size]; exact info_Hash) ?_)
        | (go_at_call 11; refine (Text_any _ _).mono ?_; rintro e w3 ⟨rfl, hB3⟩)
        | (go_at_call 20; (with_reducible change Calls _ _ #[textV (textTo _ _)] _ _); refine (Parse_text h _).mono ?_; rintro e w4 ⟨rfl, hB4⟩)
        | ((with_reducible change wpList _ _ _ (Oper.mk (some 5) _ _ _ _ _ :: _) _ _); refine kAlloc _ _ rfl rfl zero_Hash ?_; intro w5 hR5 hz5 hB5)
        | ((with_reducible change wpList _ _ _ (Oper.mk none (Op.store _ (Operand.tmp 5) _) _ _ _ _ :: _) _ _); refine kStoreRow _ _ _ _ _ _ _ rfl rfl rfl rfl hR5 (by rw [tab_size]; exact info_Hash) (by simp only [tab_size]) (tab_one _ _ fun _ _ => rfl) ?_; intro w6 hR6 hW6)
        | (go_at_call 20; refine (Parse_bad s _ (by omega) Hok.out).mono ?_; rintro e w7 ⟨rfl, hB7⟩)
        | ((with_reducible change wpList _ _ _ (Oper.mk (some 7) _ _ _ _ _ :: _) _ _); refine kAlloc _ _ rfl rfl zero_Hash ?_; intro w8 hR8 hz8 hB8)
        | ((with_reducible change wpList _ _ _ (Oper.mk none (Op.store _ (Operand.tmp 7) _) _ _ _ _ :: _) _ _); refine kStoreRow _ _ _ _ _ _ _ rfl rfl rfl rfl hR8 (by rw [tab_size]; exact info_Hash) (by simp only [tab_size]) (tab_one _ _ fun _ _ => rfl) ?_; intro w9 hR9 hW9)
        | ((with_reducible change wpList _ _ _ (Oper.mk (some 48) _ _ _ _ _ :: _) _ _); refine kLenStr _ _ _ rfl rfl rfl Tryd.underlying9 ?_))
      have hs6 := hW6.size
      have hs9 := hW9.size
      have hl2 := hB2.size
      have hl3 := hB3.size
      have hl4 := hB4.size
      have hl7 := hB7.size
      have hA : Row w9 w.heap.size 23 (tab 32 fun p => VB (at8 h p)) := hW9.row (((hW6.row ((((hR1.below hB2 (by omega)).below hB3 (by omega)).below hB4 (by omega)).below hB5 (by omega)) (by omega)).below hB7 (by omega)).below hB8 (by omega)) (by omega)
      have hC : Row w9 w4.heap.size 23 (tab 32 fun p => VB (at8 h p)) := hW9.row ((hR6.below hB7 (by omega)).below hB8 (by omega)) (by omega)
      have hB : Below w.heap.size w w9 := ((((((((hB1.trans (hB2.mono (by omega))).trans (hB3.mono (by omega))).trans (hB4.mono (by omega))).trans (hB5.mono (by omega))).trans (hW6.below (by omega))).trans (hB7.mono (by omega))).trans (hB8.mono (by omega))).trans (hW9.below (by omega)))
      clear hR1 hz1 hB1 hB2 hB3 hB4 hR5 hz5 hB5 hR6 hW6 hB7 hR8 hz8 hB8 hW9 hs6 hs9 hl2 hl3 hl4 hl7 hd
      go_loopw [10, 9] (fun i v wr => ∃ k : Nat, k ≤ s.length ∧ i = .int .i64 k ∧ v = .bool (decide (s.length = 64) && digsTo s k) ∧ wr = w9) (fun i _ _ => s.length - (intOf i).toNat)
      case atStart => exact ⟨0, by omega, rfl, congrArg Value.bool (len64 s), rfl⟩
      case round =>
        obtain ⟨k, hk, rfl, rfl, rfl⟩ := hrel
        by_cases hlt : k < s.length
        · have hd : decide ((k : Int) < (s.length : Int)) = true := by simp; omega
          have hlo := B_lo (at8 s k)
          have hhi := B_hi (at8 s k)
          generalize hb : (decide (s.length = 64) && digsTo s k) = b
          cases b
          · have Hb := Lib.hid hb
            clear hb
            go_wp2_with (first
            | ((with_reducible change wpList _ _ _ (Oper.mk (some 52) _ _ _ _ _ :: _) _ _); refine kLenStr _ _ _ rfl rfl rfl Tryd.underlying9 ?_)
            | ((with_reducible change wpList _ _ _ (Oper.mk _ (Op.index _ _ _) _ _ _ _ :: _) _ _); refine kIndexStr _ _ _ _ _ k s rfl rfl rfl rfl Tryd.underlying9 rfl hlt ?_))
            go_roundw
            case rel => exact ⟨k + 1, by omega, by go_num, by rw [digsTo_succ, ← Bool.and_assoc, Hb.out]; rfl, by trivial⟩
            case measure => simp [intOf]; omega
          · have Hb := Lib.hid hb
            clear hb
            by_cases h1 : 48 ≤ B (at8 s k)
            · by_cases h2 : B (at8 s k) ≤ 57
              · have Hf := Lib.hid (B_sub48 _ h1 h2).2
                go_wp2_with (first
            | ((with_reducible change wpList _ _ _ (Oper.mk (some 52) _ _ _ _ _ :: _) _ _); refine kLenStr _ _ _ rfl rfl rfl Tryd.underlying9 ?_)
            | ((with_reducible change wpList _ _ _ (Oper.mk _ (Op.index _ _ _) _ _ _ _ :: _) _ _); refine kIndexStr _ _ _ _ _ k s rfl rfl rfl rfl Tryd.underlying9 rfl hlt ?_))
                go_roundw
                case rel => exact ⟨k + 1, by omega, by go_num, by rw [digsTo_succ, ← Bool.and_assoc, Hb.out, Hf.out]; rfl, by trivial⟩
                case measure => simp [intOf]; omega
              · by_cases h3 : 97 ≤ B (at8 s k)
                · by_cases h4 : B (at8 s k) ≤ 102
                  · have Hf := Lib.hid (B_sub87 _ h3 h4).2
                    go_wp2_with (first
            | ((with_reducible change wpList _ _ _ (Oper.mk (some 52) _ _ _ _ _ :: _) _ _); refine kLenStr _ _ _ rfl rfl rfl Tryd.underlying9 ?_)
            | ((with_reducible change wpList _ _ _ (Oper.mk _ (Op.index _ _ _) _ _ _ _ :: _) _ _); refine kIndexStr _ _ _ _ _ k s rfl rfl rfl rfl Tryd.underlying9 rfl hlt ?_))
                    go_roundw
                    case rel => exact ⟨k + 1, by omega, by go_num, by rw [digsTo_succ, ← Bool.and_assoc, Hb.out, Hf.out]; rfl, by trivial⟩
                    case measure => simp [intOf]; omega
                  · have Hf := Lib.hid (B_noDig (at8 s k) (by omega) (by omega)).2
                    go_wp2_with (first
            | ((with_reducible change wpList _ _ _ (Oper.mk (some 52) _ _ _ _ _ :: _) _ _); refine kLenStr _ _ _ rfl rfl rfl Tryd.underlying9 ?_)
            | ((with_reducible change wpList _ _ _ (Oper.mk _ (Op.index _ _ _) _ _ _ _ :: _) _ _); refine kIndexStr _ _ _ _ _ k s rfl rfl rfl rfl Tryd.underlying9 rfl hlt ?_))
                    go_roundw
                    case rel => exact ⟨k + 1, by omega, by go_num, by rw [digsTo_succ, ← Bool.and_assoc, Hb.out, Hf.out]; rfl, by trivial⟩
                    case measure => simp [intOf]; omega
                · have Hf := Lib.hid (B_noDig (at8 s k) (by omega) (by omega)).2
                  go_wp2_with (first
            | ((with_reducible change wpList _ _ _ (Oper.mk (some 52) _ _ _ _ _ :: _) _ _); refine kLenStr _ _ _ rfl rfl rfl Tryd.underlying9 ?_)
            | ((with_reducible change wpList _ _ _ (Oper.mk _ (Op.index _ _ _) _ _ _ _ :: _) _ _); refine kIndexStr _ _ _ _ _ k s rfl rfl rfl rfl Tryd.underlying9 rfl hlt ?_))
                  go_roundw
                  case rel => exact ⟨k + 1, by omega, by go_num, by rw [digsTo_succ, ← Bool.and_assoc, Hb.out, Hf.out]; rfl, by trivial⟩
                  case measure => simp [intOf]; omega
            · have Hf := Lib.hid (B_noDig (at8 s k) (by omega) (by omega)).2
              go_wp2_with (first
            | ((with_reducible change wpList _ _ _ (Oper.mk (some 52) _ _ _ _ _ :: _) _ _); refine kLenStr _ _ _ rfl rfl rfl Tryd.underlying9 ?_)
            | ((with_reducible change wpList _ _ _ (Oper.mk _ (Op.index _ _ _) _ _ _ _ :: _) _ _); refine kIndexStr _ _ _ _ _ k s rfl rfl rfl rfl Tryd.underlying9 rfl hlt ?_))
              go_roundw
              case rel => exact ⟨k + 1, by omega, by go_num, by rw [digsTo_succ, ← Bool.and_assoc, Hb.out, Hf.out]; rfl, by trivial⟩
              case measure => simp [intOf]; omega
        · have hkk : k = s.length := by omega
          have hfin : (decide (s.length = 64) && digsTo s k) = false := by rw [hkk]; exact okHex_len s Hok.out
          have hd : decide ((k : Int) < (s.length : Int)) = false := by simp; omega
          rw [hfin]
          clear hfin hkk
          go_wp2_with (first
            | ((with_reducible change wpList _ _ _ (Oper.mk (some 52) _ _ _ _ _ :: _) _ _); refine kLenStr _ _ _ rfl rfl rfl Tryd.underlying9 ?_)
            | ((with_reducible change wpList _ _ _ (Oper.mk _ (Op.index _ _ _) _ _ _ _ :: _) _ _); refine kIndexStr _ _ _ _ _ k s rfl rfl rfl rfl Tryd.underlying9 rfl hlt ?_))
          refine region_below_tail 22 (by kernel_rfl) (by kernel_rfl) ?_
          simp only [List.take_succ_cons, List.take_zero, List.drop_succ_cons, List.drop_zero]
          repeat (first
            | ((with_reducible change wpQuiet _ _ _ _ (Oper.mk _ (Op.load _ (Operand.tmp 5)) _ _ _ _ :: _) _); refine qLoadRow _ _ _ _ _ _ rfl rfl rfl (fun _ hw => row_regrown hC hw) Tryd.underlying23 rfl (by rw [tab_size]; exact info_Hash) ?_; go_frame)
            | ((with_reducible change wpQuiet _ _ _ _ (Oper.mk _ (Op.load _ (Operand.tmp 2)) _ _ _ _ :: _) _); refine qLoadRow _ _ _ _ _ _ rfl rfl rfl (fun _ hw => row_regrown hA hw) Tryd.underlying23 rfl (by rw [tab_size]; exact info_Hash) ?_; go_frame)
            | ((with_reducible change wpQuiet _ _ _ _ (Oper.mk _ (Op.load _ (Operand.tmp 7)) _ _ _ _ :: _) _); refine qLoadRow _ _ _ _ _ _ rfl rfl rfl (fun _ hw => row_regrown hR9 hw) Tryd.underlying23 rfl (by rw [tab_size]; exact info_Hash) ?_; go_frame)
            | ((with_reducible change wpQuiet _ _ _ _ (Oper.mk _ (Op.build _ _) _ _ _ _ :: _) _); refine qStep (.agg (tab 32 fun _ => VB 0)) rfl (fun w _ => by unfold execOp; simp only [Array.map_empty, Sem.run_bind, build_zeroHash, Result.andThen_ok, Sem.run_pure]) ?_; go_frame)
            | ((with_reducible change wpQuiet _ _ _ _ (Oper.mk _ (Op.binOp BinOp.eql 23 _ _ _) _ _ _ _ :: _) _); refine qEqlArr _ _ _ _ _ 32 .u8 _ (fun j => _) (fun j => _) true rfl rfl rfl rfl Tryd.underlying23 Tryd.underlying5 info_byte (by kernel_rfl) (all_refl _ _) ?_; go_frame)
            | ((with_reducible change wpQuiet _ _ _ _ (Oper.mk _ (Op.binOp BinOp.eql 9 _ _ _) _ _ _ _ :: _) _); refine qEqlStr _ _ _ _ _ _ true rfl rfl rfl rfl (by simp) ?_; go_frame)
            | go_big_quiet_step (first | (go_at_call 11; exact Calls.regrown_of (Text_any h _)) | (go_at_call 21; exact Calls.regrown_of (rText_any h _))))
          refine wpQuiet_nil ?_
          rintro _ ⟨p, rfl⟩
          have hbr := below_regrown wr p.d p.os
          go_wp2
          go_ret
          exact ⟨rfl, hB.trans (hbr.mono hB.size)⟩
    · have Hok := Lib.hid hok
      clear hok
      go_enter Tryd.func6, Tryd.ntmps6
      go_wp2_with (first
        | ((with_reducible change wpList _ _ _ (Oper.mk (some 2) _ _ _ _ _ :: _) _ _); refine kBox _ _ _ rfl rfl rfl ?_; intro w1 hR1 hz1 hB1)
        | (go_at_call 10; refine (alive_any _ (hK.below hB1)).mono ?_; rintro e w2 ⟨rfl, hB2⟩)
        | ((with_reducible change wpList _ _ _ (Oper.mk (some 14) _ _ _ _ _ :: _) _ _); refine kLenStr _ _ _ rfl rfl rfl Tryd.underlying9 ?_)
        | ((with_reducible change wpList _ _ _ (Oper.mk (some 17) _ _ _ _ _ :: _) _ _); refine kLoadRow _ _ _ _ _ _ rfl rfl rfl (hR1.below hB2 hR1.lt) Tryd.underlying23 rfl (by rw [tab_size]; exact info_Hash) ?_)
        | (go_at_call 11; refine (Text_any _ _).mono ?_; rintro e w3 ⟨rfl, hB3⟩)
        | (go_at_call 20; (with_reducible change Calls _ _ #[textV (textTo _ _)] _ _); refine (Parse_text h _).mono ?_; rintro e w4 ⟨rfl, hB4⟩)
        | ((with_reducible change wpList _ _ _ (Oper.mk (some 5) _ _ _ _ _ :: _) _ _); refine kAlloc _ _ rfl rfl zero_Hash ?_; intro w5 hR5 hz5 hB5)
        | ((with_reducible change wpList _ _ _ (Oper.mk none (Op.store _ (Operand.tmp 5) _) _ _ _ _ :: _) _ _); refine kStoreRow _ _ _ _ _ _ _ rfl rfl rfl rfl hR5 (by rw [tab_size]; exact info_Hash) (by simp only [tab_size]) (tab_one _ _ fun _ _ => rfl) ?_; intro w6 hR6 hW6)
        | (go_at_call 20; refine (Parse_good s _ (by omega) Hok.out).mono ?_; rintro e w7 ⟨rfl, hB7⟩)
        | ((with_reducible change wpList _ _ _ (Oper.mk (some 7) _ _ _ _ _ :: _) _ _); refine kAlloc _ _ rfl rfl zero_Hash ?_; intro w8 hR8 hz8 hB8)
        | ((with_reducible change wpList _ _ _ (Oper.mk none (Op.store _ (Operand.tmp 7) _) _ _ _ _ :: _) _ _); refine kStoreRow _ _ _ _ _ _ _ rfl rfl rfl rfl hR8 (by rw [tab_size]; exact info_Hash) (by simp only [tab_size]) (tab_one _ _ fun _ _ => rfl) ?_; intro w9 hR9 hW9))
      have hs6 := hW6.size
      have hs9 := hW9.size
      have hl2 := hB2.size
      have hl3 := hB3.size
      have hl4 := hB4.size
      have hl7 := hB7.size
      have hA : Row w9 w.heap.size 23 (tab 32 fun p => VB (at8 h p)) := hW9.row (((hW6.row ((((hR1.below hB2 (by omega)).below hB3 (by omega)).below hB4 (by omega)).below hB5 (by omega)) (by omega)).below hB7 (by omega)).below hB8 (by omega)) (by omega)
      have hC : Row w9 w4.heap.size 23 (tab 32 fun p => VB (at8 h p)) := hW9.row ((hR6.below hB7 (by omega)).below hB8 (by omega)) (by omega)
      have hB : Below w.heap.size w w9 := ((((((((hB1.trans (hB2.mono (by omega))).trans (hB3.mono (by omega))).trans (hB4.mono (by omega))).trans (hB5.mono (by omega))).trans (hW6.below (by omega))).trans (hB7.mono (by omega))).trans (hB8.mono (by omega))).trans (hW9.below (by omega)))
      clear hR1 hz1 hB1 hB2 hB3 hB4 hR5 hz5 hB5 hR6 hW6 hB7 hR8 hz8 hB8 hW9 hs6 hs9 hl2 hl3 hl4 hl7 hd
      refine region_below_tail 19 (by kernel_rfl) (by kernel_rfl) ?_
      simp only [List.take_succ_cons, List.take_zero, List.drop_succ_cons, List.drop_zero]
      repeat (first
        | ((with_reducible change wpQuiet _ _ _ _ (Oper.mk _ (Op.load _ (Operand.tmp 5)) _ _ _ _ :: _) _); refine qLoadRow _ _ _ _ _ _ rfl rfl rfl (fun _ hw => row_regrown hC hw) Tryd.underlying23 rfl (by rw [tab_size]; exact info_Hash) ?_; go_frame)
        | ((with_reducible change wpQuiet _ _ _ _ (Oper.mk _ (Op.load _ (Operand.tmp 2)) _ _ _ _ :: _) _); refine qLoadRow _ _ _ _ _ _ rfl rfl rfl (fun _ hw => row_regrown hA hw) Tryd.underlying23 rfl (by rw [tab_size]; exact info_Hash) ?_; go_frame)
        | ((with_reducible change wpQuiet _ _ _ _ (Oper.mk _ (Op.load _ (Operand.tmp 7)) _ _ _ _ :: _) _); refine qLoadRow _ _ _ _ _ _ rfl rfl rfl (fun _ hw => row_regrown hR9 hw) Tryd.underlying23 rfl (by rw [tab_size]; exact info_Hash) ?_; go_frame)
        | ((with_reducible change wpQuiet _ _ _ _ (Oper.mk _ (Op.binOp BinOp.eql 23 _ _ _) _ _ _ _ :: _) _); refine qEqlArr _ _ _ _ _ 32 .u8 _ (fun j => _) (fun j => _) true rfl rfl rfl rfl Tryd.underlying23 Tryd.underlying5 info_byte (by kernel_rfl) (all_refl _ _) ?_; go_frame)
        | ((with_reducible change wpQuiet _ _ _ _ (Oper.mk _ (Op.binOp BinOp.eql 9 _ _ _) _ _ _ _ :: _) _); refine qEqlStr _ _ _ _ _ _ true rfl rfl rfl rfl (by first | with_reducible exact beq_self_eq_true _ | (rw [text_hexAt s _ Hok.out (hexRow_at s)]; exact beq_self_eq_true _)) ?_; go_frame)
        | go_big_quiet_step (first | (go_at_call 11; (with_reducible change Calls _ _ #[Value.agg (tab 32 fun p => VB (at8 (hexRow _) p))] _ _); exact Calls.regrown_of (Text_any (hexRow s) _)) | (go_at_call 11; exact Calls.regrown_of (Text_any h _)) | (go_at_call 21; exact Calls.regrown_of (rText_any h _))))
      refine wpQuiet_nil ?_
      rintro _ ⟨p, rfl⟩
      have hbr := below_regrown w9 p.d p.os
      go_wp2
      go_ret
      exact ⟨rfl, hB.trans (hbr.mono hB.size)⟩
  · have hd : decide ((s.length : Int) > 200) = true := by simp; omega
    go_enter Tryd.func6, Tryd.ntmps6
    go_wp2_with (first
      | ((with_reducible change wpList _ _ _ (Oper.mk (some 2) _ _ _ _ _ :: _) _ _); refine kBox _ _ _ rfl rfl rfl ?_; intro w1 hR1 hz1 hB1)
      | (go_at_call 10; refine (alive_any _ (hK.below hB1)).mono ?_; rintro e w2 ⟨rfl, hB2⟩)
      | ((with_reducible change wpList _ _ _ (Oper.mk (some 14) _ _ _ _ _ :: _) _ _); refine kLenStr _ _ _ rfl rfl rfl Tryd.underlying9 ?_))
    go_ret
    exact ⟨rfl, hB1.trans (hB2.mono hB1.size)⟩
end Go.Proofs.YtofaminpdcapkaaDoor
