/-
  The walks of digest's digit and Parse: the hash of which a text is the Text.
-/
import Derived.Test.YtofaminpdcapkaaDoorLawAlive
import Derived.Test.YtofaminpdcapkaaDoorHex
namespace Go.Proofs.YtofaminpdcapkaaDoor
open Go.RowKit

theorem B_sub48 (c : UInt8) (h1 : 48 ≤ B c) (h2 : B c ≤ 57) : B c - 48 = B (digV c) ∧ isDig c = true := by
  unfold B at h1 h2
  have e : 48 ≤ c.toNat ∧ c.toNat ≤ 57 := by omega
  refine ⟨?_, ?_⟩
  · unfold digV; rw [if_pos e]; unfold B; rw [UInt8.toNat_ofNat']; omega
  · unfold isDig; rw [decide_eq_true e.1, decide_eq_true e.2]; rfl
theorem B_sub87 (c : UInt8) (h1 : 97 ≤ B c) (h2 : B c ≤ 102) : B c - 97 + 10 = B (digV c) ∧ isDig c = true := by
  unfold B at h1 h2
  have e : 97 ≤ c.toNat ∧ c.toNat ≤ 102 := by omega
  refine ⟨?_, ?_⟩
  · unfold digV; rw [if_neg (by omega), if_pos e]; unfold B; rw [UInt8.toNat_ofNat']; omega
  · unfold isDig; rw [decide_eq_true e.1, decide_eq_true e.2]; simp
theorem B_noDig (c : UInt8) (h1 : ¬ (48 ≤ B c ∧ B c ≤ 57)) (h2 : ¬ (97 ≤ B c ∧ B c ≤ 102)) : digV c = 0 ∧ isDig c = false := by
  unfold B at h1 h2
  refine ⟨?_, ?_⟩
  · unfold digV; rw [if_neg (by omega), if_neg (by omega)]
  · unfold isDig; simp; omega

theorem dig_end {n : Int} {c : UInt8} {b : Bool} (h1 : n = B (digV c)) (h2 : isDig c = b) : Ending.returned (.tuple #[.int .u8 n, .bool b]) = .returned (.tuple #[VB (digV c), .bool (isDig c)]) := by rw [h1, h2]

set_option maxRecDepth 100000 in
set_option maxHeartbeats 400000 in
theorem digit_any (c : UInt8) (w : World) :
    Calls Tryd.prog 30 #[VB c] w fun e w' => e = .returned (.tuple #[VB (digV c), .bool (isDig c)]) ∧ w = w' := by
  have hlo := B_lo c
  have hhi := B_hi c
  by_cases h1 : 48 ≤ B c
  · by_cases h2 : B c ≤ 57
    · have Hf := Lib.hid (B_sub48 c h1 h2)
      go_enter Tryd.func30, Tryd.ntmps30
      go_wp2
      go_ret2
      exact ⟨dig_end Hf.out.1 Hf.out.2, rfl⟩
    · by_cases h3 : 97 ≤ B c
      · by_cases h4 : B c ≤ 102
        · have Hf := Lib.hid (B_sub87 c h3 h4)
          go_enter Tryd.func30, Tryd.ntmps30
          go_wp2
          go_ret2
          exact ⟨dig_end Hf.out.1 Hf.out.2, rfl⟩
        · have Hf := Lib.hid (B_noDig c (by omega) (by omega))
          go_enter Tryd.func30, Tryd.ntmps30
          go_wp2
          go_ret2
          exact ⟨dig_end (by rw [Hf.out.1]; rfl) Hf.out.2, rfl⟩
      · have Hf := Lib.hid (B_noDig c (by omega) (by omega))
        go_enter Tryd.func30, Tryd.ntmps30
        go_wp2
        go_ret2
        exact ⟨dig_end (by rw [Hf.out.1]; rfl) Hf.out.2, rfl⟩
  · have Hf := Lib.hid (B_noDig c (by omega) (by omega))
    go_enter Tryd.func30, Tryd.ntmps30
    go_wp2
    go_ret2
    exact ⟨dig_end (by rw [Hf.out.1]; rfl) Hf.out.2, rfl⟩

/-- a function's two results: one in a row, one in a slot -/
theorem result_row_tmp {P : Program} {a : Act} {w : World} {fn : Func} {R : Ending → World → Prop} {p q : Tmp} {T U : TypeId} {d : TypeDesc} {g : Nat} {cs : Array Value} {v : Value} (h : fn.results = #[.cell p T, .tmp q])
    (hp : a.tmps.getD p undef = .pointer (some ⟨g, 0, none⟩)) (hq : a.tmps.getD q undef = v) (hr : Row w g U cs) (hu : P.underlying T = some d) (hd : aggDesc d = true)
    (hi : (P.info? T).map (·.size) = some cs.size) (hdf : a.defers = []) (hR : R (.returned (.tuple #[.agg cs, v])) w) : bodyPost P fn R .ret a w := by
  refine bodyPost_ret (v := .tuple #[.agg cs, v]) ?_ hdf hR
  have hl := run_loadPart (P := P) (T := T) (n := cs.size) hr hu hd hi (by omega : 0 + cs.size ≤ cs.size)
  have hp' : a.tmps[p]?.getD undef = .pointer (some ⟨g, 0, none⟩) := by simpa using hp
  have hq' : a.tmps[q]?.getD undef = v := by simpa using hq
  simp [results, h, hp', hq', asAddr, hl]

theorem build_zeroHash : ∀ w, (Instr.build 23 #[]).run Tryd.prog w = .ok (.agg (tab 32 fun _ => VB 0)) w := fun _ => by kernel_rfl
theorem or_pair (a b : UInt8) (ha : a.toNat < 16) (hb : b.toNat < 16) : bits .or .u8 (B a * 16 % 256) (B b) = B (mk2 a b) := by
  have e1 : B a * 16 % 256 = ((a.toNat * 16 : Nat) : Int) := by unfold B; omega
  unfold B at *
  rw [e1, u8_or_nat _ _ (by omega) (by omega), nat_join 4 _ _ (by omega) (by omega), mk2_toNat _ _ ha hb]

def ParsePost (w : World) (s : List UInt8) (e : Ending) (w' : World) : Prop :=
  e = .returned (.tuple #[.agg (tab 32 fun p => VB (if okHex s = true then hexAt s p else 0)), .bool (okHex s)]) ∧ Below w.heap.size w w'

theorem parse_end {w : World} {s : List UInt8} {cs : Array Value} {b : Bool} {w' : World} (hb : okHex s = b) (hc : cs = tab 32 fun p => VB (if b = true then hexAt s p else 0)) (h : Below w.heap.size w w') : ParsePost w s (.returned (.tuple #[.agg cs, .bool b])) w' := by
  subst hb; subst hc; exact ⟨rfl, h⟩

set_option maxRecDepth 100000 in
set_option maxHeartbeats 1000000 in
theorem Parse_any (s : List UInt8) (w : World) (hs : s.length ≤ 1000000) :
    Calls Tryd.prog 20 #[textV s] w (ParsePost w s) := by
  go_enter Tryd.func20, Tryd.ntmps20
  by_cases hl : s.length = 64
  · have hlb : (((s.length : Nat) : Int) != 64) = false := by simp [hl]
    have hl64 : 64 ≤ s.length := by omega
    have Hl := Lib.hid hl
    clear hl
    go_wp2_with (first
      | ((with_reducible change wpList _ _ _ (Oper.mk (some 2) _ _ _ _ _ :: _) _ _); refine kAlloc _ _ rfl rfl zero_Hash ?_; intro w1 hR1 hz1 hB1)
      | ((with_reducible change wpList _ _ _ (Oper.mk (some 11) _ _ _ _ _ :: _) _ _); refine kLenStr _ _ _ rfl rfl rfl Tryd.underlying9 ?_)
      | ((with_reducible change wpList _ _ _ (Oper.mk (some 4) _ _ _ _ _ :: _) _ _); refine kAlloc _ _ rfl rfl zero_Hash ?_; intro w2 hR2 hz2 hB2))
    have hR1' := hR1.below hB2 (by omega)
    have hB : Below w.heap.size w w2 := hB1.trans (hB2.mono (by omega))
    rw [hz1] at hR2
    clear hR1 hB1 hB2 hz1 hz2
    go_loopw [14] (fun i wr => ∃ k : Nat, k ≤ 32 ∧ i = .int .i64 k ∧ Hid (digsTo s (2 * k) = true) ∧ Row wr (w.heap.size + 1) 23 (tab 32 fun p => VB (if 31 - p < k then hexAt s p else 0)) ∧ Row wr w.heap.size 23 (tab 32 fun _ => VB 0) ∧ Below w.heap.size w wr) (fun i _ => 32 - (intOf i).toNat)
    case atStart => exact ⟨0, by omega, rfl, rfl, by simpa using hR2, hR1', hB⟩
    case round =>
      obtain ⟨k, hk, rfl, hdig, hRr, hR1r, hBr⟩ := hrel
      by_cases hlt : k < 32
      · have hd : decide ((k : Int) < 32) = true := by simp; omega
        cases h1 : isDig (at8 s (2 * k))
        · have hok : okHex s = false := by unfold okHex; rw [digsTo_false s 64 (2 * k) (by omega) h1]; simp
          have Hok := Lib.hid hok
          clear hok
          go_wp2_with (first
            | ((with_reducible change wpList _ _ _ (Oper.mk (some 21) _ _ _ _ _ :: _) _ _); refine kIndexStr _ _ _ _ _ (2 * k) s rfl rfl rfl rfl Tryd.underlying9 (by omega) (by omega) ?_)
            | ((with_reducible change wpList _ _ _ (Oper.mk (some 30) _ _ _ _ _ :: _) _ _); refine kIndexStr _ _ _ _ _ (2 * k + 1) s rfl rfl rfl rfl Tryd.underlying9 (by omega) (by omega) ?_)
            | (go_at_call 30; refine (digit_any _ _).mono ?_; rintro e w' ⟨rfl, rfl⟩)
            | ((with_reducible change wpList _ _ _ (Oper.mk (some 40) _ _ _ _ _ :: _) _ _); refine kBuild _ _ _ _ rfl rfl (by simp) build_zeroHash ?_)
            | ((with_reducible change wpList _ _ _ (Oper.mk none (Op.store 23 _ _) _ _ _ _ :: _) _ _); refine kStoreRow _ _ _ _ _ _ _ rfl rfl rfl rfl hR1r (by rw [tab_size]; exact info_Hash) (by simp only [tab_size]) (tab_one _ _ fun _ _ => rfl) ?_; intro w6 hR6 hW6))
          exact result_row_tmp Tryd.results20 rfl rfl hR6 Tryd.underlying23 rfl (by rw [tab_size]; exact info_Hash) rfl (parse_end Hok.out rfl (hBr.trans (hW6.below (Nat.le_refl _))))
        · cases h2 : isDig (at8 s (2 * k + 1))
          · have hok : okHex s = false := by unfold okHex; rw [digsTo_false s 64 (2 * k + 1) (by omega) h2]; simp
            have Hok := Lib.hid hok
            clear hok
            go_wp2_with (first
              | ((with_reducible change wpList _ _ _ (Oper.mk (some 21) _ _ _ _ _ :: _) _ _); refine kIndexStr _ _ _ _ _ (2 * k) s rfl rfl rfl rfl Tryd.underlying9 (by omega) (by omega) ?_)
              | ((with_reducible change wpList _ _ _ (Oper.mk (some 30) _ _ _ _ _ :: _) _ _); refine kIndexStr _ _ _ _ _ (2 * k + 1) s rfl rfl rfl rfl Tryd.underlying9 (by omega) (by omega) ?_)
              | (go_at_call 30; refine (digit_any _ _).mono ?_; rintro e w' ⟨rfl, rfl⟩)
              | ((with_reducible change wpList _ _ _ (Oper.mk (some 40) _ _ _ _ _ :: _) _ _); refine kBuild _ _ _ _ rfl rfl (by simp) build_zeroHash ?_)
              | ((with_reducible change wpList _ _ _ (Oper.mk none (Op.store 23 _ _) _ _ _ _ :: _) _ _); refine kStoreRow _ _ _ _ _ _ _ rfl rfl rfl rfl hR1r (by rw [tab_size]; exact info_Hash) (by simp only [tab_size]) (tab_one _ _ fun _ _ => rfl) ?_; intro w6 hR6 hW6))
            exact result_row_tmp Tryd.results20 rfl rfl hR6 Tryd.underlying23 rfl (by rw [tab_size]; exact info_Hash) rfl (parse_end Hok.out rfl (hBr.trans (hW6.below (Nat.le_refl _))))
          · have hor := Lib.hid (or_pair (digV (at8 s (2 * k))) (digV (at8 s (2 * k + 1))) (dig_hexd _ h1).2 (dig_hexd _ h2).2)
            go_wp2_with (first
              | ((with_reducible change wpList _ _ _ (Oper.mk (some 21) _ _ _ _ _ :: _) _ _); refine kIndexStr _ _ _ _ _ (2 * k) s rfl rfl rfl rfl Tryd.underlying9 (by omega) (by omega) ?_)
              | ((with_reducible change wpList _ _ _ (Oper.mk (some 30) _ _ _ _ _ :: _) _ _); refine kIndexStr _ _ _ _ _ (2 * k + 1) s rfl rfl rfl rfl Tryd.underlying9 (by omega) (by omega) ?_)
              | (go_at_call 30; refine (digit_any _ _).mono ?_; rintro e w' ⟨rfl, rfl⟩)
              | ((with_reducible change wpList _ _ _ (Oper.mk (some 47) _ _ _ _ _ :: _) _ _); refine kIndexAddr1 _ _ _ _ _ _ _ (31 - k) _ rfl rfl rfl rfl Tryd.underlying23 info_byte (by omega) (by omega) ?_)
              | ((with_reducible change wpList _ _ _ (Oper.mk none (Op.store 5 _ _) _ _ _ _ :: _) _ _); refine kStore1 _ _ _ _ _ _ _ (VB (mk2 (digV (at8 s (2 * k))) (digV (at8 s (2 * k + 1))))) rfl rfl rfl (congrArg (Value.int IntKind.u8) hor.out) hRr info_byte (by rw [tab_size]; omega) rfl ?_; intro w5 hR5 hW5))
            go_roundw
            case rel =>
              refine ⟨k + 1, by omega, by go_num, ?_, ?_, hW5.row hR1r (by omega), hBr.trans (hW5.below (by omega))⟩
              · show digsTo s (2 * k + 1 + 1) = true
                rw [digsTo_succ, digsTo_succ, hdig.out, h1, h2]; rfl
              · rw [tab_set (g := fun p => VB (if 31 - p < k + 1 then hexAt s p else 0))] at hR5
                · exact hR5
                · intro p hp
                  by_cases hpk : p = 31 - k
                  · rw [if_pos hpk, if_pos (by omega)]; unfold hexAt; rw [show 31 - p = k by omega]
                  · rw [if_neg hpk]
                    by_cases hpl : 31 - p < k
                    · rw [if_pos hpl, if_pos (by omega)]
                    · rw [if_neg hpl, if_neg (by omega)]
            case measure => simp [intOf]; omega
      · have hk32 : k = 32 := by omega
        have hok : okHex s = true := by unfold okHex; rw [hk32] at hdig; rw [show digsTo s 64 = true from hdig.out]; simp [Hl.out]
        have Hok := Lib.hid hok
        have hd : decide ((k : Int) < 32) = false := by simp; omega
        rw [tab_congr (g := fun p => VB (hexAt s p)) (fun p hp => by rw [if_pos (by omega)])] at hRr
        clear hok hk32
        go_wp2_with (first
          | ((with_reducible change wpList _ _ _ (Oper.mk (some 49) _ _ _ _ _ :: _) _ _); refine kLoadRow _ _ _ _ _ _ rfl rfl rfl hRr Tryd.underlying23 rfl (by rw [tab_size]; exact info_Hash) ?_)
          | ((with_reducible change wpList _ _ _ (Oper.mk none (Op.store 23 _ _) _ _ _ _ :: _) _ _); refine kStoreRow _ _ _ _ _ _ _ rfl rfl rfl rfl hR1r (by rw [tab_size]; exact info_Hash) (by simp only [tab_size]) (tab_one _ _ fun _ _ => rfl) ?_; intro w6 hR6 hW6))
        exact result_row_tmp Tryd.results20 rfl rfl hR6 Tryd.underlying23 rfl (by rw [tab_size]; exact info_Hash) rfl (parse_end Hok.out rfl (hBr.trans (hW6.below (Nat.le_refl _))))
  · have hok : okHex s = false := by unfold okHex; simp [hl]
    have Hok := Lib.hid hok
    have hlb : (((s.length : Nat) : Int) != 64) = true := by rw [bne_iff_ne]; omega
    clear hok
    go_wp2_with (first
      | ((with_reducible change wpList _ _ _ (Oper.mk (some 2) _ _ _ _ _ :: _) _ _); refine kAlloc _ _ rfl rfl zero_Hash ?_; intro w1 hR1 hz1 hB1)
      | ((with_reducible change wpList _ _ _ (Oper.mk (some 11) _ _ _ _ _ :: _) _ _); refine kLenStr _ _ _ rfl rfl rfl Tryd.underlying9 ?_)
      | ((with_reducible change wpList _ _ _ (Oper.mk (some 13) _ _ _ _ _ :: _) _ _); refine kBuild _ _ _ _ rfl rfl (by simp) build_zeroHash ?_)
      | ((with_reducible change wpList _ _ _ (Oper.mk none _ _ _ _ _ :: _) _ _); refine kStoreRow _ _ _ _ _ _ _ rfl rfl rfl rfl hR1 (by rw [tab_size]; exact info_Hash) (by simp only [tab_size]) (tab_one _ _ fun _ _ => rfl) ?_; intro w6 hR6 hW6))
    exact result_row_tmp Tryd.results20 rfl rfl hR6 Tryd.underlying23 rfl (by rw [tab_size]; exact info_Hash) rfl (parse_end Hok.out rfl (hB1.trans (hW6.below (Nat.le_refl _))))
end Go.Proofs.YtofaminpdcapkaaDoor
