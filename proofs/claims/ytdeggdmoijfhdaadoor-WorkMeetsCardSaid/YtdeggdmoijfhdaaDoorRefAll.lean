/-
  Joined: RefBits, RefPad, KitRef, RefL4, RefL2, RefL8, RefL6, RefL10, RefL14, RefL12, RefSum.
-/
import Derived.Test.YtdeggdmoijfhdaaDoorRText
import Derived.Test.YtdeggdmoijfhdaaDoorKitAll
/-
  The walks of the reference's small functions: right and down, over numbers of 32 bits that lie in 64, and its keys.
-/
namespace Go.Proofs.YtdeggdmoijfhdaaDoor
open Go Go.RowKit

/-- a number of 32 bits in one of 64 -/
abbrev V64 (x : UInt32) : Value := .int .u64 (I x)

theorem rright_num (x : UInt32) (n : Nat) (h1 : 1 ≤ n) (h2 : n ≤ 31) :
    (bits .or .u64 (I x / 2 ^ n) (I x * 2 ^ (32 - n))).tmod 4294967296 = I (rotr x n) := by
  have hx := x.toNat_lt
  have e1 : I x * 2 ^ (32 - n) = ((x.toNat * 2 ^ (32 - n) : Nat) : Int) := by unfold I; rw [Int.natCast_mul, Int.natCast_pow]; rfl
  have e2 : I x / 2 ^ n = ((x.toNat / 2 ^ n : Nat) : Int) := by unfold I; rw [Int.natCast_ediv, Int.natCast_pow]; rfl
  have l2 : x.toNat / 2 ^ n < 18446744073709551616 := by have := Nat.div_le_self x.toNat (2 ^ n); omega
  have hp : 2 ^ (32 - n) ≤ 2 ^ 31 := Nat.pow_le_pow_right (by decide) (by omega)
  have l1 : x.toNat * 2 ^ (32 - n) < 18446744073709551616 := by
    have := Nat.mul_le_mul (Nat.le_of_lt hx) hp
    omega
  rw [e1, e2, u64_or_nat _ _ l2 l1]
  unfold I
  rw [rotr_toNat, Int.tmod_eq_emod_of_nonneg (by omega)]
  rfl

theorem shl_in (x : UInt32) (n : Nat) (h1 : 1 ≤ n) : 0 ≤ I x * 2 ^ (32 - n) ∧ I x * 2 ^ (32 - n) < 18446744073709551616 := by
  have hx := x.toNat_lt
  have e1 : I x * 2 ^ (32 - n) = ((x.toNat * 2 ^ (32 - n) : Nat) : Int) := by unfold I; rw [Int.natCast_mul, Int.natCast_pow]; rfl
  have hp : 2 ^ (32 - n) ≤ 2 ^ 31 := Nat.pow_le_pow_right (by decide) (by omega)
  have := Nat.mul_le_mul (Nat.le_of_lt hx) hp
  rw [e1]; omega

set_option maxHeartbeats 400000 in
theorem rright_nat (x : UInt32) (n : Nat) (w : World) (h1 : 1 ≤ n) (h2 : n ≤ 31) :
    Calls Tryd.prog 47 #[V64 x, .int .u64 (n : Int)] w fun e w' => e = .returned (V64 (rotr x n)) ∧ w = w' := by
  have hI := I_lo x
  have hJ := I_hi x
  have he := Lib.hid (rright_num x n h1 h2)
  have hc : (32 - (n : Int)).toNat = 32 - n := by omega
  obtain ⟨hs0, hs1⟩ := shl_in x n h1
  go_enter Tryd.func47, Tryd.ntmps47
  go_wp2
  go_ret
  exact ⟨congrArg _ (congrArg _ he.out), rfl⟩

set_option maxHeartbeats 400000 in
theorem rdown_nat (x : UInt32) (n : Nat) (w : World) (h2 : n ≤ 31) :
    Calls Tryd.prog 48 #[V64 x, .int .u64 (n : Int)] w fun e w' => e = .returned (V64 (shr x n)) ∧ w = w' := by
  have hI := I_lo x
  have hJ := I_hi x
  have he := Lib.hid (shr_code x n)
  go_enter Tryd.func48, Tryd.ntmps48
  go_wp2
  go_ret
  exact ⟨congrArg _ (congrArg _ he.out), rfl⟩
theorem rright_int (x : UInt32) (n : Int) (w : World) (h1 : 1 ≤ n) (h2 : n ≤ 31) :
    Calls Tryd.prog 47 #[V64 x, .int .u64 n] w fun e w' => e = .returned (V64 (rotr x n.toNat)) ∧ w = w' := by
  obtain ⟨m, rfl⟩ := Int.eq_ofNat_of_zero_le (show 0 ≤ n by omega)
  rw [Int.toNat_natCast]
  exact rright_nat x m w (by omega) (by omega)
theorem rdown_int (x : UInt32) (n : Int) (w : World) (h1 : 0 ≤ n) (h2 : n ≤ 31) :
    Calls Tryd.prog 48 #[V64 x, .int .u64 n] w fun e w' => e = .returned (V64 (shr x n.toNat)) ∧ w = w' := by
  obtain ⟨m, rfl⟩ := Int.eq_ofNat_of_zero_le h1
  rw [Int.toNat_natCast]
  exact rdown_nat x m w (by omega)

theorem info_arr64u64 : (Tryd.prog.info? 76).map (·.size) = some 64 := by kernel_rfl
theorem zero_arr64u64 : ((Tryd.prog.info? 76).bind (·.zero)).map Value.cells = some (tab 64 fun _ => V64 0) := by kernel_rfl
theorem info_u64b : (Tryd.prog.info? 29).map (·.size) = some 1 := by kernel_rfl

def keyParts : Array (Nat × Value) := ((List.range 64).map fun j => (j, V64 (at32 kTab j))).toArray
theorem build_keys : ∀ w, (Instr.build 76 keyParts).run Tryd.prog w = .ok (.agg (tab 64 fun j => V64 (at32 kTab j))) w := fun _ => by kernel_rfl

set_option maxRecDepth 100000 in
set_option maxHeartbeats 400000 in
theorem rkeys_any (w : World) :
    Calls Tryd.prog 46 #[] w fun e w' => e = .returned (.agg (tab 64 fun j => V64 (at32 kTab j))) ∧ Below w.heap.size w w' := by
  go_enter Tryd.func46, Tryd.ntmps46
  go_wp2_with (first
    | ((with_reducible change wpList _ _ _ (Oper.mk (some 0) _ _ _ _ _ :: _) _ _); refine kAlloc _ _ rfl rfl zero_arr64u64 ?_; intro w1 hR1 hz1 hB1)
    | ((with_reducible change wpList _ _ _ (Oper.mk (some 1) _ _ _ _ _ :: _) _ _); refine kBuild _ _ keyParts _ rfl rfl (by kernel_rfl) build_keys ?_)
    | ((with_reducible change wpList _ _ _ (Oper.mk none _ _ _ _ _ :: _) _ _); refine kStoreRow _ _ _ _ _ _ _ rfl rfl rfl rfl hR1 (by rw [tab_size]; exact info_arr64u64) (by simp only [tab_size]) (tab_one _ _ fun _ _ => rfl) ?_; intro w6 hR6 hW6))
  exact result_row Tryd.results46 rfl hR6 Tryd.underlying76 rfl (by rw [tab_size]; exact info_arr64u64) rfl ⟨rfl, hB1.trans (hW6.below (Nat.le_refl _))⟩
end Go.Proofs.YtdeggdmoijfhdaaDoor

/-
  The walk of the reference's Padded: bytes, with all that comes behind them.
-/
namespace Go.Proofs.YtdeggdmoijfhdaaDoor
open Go Go.RowKit

theorem be_byte (n j : Nat) (hj : j < 8) : ((n : Int) * 8 / 2 ^ (8 * (7 - j))).tmod 256 % 256 = B (UInt8.ofNat (n * 8 / 2 ^ (56 - 8 * j))) := by
  rw [show 8 * (7 - j) = 56 - 8 * j by omega, ← be64_byte n j, Int.tmod_eq_emod_of_nonneg (Int.ediv_nonneg (by omega) (Int.pow_nonneg (by decide)))]
  omega
theorem padded_eq (L : List UInt8) (k : Nat) (hk : k = (119 - L.length % 64) % 64) : (L ++ (128 :: List.replicate k 0)) ++ (be64 (L.length * 8)).take 8 = padded L := by
  subst hk
  unfold padded tailOf
  rw [List.take_of_length_le (by simp [be64]), List.append_assoc, List.cons_append]

set_option maxRecDepth 100000 in
set_option maxHeartbeats 1000000 in
theorem rPadded_any (L : List UInt8) (b : Value) (w : World) (hv : IsVals w b (L.map VB)) (hL : L.length ≤ 1000000) :
    Calls Tryd.prog 45 #[b] w (OwnPost w (padded L)) := by
  obtain ⟨i, hi, hz, hs1, hby⟩ := byteInfo
  go_enter Tryd.func45, Tryd.ntmps45
  go_wp2_with (first
    | ((with_reducible change wpList _ _ _ (Oper.mk (some 6) _ _ _ _ _ :: _) _ _); refine kBuildSlice0 _ _ rfl rfl Tryd.underlying57 i hi ?_; intro w1 hR1 hz1 hB1; have hO1 := own_empty (Nat.le_refl w.heap.size) hR1)
    | ((with_reducible change wpList _ _ _ (Oper.mk (some 8) _ _ _ _ _ :: _) _ _); refine kAppend _ _ _ _ rfl rfl w.heap.size i _ Tryd.underlying57 hi hz hs1 rfl _ _ [] (L.map VB) rfl hO1 rfl (hv.below hB1) (vb_one L) (by unfold maxLen; simp; omega) (by rw [hby]; simp; omega) (by omega) ?_; intro v2 w2 hO2 hG2; have hB2 := hB1.trans (below_grown hO1 hG2 (by omega)); have hz2 := hB2.size)
    | ((with_reducible change wpList _ _ _ (Oper.mk (some 9) _ _ _ _ _ :: _) _ _); refine kBuildSlice1 _ _ _ (VB 128) rfl rfl Tryd.underlying57 i _ hi hz hs1 rfl rfl ?_; intro w3 hR3 hz3 hB3)
    | ((with_reducible change wpList _ _ _ (Oper.mk (some 10) _ _ _ _ _ :: _) _ _); refine kAppend _ _ _ _ rfl rfl w.heap.size i _ Tryd.underlying57 hi hz hs1 rfl v2 _ ([] ++ L.map VB) [VB 128] rfl (ownsRow_below hO2 hB3) rfl (isVals_lit hR3) (vb_one [_]) (by unfold maxLen; simp; omega) (by rw [hby]; simp; omega) (by omega) ?_; intro v4 w4 hO4 hG4; have hB4 := (hB2.trans (hB3.mono hz2)).trans (below_grown (ownsRow_below hO2 hB3) hG4 (by omega))))
  have hO : OwnBytes w4 w.heap.size v4 (L ++ (128 :: List.replicate 0 0)) := by
    unfold OwnBytes; simpa using hO4
  clear hR1 hz1 hB1 hO1 hO2 hG2 hB2 hz2 hR3 hz3 hB3 hO4 hG4
  go_loopw [3] (fun v wr => ∃ k : Nat, k ≤ (119 - L.length % 64) % 64 ∧ OwnBytes wr w.heap.size v (L ++ (128 :: List.replicate k 0)) ∧ Below w.heap.size w wr) (fun v _ => L.length + 200 - sliceLen v)
  case atStart => exact ⟨0, by omega, hO, hB4⟩
  case round =>
    obtain ⟨k, hk, hOr, hBr⟩ := hrel
    have hlen : ((L ++ (128 :: List.replicate k 0)).map VB).length = L.length + 1 + k := by simp; omega
    have hszr := hBr.size
    by_cases hlt : k < (119 - L.length % 64) % 64
    · have hd : (((L.length + 1 + k : Nat) : Int).tmod 64 != 56) = true := by rw [Int.tmod_eq_emod_of_nonneg (by omega), bne_iff_ne]; omega
      go_wp2_with (first
        | ((with_reducible change wpList _ _ _ (Oper.mk (some 12) _ _ _ _ _ :: _) _ _); refine kLenN _ _ _ _ _ (L.length + 1 + k) rfl rfl rfl hOr.vals hlen Tryd.underlying57 ?_)
        | ((with_reducible change wpList _ _ _ (Oper.mk (some 16) _ _ _ _ _ :: _) _ _); refine kBuildSlice1 _ _ _ (VB 0) rfl rfl Tryd.underlying57 i _ hi hz hs1 rfl rfl ?_; intro w5 hR5 hz5 hB5)
        | ((with_reducible change wpList _ _ _ (Oper.mk (some 17) _ _ _ _ _ :: _) _ _); refine kAppend _ _ _ _ rfl rfl w.heap.size i _ Tryd.underlying57 hi hz hs1 rfl _ _ _ [VB 0] rfl (ownsRow_below hOr hB5) rfl (isVals_lit hR5) (vb_one [_]) (by unfold maxLen; rw [hlen]; simp; omega) (by rw [hby, hlen]; simp; omega) (by omega) ?_; intro v6 w6 hO6 hG6; have hB6 := (hBr.trans (hB5.mono hszr)).trans (below_grown (ownsRow_below hOr hB5) hG6 (by omega))))
      go_roundw
      case rel =>
        refine ⟨k + 1, by omega, ?_, hB6⟩
        unfold OwnBytes
        rw [List.replicate_succ', ← List.cons_append, ← List.append_assoc, List.map_append (l₂ := [_])]
        exact hO6
      case measure =>
        have e1 := (isVals_own hO6).len
        have e2 := hOr.vals.len
        rw [e1, e2, List.length_append, hlen]
        simp; omega
    · have hkz : k = (119 - L.length % 64) % 64 := by omega
      have Hkz := Lib.hid hkz
      clear hkz
      have hd : (((L.length + 1 + k : Nat) : Int).tmod 64 != 56) = false := by rw [Int.tmod_eq_emod_of_nonneg (by omega)]; simp; omega
      go_wp2_with (first
        | ((with_reducible change wpList _ _ _ (Oper.mk (some 12) _ _ _ _ _ :: _) _ _); refine kLenN _ _ _ _ _ (L.length + 1 + k) rfl rfl rfl hOr.vals hlen Tryd.underlying57 ?_)
        | ((with_reducible change wpList _ _ _ (Oper.mk (some 19) _ _ _ _ _ :: _) _ _); refine kLenN _ _ _ _ _ L.length rfl rfl rfl (hv.below hBr) (by simp) Tryd.underlying57 ?_))
      have hO' : OwnBytes wr w.heap.size u3 ((L ++ (128 :: List.replicate k 0)) ++ (be64 (L.length * 8)).take 0) := by simpa using hOr
      clear hd hOr hB4 hO hlt
      go_loopw [5, 3] (fun i v wq => ∃ j : Nat, j ≤ 8 ∧ i = .int .i64 (7 - (j : Int)) ∧ OwnBytes wq w.heap.size v ((L ++ (128 :: List.replicate k 0)) ++ (be64 (L.length * 8)).take j) ∧ Below w.heap.size w wq) (fun i _ _ => (intOf i + 1).toNat)
      case atStart => exact ⟨0, by omega, rfl, hO', hBr⟩
      case round =>
        obtain ⟨j, hj, rfl, hOq, hBq⟩ := hrel
        have hszq := hBq.size
        by_cases hlt : j < 8
        · have hd : decide ((7 : Int) - (j : Int) ≥ 0) = true := by simp; omega
          have hsh : (8 * (7 - (j : Int))).toNat = 8 * (7 - j) := by omega
          have hlq : ((L ++ (128 :: List.replicate k 0) ++ (be64 (L.length * 8)).take j).map VB).length = L.length + 1 + k + j := by rw [List.length_map, List.length_append, List.length_append]; simp [be64]; omega
          go_wp2_with (first
            | ((with_reducible change wpList _ _ _ (Oper.mk (some 34) _ _ _ _ _ :: _) _ _); refine kBuildSlice1 _ _ _ (VB (UInt8.ofNat (L.length * 8 / 2 ^ (56 - 8 * j)))) rfl rfl Tryd.underlying57 i _ hi hz hs1 (congrArg (Value.int IntKind.u8) (be_byte L.length j hlt)) rfl ?_; intro w5 hR5 hz5 hB5)
            | ((with_reducible change wpList _ _ _ (Oper.mk (some 35) _ _ _ _ _ :: _) _ _); refine kAppend _ _ _ _ rfl rfl w.heap.size i _ Tryd.underlying57 hi hz hs1 rfl _ _ _ [VB (UInt8.ofNat (L.length * 8 / 2 ^ (56 - 8 * j)))] rfl (ownsRow_below hOq hB5) rfl (isVals_lit hR5) (vb_one [_]) (by unfold maxLen; rw [hlq]; simp; omega) (by rw [hby, hlq]; simp; omega) (by omega) ?_; intro v6 w6 hO6 hG6; have hB6 := (hBq.trans (hB5.mono hszq)).trans (below_grown (ownsRow_below hOq hB5) hG6 (by omega))))
          go_roundw
          case rel =>
            refine ⟨j + 1, by omega, by go_num, ?_, hB6⟩
            rw [be64_take _ _ hlt, ← List.append_assoc]
            unfold OwnBytes
            rw [List.map_append (l₂ := [_])]
            exact hO6
          case measure => simp [intOf]; omega
        · have hj8 : j = 8 := by omega
          have hd : decide ((7 : Int) - (j : Int) ≥ 0) = false := by simp; omega
          rw [hj8, padded_eq L k Hkz.out] at hOq
          clear hj8
          go_wp2
          go_ret
          exact ⟨_, rfl, hOq, hBq⟩
end Go.Proofs.YtdeggdmoijfhdaaDoor

/-
  My kit: numbers of 32 bits in 64.
-/
namespace Go.Proofs.YtdeggdmoijfhdaaDoor
open Go Go.RowKit

theorem bxor64 (a b : UInt32) : bits .xor .u64 (I a) (I b) = I (a ^^^ b) := by
  have ha := a.toNat_lt; have hb := b.toNat_lt
  unfold I; rw [u64_xor_nat _ _ (by omega) (by omega), UInt32.toNat_xor]
theorem band64 (a b : UInt32) : bits .and .u64 (I a) (I b) = I (a &&& b) := by
  have ha := a.toNat_lt; have hb := b.toNat_lt
  unfold I; rw [u64_and_nat _ _ (by omega) (by omega), UInt32.toNat_and]
theorem bnot64 (a : UInt32) : 4294967295 - I a = I (~~~a) := by
  have ha := a.toNat_lt
  unfold I
  rw [UInt32.toNat_not, show UInt32.size = 4294967296 from rfl]
  omega
theorem tmod_sum2 (a b : UInt32) : (I a + I b).tmod 4294967296 = I (a + b) := by
  unfold I; rw [Int.tmod_eq_emod_of_nonneg (by omega), UInt32.toNat_add]; omega
theorem tmod_sum3 (a b c : UInt32) : (I a + I b + I c).tmod 4294967296 = I (a + (b + c)) := by
  unfold I; rw [Int.tmod_eq_emod_of_nonneg (by omega), UInt32.toNat_add, UInt32.toNat_add]; omega
theorem tmod_sum4 (a p b q : UInt32) : (I a + I p + I b + I q).tmod 4294967296 = I (a + b + p + q) := by
  unfold I; rw [Int.tmod_eq_emod_of_nonneg (by omega), UInt32.toNat_add, UInt32.toNat_add, UInt32.toNat_add]; omega
theorem tmod_sum5 (a b c d e : UInt32) : (I a + I b + I c + I d + I e).tmod 4294967296 = I (a + b + c + d + e) := by
  unfold I; rw [Int.tmod_eq_emod_of_nonneg (by omega), UInt32.toNat_add, UInt32.toNat_add, UInt32.toNat_add, UInt32.toNat_add]; omega

theorem u64Info0 : (Tryd.prog.info? 29).map (fun i => (i.zero, i.size, i.bytes)) = some (some (.int .u64 0), 1, 8) := by kernel_rfl
theorem u64Info : ∃ i, Tryd.prog.info? 29 = some i ∧ i.zero = some (.int .u64 0) ∧ i.size = 1 ∧ i.bytes = 8 := by
  have h := u64Info0
  cases hq : Tryd.prog.info? 29 with
  | none => rw [hq] at h; cases h
  | some i => rw [hq] at h; simp at h; exact ⟨i, rfl, h.1, h.2.1, h.2.2⟩
theorem v64_one (l : List UInt32) : ∀ u ∈ l.map V64, u.oneCell' = true := fun u hu => by simp at hu; obtain ⟨b, _, rfl⟩ := hu; rfl

/-! ### the row of 64 numbers -/
theorem extW_prefix (l : List UInt32) (n m : Nat) (h : n ≤ m) : ∃ t, extW l m = extW l n ++ t := by
  induction m with
  | zero =>
    obtain rfl : n = 0 := by omega
    exact ⟨[], by simp⟩
  | succ m ih =>
    by_cases e : n = m + 1
    · subst e; exact ⟨[], by simp⟩
    · obtain ⟨t, ht⟩ := ih (by omega)
      exact ⟨t ++ [nextW (extW l m)], by simp [extW, ht]⟩
theorem sched_len (bs : List UInt8) : (sched bs).length = 64 := by unfold sched; rw [extW_length, words_length]
theorem sched_low (bs : List UInt8) (i : Nat) (hi : i < 16) : at32 (sched bs) i = part bs 64 i := by
  obtain ⟨t, ht⟩ := extW_prefix (words bs) 0 48 (by omega)
  unfold sched at32
  rw [ht, List.getD_eq_getElem?_getD, List.getElem?_append_left (by simp [extW, words_length]; exact hi)]
  simp [extW, words, hi]
theorem sched_at (bs : List UInt8) (n i : Nat) (hn : n ≤ 48) (hi : i < 16 + n) : at32 (sched bs) i = at32 (extW (words bs) n) i := by
  obtain ⟨t, ht⟩ := extW_prefix (words bs) n 48 hn
  unfold sched at32
  rw [ht, List.getD_eq_getElem?_getD, List.getElem?_append_left (by rw [extW_length, words_length]; exact hi), List.getD_eq_getElem?_getD]
theorem sched_next (bs : List UInt8) (i : Nat) (h1 : 16 ≤ i) (h2 : i < 64) :
    at32 (sched bs) (i - 16) + at32 (sched bs) (i - 7) + sS0 (at32 (sched bs) (i - 15)) + sS1 (at32 (sched bs) (i - 2)) = at32 (sched bs) i := by
  have hl : (extW (words bs) (i - 16)).length = i := by rw [extW_length, words_length]; omega
  rw [sched_at bs (i - 16) (i - 16) (by omega) (by omega), sched_at bs (i - 16) (i - 7) (by omega) (by omega), sched_at bs (i - 16) (i - 15) (by omega) (by omega), sched_at bs (i - 16) (i - 2) (by omega) (by omega),
    sched_at bs (i - 15) i (by omega) (by omega), show i - 15 = (i - 16) + 1 by omega]
  unfold at32
  rw [extW, List.getD_eq_getElem?_getD (l := _ ++ _), List.getElem?_append_right (by omega), hl]
  simp only [Nat.sub_self, List.getElem?_cons_zero, Option.getD_some]
  unfold nextW
  rw [hl, show i - 16 + 1 = i - 15 by omega]
theorem sched_take (bs : List UInt8) (i : Nat) (h : i < 64) : (sched bs).take (i + 1) = (sched bs).take i ++ [at32 (sched bs) i] := by
  rw [List.take_succ_eq_append_getElem (by rw [sched_len]; exact h)]
  simp [at32, sched_len, h]
theorem sched_vals (bs : List UInt8) (i j : Nat) (h : i ≤ 64) (hj : j < i) : (((sched bs).take i).map V64)[j]? = some (V64 (at32 (sched bs) j)) := by
  have : j < (sched bs).length := by rw [sched_len]; omega
  simp [at32, hj, this]
end Go.Proofs.YtdeggdmoijfhdaaDoor

/-
  The reference's Sum: its inmost loop: four bytes make a number.
-/
namespace Go.Proofs.YtdeggdmoijfhdaaDoor
open Go Go.RowKit

/-- the body of the loop in the block of this number -/
def loopIn (k : Nat) : Code → Option Code
  | .block id c => if id = k then (match c with | .loop b => some b | _ => none) else loopIn k c
  | .loop c => loopIn k c
  | .scope c => loopIn k c
  | .seq a b => match loopIn k a with
    | some c => some c
    | none => loopIn k b
  | .cond _ a b => match loopIn k a with
    | some c => some c
    | none => loopIn k b
  | _ => none
noncomputable def sumLoop (k : Nat) : Code := ((Tryd.f40.body.bind (loopIn k)).getD .skip)

def blockOf (D : List UInt8) (n : Nat) : List UInt8 := (D.drop (64 * n)).take 64
theorem blockOf_len (D : List UInt8) (n : Nat) (h : 64 * n + 64 ≤ D.length) : (blockOf D n).length = 64 := by unfold blockOf; simp; omega
theorem blockOf_at (D : List UInt8) (n j : Nat) (hj : j < 64) (h : 64 * n + 64 ≤ D.length) : at8 (blockOf D n) j = at8 D (64 * n + j) := by
  rw [at8_lt _ _ (by rw [blockOf_len D n h]; exact hj), at8_lt _ _ (by omega)]; unfold blockOf; simp
theorem vals_at (D : List UInt8) (j : Nat) (h : j < D.length) : (D.map VB)[j]? = some (VB (at8 D j)) := by simp [at8, h]
def quad (bs : List UInt8) (i j : Nat) : UInt32 := (((bs.drop (4 * i)).take 4).take j).foldl push8 0
theorem quad_succ (bs : List UInt8) (i j : Nat) (hj : j < 4) (h : 4 * i + 4 ≤ bs.length) : quad bs i (j + 1) = push8 (quad bs i j) (at8 bs (4 * i + j)) := by
  unfold quad
  rw [List.take_succ_eq_append_getElem (by simp; omega), List.foldl_append, at8_lt _ _ (by omega)]
  simp
theorem push8_small (x : UInt32) (b : UInt8) (h : x.toNat * 256 + 256 ≤ 4294967296) : (push8 x b).toNat = x.toNat * 256 + b.toNat := by
  have hb := b.toNat_lt
  unfold push8
  rw [UInt32.toNat_add, UInt32.toNat_mul]
  have : (UInt8.toUInt32 b).toNat = b.toNat := by simp
  rw [this, show (256 : UInt32).toNat = 256 from rfl]
  omega
theorem quad_lt (bs : List UInt8) (i : Nat) (h : 4 * i + 4 ≤ bs.length) (j : Nat) (hj : j < 4) : (quad bs i j).toNat < 16777216 := by
  have h0 : (quad bs i 0).toNat = 0 := rfl
  have hb0 := (at8 bs (4 * i + 0)).toNat_lt
  have hb1 := (at8 bs (4 * i + 1)).toNat_lt
  have hb2 := (at8 bs (4 * i + 2)).toNat_lt
  have h1 : (quad bs i 1).toNat < 256 := by rw [quad_succ bs i 0 (by omega) h, push8_small _ _ (by omega), h0]; omega
  have h2 : (quad bs i 2).toNat < 65536 := by rw [quad_succ bs i 1 (by omega) h, push8_small _ _ (by omega)]; omega
  have h3 : (quad bs i 3).toNat < 16777216 := by rw [quad_succ bs i 2 (by omega) h, push8_small _ _ (by omega)]; omega
  match j, hj with
  | 0, _ => omega
  | 1, _ => omega
  | 2, _ => omega
  | 3, _ => omega
theorem quad_num (bs : List UInt8) (i j : Nat) (hj : j < 4) (h : 4 * i + 4 ≤ bs.length) : 256 * I (quad bs i j) + B (at8 bs (4 * i + j)) = I (quad bs i (j + 1)) := by
  have h1 := quad_lt bs i h j hj
  rw [quad_succ bs i j hj h]
  unfold I B
  rw [push8_small _ _ (by omega)]
  omega
theorem quad_four (bs : List UInt8) (i : Nat) (h : bs.length = 64) : quad bs i 4 = part bs 64 i := by
  unfold quad part
  rw [List.take_take, List.take_of_length_le (l := bs) (by omega)]; rfl

set_option maxRecDepth 1000000 in
set_option maxHeartbeats 4000000 in
theorem loop4 (c0 c1 c2 c3 c5 c7 c11 c12 c13 c14 c15 c16 c17 c18 c19 c20 c21 c22 c23 c24 c25 c26 c27 c28 c29 c30 c31 c32 c33 c34 c35 c36 c37 c38 c39 c40 c41 c42 c43 c44 c45 c46 c47 c48 c49 c50 c51 c52 c53 c54 c55 c56 c57 c58 c59 c60 c61 c62 c63 c64 c65 c66 c67 c68 c69 c70 c71 c72 c73 c74 c75 c76 c77 c78 c79 c80 c81 c82 c83 c84 c85 c86 c87 c88 c89 c90 c91 c92 c93 c94 c95 c96 c97 c98 c99 c100 c101 c102 c103 c104 c105 c106 c107 c108 c109 c110 c111 c112 c113 c114 c115 c116 c117 c118 c119 c120 c121 c122 c123 c124 c125 c126 c127 c128 c129 c130 c131 c132 c133 c134 c135 c136 c137 c138 c139 c140 c141 c142 c143 c144 c145 c146 c147 c148 c149 c150 c151 c152 c153 c154 c155 c156 c157 c158 c159 c160 c161 c162 c163 c164 c165 c166 c167 c168 c169 c170 c171 c172 c173 c174 c175 c176 c177 c178 c179 c180 c181 c182 c183 c184 c185 c186 c187 c188 c189 c190 c191 c192 c193 c194 c195 c196 c197 c198 c199 c200 c201 c202 c203 c204 c205 c206 c207 c208 c209 c210 c211 c212 c213 c214 c215 c216 c217 c218 c219 c220 c221 c222 c223 c224 c225 c226 c227 c228 c229 c230 c231 c232 c233 c234 c235 c236 c237 c238 c239 c240 c241 c242 c243 c244 c245 c246 c247 c248 c249 c250 c251 c252 c253 : Value) (n i : Nat) (D : List UInt8) (v4 : Value) (w : World) (hA : IsVals w v4 (D.map VB)) (hD : D.length ≤ 2000000) (hn : 64 * n + 64 ≤ D.length) (hi : i < 16)
    (Q : Exit → Act → World → Prop) (hQ : ∀ u10 u43 u44 u45 u46 u47 u48 u49 u50 u51 u52 u53 u54 u55 u56 u57 u58 u59 : Value, Q (.exit 4) ⟨(c0 :: c1 :: c2 :: c3 :: v4 :: c5 :: Value.int .i64 (64 * (n : Int)) :: c7 :: Value.int .i64 (i : Int) :: V64 (part (blockOf D n) 64 i) :: u10 :: c11 :: c12 :: c13 :: c14 :: c15 :: c16 :: c17 :: c18 :: c19 :: c20 :: c21 :: c22 :: c23 :: c24 :: c25 :: c26 :: c27 :: c28 :: c29 :: c30 :: c31 :: c32 :: c33 :: c34 :: c35 :: c36 :: c37 :: c38 :: c39 :: c40 :: c41 :: c42 :: u43 :: u44 :: u45 :: u46 :: u47 :: u48 :: u49 :: u50 :: u51 :: u52 :: u53 :: u54 :: u55 :: u56 :: u57 :: u58 :: u59 :: c60 :: c61 :: c62 :: c63 :: c64 :: c65 :: c66 :: c67 :: c68 :: c69 :: c70 :: c71 :: c72 :: c73 :: c74 :: c75 :: c76 :: c77 :: c78 :: c79 :: c80 :: c81 :: c82 :: c83 :: c84 :: c85 :: c86 :: c87 :: c88 :: c89 :: c90 :: c91 :: c92 :: c93 :: c94 :: c95 :: c96 :: c97 :: c98 :: c99 :: c100 :: c101 :: c102 :: c103 :: c104 :: c105 :: c106 :: c107 :: c108 :: c109 :: c110 :: c111 :: c112 :: c113 :: c114 :: c115 :: c116 :: c117 :: c118 :: c119 :: c120 :: c121 :: c122 :: c123 :: c124 :: c125 :: c126 :: c127 :: c128 :: c129 :: c130 :: c131 :: c132 :: c133 :: c134 :: c135 :: c136 :: c137 :: c138 :: c139 :: c140 :: c141 :: c142 :: c143 :: c144 :: c145 :: c146 :: c147 :: c148 :: c149 :: c150 :: c151 :: c152 :: c153 :: c154 :: c155 :: c156 :: c157 :: c158 :: c159 :: c160 :: c161 :: c162 :: c163 :: c164 :: c165 :: c166 :: c167 :: c168 :: c169 :: c170 :: c171 :: c172 :: c173 :: c174 :: c175 :: c176 :: c177 :: c178 :: c179 :: c180 :: c181 :: c182 :: c183 :: c184 :: c185 :: c186 :: c187 :: c188 :: c189 :: c190 :: c191 :: c192 :: c193 :: c194 :: c195 :: c196 :: c197 :: c198 :: c199 :: c200 :: c201 :: c202 :: c203 :: c204 :: c205 :: c206 :: c207 :: c208 :: c209 :: c210 :: c211 :: c212 :: c213 :: c214 :: c215 :: c216 :: c217 :: c218 :: c219 :: c220 :: c221 :: c222 :: c223 :: c224 :: c225 :: c226 :: c227 :: c228 :: c229 :: c230 :: c231 :: c232 :: c233 :: c234 :: c235 :: c236 :: c237 :: c238 :: c239 :: c240 :: c241 :: c242 :: c243 :: c244 :: c245 :: c246 :: c247 :: c248 :: c249 :: c250 :: c251 :: c252 :: c253 :: ([] : List Value)).toArray, []⟩ w) :
    Code.wp Tryd.prog (.loop (sumLoop 4)) Q ⟨(c0 :: c1 :: c2 :: c3 :: v4 :: c5 :: Value.int .i64 (64 * (n : Int)) :: c7 :: Value.int .i64 (i : Int) :: V64 0 :: Value.int .i64 0 :: c11 :: c12 :: c13 :: c14 :: c15 :: c16 :: c17 :: c18 :: c19 :: c20 :: c21 :: c22 :: c23 :: c24 :: c25 :: c26 :: c27 :: c28 :: c29 :: c30 :: c31 :: c32 :: c33 :: c34 :: c35 :: c36 :: c37 :: c38 :: c39 :: c40 :: c41 :: c42 :: c43 :: c44 :: c45 :: c46 :: c47 :: c48 :: c49 :: c50 :: c51 :: c52 :: c53 :: c54 :: c55 :: c56 :: c57 :: c58 :: c59 :: c60 :: c61 :: c62 :: c63 :: c64 :: c65 :: c66 :: c67 :: c68 :: c69 :: c70 :: c71 :: c72 :: c73 :: c74 :: c75 :: c76 :: c77 :: c78 :: c79 :: c80 :: c81 :: c82 :: c83 :: c84 :: c85 :: c86 :: c87 :: c88 :: c89 :: c90 :: c91 :: c92 :: c93 :: c94 :: c95 :: c96 :: c97 :: c98 :: c99 :: c100 :: c101 :: c102 :: c103 :: c104 :: c105 :: c106 :: c107 :: c108 :: c109 :: c110 :: c111 :: c112 :: c113 :: c114 :: c115 :: c116 :: c117 :: c118 :: c119 :: c120 :: c121 :: c122 :: c123 :: c124 :: c125 :: c126 :: c127 :: c128 :: c129 :: c130 :: c131 :: c132 :: c133 :: c134 :: c135 :: c136 :: c137 :: c138 :: c139 :: c140 :: c141 :: c142 :: c143 :: c144 :: c145 :: c146 :: c147 :: c148 :: c149 :: c150 :: c151 :: c152 :: c153 :: c154 :: c155 :: c156 :: c157 :: c158 :: c159 :: c160 :: c161 :: c162 :: c163 :: c164 :: c165 :: c166 :: c167 :: c168 :: c169 :: c170 :: c171 :: c172 :: c173 :: c174 :: c175 :: c176 :: c177 :: c178 :: c179 :: c180 :: c181 :: c182 :: c183 :: c184 :: c185 :: c186 :: c187 :: c188 :: c189 :: c190 :: c191 :: c192 :: c193 :: c194 :: c195 :: c196 :: c197 :: c198 :: c199 :: c200 :: c201 :: c202 :: c203 :: c204 :: c205 :: c206 :: c207 :: c208 :: c209 :: c210 :: c211 :: c212 :: c213 :: c214 :: c215 :: c216 :: c217 :: c218 :: c219 :: c220 :: c221 :: c222 :: c223 :: c224 :: c225 :: c226 :: c227 :: c228 :: c229 :: c230 :: c231 :: c232 :: c233 :: c234 :: c235 :: c236 :: c237 :: c238 :: c239 :: c240 :: c241 :: c242 :: c243 :: c244 :: c245 :: c246 :: c247 :: c248 :: c249 :: c250 :: c251 :: c252 :: c253 :: ([] : List Value)).toArray, []⟩ w := by
  conv => arg 2; arg 1; whnf
  have hbl := blockOf_len D n hn
  go_loopw [10, 9] (fun jv v wr => ∃ j : Nat, j ≤ 4 ∧ jv = .int .i64 (j : Int) ∧ v = V64 (quad (blockOf D n) i j) ∧ wr = w) (fun jv _ _ => 4 - (intOf jv).toNat)
  case atStart => exact ⟨0, by omega, rfl, rfl, rfl⟩
  case round =>
    obtain ⟨j, hj, rfl, rfl, rfl⟩ := hrel
    by_cases hlt : j < 4
    · have hd : decide ((j : Int) < 4) = true := by simp; omega
      have hq1 := I_lo (quad (blockOf D n) i j)
      have hq2 := I_hi (quad (blockOf D n) i j)
      have hb1 := B_lo (at8 D (64 * n + (4 * i + j)))
      have hb2 := B_hi (at8 D (64 * n + (4 * i + j)))
      have Hnum := Lib.hid (quad_num (blockOf D n) i j hlt (by omega))
      go_wp2_with (first
        | ((with_reducible change wpList _ _ _ (Oper.mk (some 56) _ _ _ _ _ :: _) _ _); refine kIndexAddrV _ _ _ _ _ _ _ _ (64 * n + (4 * i + j)) (VB (at8 D (64 * n + (4 * i + j)))) rfl rfl rfl hA rfl Tryd.underlying57 info_byte (by omega) (vals_at D _ (by omega)) ?_; intro ad had)
        | ((with_reducible change wpList _ _ _ (Oper.mk (some 57) _ _ _ _ _ :: _) _ _); refine kLoadCell _ _ _ _ _ rfl rfl rfl had Tryd.underlying5 rfl ?_))
      go_roundw
      case rel =>
        refine ⟨j + 1, by omega, by go_num, ?_, by trivial⟩
        rw [← blockOf_at D n (4 * i + j) (by omega) hn]
        exact congrArg (Value.int IntKind.u64) Hnum.out
      case measure => simp [intOf]; omega
    · have Hj := Lib.hid (show j = 4 by omega)
      have hd : decide ((j : Int) < 4) = false := by simp; omega
      rw [show quad (blockOf D n) i j = part (blockOf D n) 64 i by rw [Hj.out, quad_four _ _ hbl]]
      go_wp2
      all_goals first | done | exact hQ _ _ _ _ _ _ _ _ _ _ _ _ _ _ _ _ _ _
end Go.Proofs.YtdeggdmoijfhdaaDoor

/-
  The reference's Sum: its second loop: the row of 64 numbers of a block.
-/
namespace Go.Proofs.YtdeggdmoijfhdaaDoor
open Go Go.RowKit

set_option maxRecDepth 1000000 in
set_option maxHeartbeats 4000000 in
theorem loop2 (c0 c1 c2 c3 c5 c9 c10 c11 c12 c13 c14 c15 c16 c17 c18 c19 c20 c21 c22 c23 c24 c25 c26 c27 c28 c29 c30 c31 c32 c33 c34 c35 c36 c37 c38 c39 c40 c41 c42 c43 c44 c45 c46 c47 c48 c49 c50 c51 c52 c53 c54 c55 c56 c57 c58 c59 c60 c61 c62 c63 c64 c65 c66 c67 c68 c69 c70 c71 c72 c73 c74 c75 c76 c77 c78 c79 c80 c81 c82 c83 c84 c85 c86 c87 c88 c89 c90 c91 c92 c93 c94 c95 c96 c97 c98 c99 c100 c101 c102 c103 c104 c105 c106 c107 c108 c109 c110 c111 c112 c113 c114 c115 c116 c117 c118 c119 c120 c121 c122 c123 c124 c125 c126 c127 c128 c129 c130 c131 c132 c133 c134 c135 c136 c137 c138 c139 c140 c141 c142 c143 c144 c145 c146 c147 c148 c149 c150 c151 c152 c153 c154 c155 c156 c157 c158 c159 c160 c161 c162 c163 c164 c165 c166 c167 c168 c169 c170 c171 c172 c173 c174 c175 c176 c177 c178 c179 c180 c181 c182 c183 c184 c185 c186 c187 c188 c189 c190 c191 c192 c193 c194 c195 c196 c197 c198 c199 c200 c201 c202 c203 c204 c205 c206 c207 c208 c209 c210 c211 c212 c213 c214 c215 c216 c217 c218 c219 c220 c221 c222 c223 c224 c225 c226 c227 c228 c229 c230 c231 c232 c233 c234 c235 c236 c237 c238 c239 c240 c241 c242 c243 c244 c245 c246 c247 c248 c249 c250 c251 c252 c253 : Value) (n : Nat) (D : List UInt8) (v4 v7 : Value) (w0 w : World) (hA : IsVals w0 v4 (D.map VB)) (h0 : Below w0.heap.size w0 w) (hO : w.ownsRow w0.heap.size 29 1 v7 0 []) (hD : D.length ≤ 2000000) (hn : 64 * n + 64 ≤ D.length)
    (Q : Exit → Act → World → Prop) (hQ : ∀ (v7' u8 u9 u10 u11 u12 u37 u38 u39 u40 u41 u42 u43 u44 u45 u46 u47 u48 u49 u50 u51 u52 u53 u54 u55 u56 u57 u58 u59 u60 u61 u62 u63 u64 u65 u66 u67 u68 u69 u70 u71 u72 u73 u74 u75 u76 u77 u78 u79 u80 u81 u82 u83 u84 u85 u86 u87 u88 u89 u90 u91 u92 u93 u94 u95 u96 u97 u98 u99 u100 u101 u102 u103 u104 u105 u106 u107 u108 u109 u110 u111 u112 u113 u114 u115 u116 u117 u118 u119 u120 u121 u122 : Value) (w' : World), w'.ownsRow w0.heap.size 29 1 v7' 64 ((sched (blockOf D n)).map V64) → Below w0.heap.size w0 w' → Q (.exit 2) ⟨(c0 :: c1 :: c2 :: c3 :: v4 :: c5 :: Value.int .i64 (64 * (n : Int)) :: v7' :: u8 :: u9 :: u10 :: u11 :: u12 :: c13 :: c14 :: c15 :: c16 :: c17 :: c18 :: c19 :: c20 :: c21 :: c22 :: c23 :: c24 :: c25 :: c26 :: c27 :: c28 :: c29 :: c30 :: c31 :: c32 :: c33 :: c34 :: c35 :: c36 :: u37 :: u38 :: u39 :: u40 :: u41 :: u42 :: u43 :: u44 :: u45 :: u46 :: u47 :: u48 :: u49 :: u50 :: u51 :: u52 :: u53 :: u54 :: u55 :: u56 :: u57 :: u58 :: u59 :: u60 :: u61 :: u62 :: u63 :: u64 :: u65 :: u66 :: u67 :: u68 :: u69 :: u70 :: u71 :: u72 :: u73 :: u74 :: u75 :: u76 :: u77 :: u78 :: u79 :: u80 :: u81 :: u82 :: u83 :: u84 :: u85 :: u86 :: u87 :: u88 :: u89 :: u90 :: u91 :: u92 :: u93 :: u94 :: u95 :: u96 :: u97 :: u98 :: u99 :: u100 :: u101 :: u102 :: u103 :: u104 :: u105 :: u106 :: u107 :: u108 :: u109 :: u110 :: u111 :: u112 :: u113 :: u114 :: u115 :: u116 :: u117 :: u118 :: u119 :: u120 :: u121 :: u122 :: c123 :: c124 :: c125 :: c126 :: c127 :: c128 :: c129 :: c130 :: c131 :: c132 :: c133 :: c134 :: c135 :: c136 :: c137 :: c138 :: c139 :: c140 :: c141 :: c142 :: c143 :: c144 :: c145 :: c146 :: c147 :: c148 :: c149 :: c150 :: c151 :: c152 :: c153 :: c154 :: c155 :: c156 :: c157 :: c158 :: c159 :: c160 :: c161 :: c162 :: c163 :: c164 :: c165 :: c166 :: c167 :: c168 :: c169 :: c170 :: c171 :: c172 :: c173 :: c174 :: c175 :: c176 :: c177 :: c178 :: c179 :: c180 :: c181 :: c182 :: c183 :: c184 :: c185 :: c186 :: c187 :: c188 :: c189 :: c190 :: c191 :: c192 :: c193 :: c194 :: c195 :: c196 :: c197 :: c198 :: c199 :: c200 :: c201 :: c202 :: c203 :: c204 :: c205 :: c206 :: c207 :: c208 :: c209 :: c210 :: c211 :: c212 :: c213 :: c214 :: c215 :: c216 :: c217 :: c218 :: c219 :: c220 :: c221 :: c222 :: c223 :: c224 :: c225 :: c226 :: c227 :: c228 :: c229 :: c230 :: c231 :: c232 :: c233 :: c234 :: c235 :: c236 :: c237 :: c238 :: c239 :: c240 :: c241 :: c242 :: c243 :: c244 :: c245 :: c246 :: c247 :: c248 :: c249 :: c250 :: c251 :: c252 :: c253 :: ([] : List Value)).toArray, []⟩ w') :
    Code.wp Tryd.prog (.loop (sumLoop 2)) Q ⟨(c0 :: c1 :: c2 :: c3 :: v4 :: c5 :: Value.int .i64 (64 * (n : Int)) :: v7 :: Value.int .i64 0 :: c9 :: c10 :: c11 :: c12 :: c13 :: c14 :: c15 :: c16 :: c17 :: c18 :: c19 :: c20 :: c21 :: c22 :: c23 :: c24 :: c25 :: c26 :: c27 :: c28 :: c29 :: c30 :: c31 :: c32 :: c33 :: c34 :: c35 :: c36 :: c37 :: c38 :: c39 :: c40 :: c41 :: c42 :: c43 :: c44 :: c45 :: c46 :: c47 :: c48 :: c49 :: c50 :: c51 :: c52 :: c53 :: c54 :: c55 :: c56 :: c57 :: c58 :: c59 :: c60 :: c61 :: c62 :: c63 :: c64 :: c65 :: c66 :: c67 :: c68 :: c69 :: c70 :: c71 :: c72 :: c73 :: c74 :: c75 :: c76 :: c77 :: c78 :: c79 :: c80 :: c81 :: c82 :: c83 :: c84 :: c85 :: c86 :: c87 :: c88 :: c89 :: c90 :: c91 :: c92 :: c93 :: c94 :: c95 :: c96 :: c97 :: c98 :: c99 :: c100 :: c101 :: c102 :: c103 :: c104 :: c105 :: c106 :: c107 :: c108 :: c109 :: c110 :: c111 :: c112 :: c113 :: c114 :: c115 :: c116 :: c117 :: c118 :: c119 :: c120 :: c121 :: c122 :: c123 :: c124 :: c125 :: c126 :: c127 :: c128 :: c129 :: c130 :: c131 :: c132 :: c133 :: c134 :: c135 :: c136 :: c137 :: c138 :: c139 :: c140 :: c141 :: c142 :: c143 :: c144 :: c145 :: c146 :: c147 :: c148 :: c149 :: c150 :: c151 :: c152 :: c153 :: c154 :: c155 :: c156 :: c157 :: c158 :: c159 :: c160 :: c161 :: c162 :: c163 :: c164 :: c165 :: c166 :: c167 :: c168 :: c169 :: c170 :: c171 :: c172 :: c173 :: c174 :: c175 :: c176 :: c177 :: c178 :: c179 :: c180 :: c181 :: c182 :: c183 :: c184 :: c185 :: c186 :: c187 :: c188 :: c189 :: c190 :: c191 :: c192 :: c193 :: c194 :: c195 :: c196 :: c197 :: c198 :: c199 :: c200 :: c201 :: c202 :: c203 :: c204 :: c205 :: c206 :: c207 :: c208 :: c209 :: c210 :: c211 :: c212 :: c213 :: c214 :: c215 :: c216 :: c217 :: c218 :: c219 :: c220 :: c221 :: c222 :: c223 :: c224 :: c225 :: c226 :: c227 :: c228 :: c229 :: c230 :: c231 :: c232 :: c233 :: c234 :: c235 :: c236 :: c237 :: c238 :: c239 :: c240 :: c241 :: c242 :: c243 :: c244 :: c245 :: c246 :: c247 :: c248 :: c249 :: c250 :: c251 :: c252 :: c253 :: ([] : List Value)).toArray, []⟩ w := by
  conv => arg 2; arg 1; whnf
  obtain ⟨ii, hi, hz, hs1, hby⟩ := u64Info
  have hx64 := bxor64
  go_loopw [8, 7] (fun iv v wr => ∃ i : Nat, i ≤ 64 ∧ iv = .int .i64 (i : Int) ∧ wr.ownsRow w0.heap.size 29 1 v i (((sched (blockOf D n)).take i).map V64) ∧ Below w0.heap.size w0 wr) (fun iv _ _ => 64 - (intOf iv).toNat)
  case atStart => exact ⟨0, by omega, rfl, hO, h0⟩
  case round =>
    obtain ⟨i, hi64, rfl, hOr, hBr⟩ := hrel
    have hszr := hBr.size
    have hlenr : (((sched (blockOf D n)).take i).map V64).length = i := by rw [List.length_map, List.length_take, sched_len]; omega
    by_cases hlt : i < 64
    · have hd : decide ((i : Int) < 64) = true := by simp; omega
      by_cases h16 : i < 16
      · have hd2 : decide ((i : Int) < 16) = true := by simp; omega
        go_wp2_with fail
        refine loop4 _ _ _ _ _ _ _ _ _ _ _ _ _ _ _ _ _ _ _ _ _ _ _ _ _ _ _ _ _ _ _ _ _ _ _ _ _ _ _ _ _ _ _ _ _ _ _ _ _ _ _ _ _ _ _ _ _ _ _ _ _ _ _ _ _ _ _ _ _ _ _ _ _ _ _ _ _ _ _ _ _ _ _ _ _ _ _ _ _ _ _ _ _ _ _ _ _ _ _ _ _ _ _ _ _ _ _ _ _ _ _ _ _ _ _ _ _ _ _ _ _ _ _ _ _ _ _ _ _ _ _ _ _ _ _ _ _ _ _ _ _ _ _ _ _ _ _ _ _ _ _ _ _ _ _ _ _ _ _ _ _ _ _ _ _ _ _ _ _ _ _ _ _ _ _ _ _ _ _ _ _ _ _ _ _ _ _ _ _ _ _ _ _ _ _ _ _ _ _ _ _ _ _ _ _ _ _ _ _ _ _ _ _ _ _ _ _ _ _ _ _ _ _ _ _ _ _ _ _ _ _ _ _ _ _ _ _ _ _ _ _ _ _ _ _ _ _ _ _ n i D v4 _ (hA.below hBr) hD hn h16 _ ?_
        intro u10 u43 u44 u45 u46 u47 u48 u49 u50 u51 u52 u53 u54 u55 u56 u57 u58 u59
        go_wp2_with (first
          | ((with_reducible change wpList _ _ _ (Oper.mk (some 62) _ _ _ _ _ :: _) _ _); refine kBuildSlice1 _ _ _ (V64 (part (blockOf D n) 64 i)) rfl rfl Tryd.underlying40 ii _ hi hz hs1 rfl rfl ?_; intro w5 hR5 hz5 hB5)
          | ((with_reducible change wpList _ _ _ (Oper.mk (some 63) _ _ _ _ _ :: _) _ _); refine kAppend _ _ _ _ rfl rfl w0.heap.size ii _ Tryd.underlying40 hi hz hs1 rfl _ _ (((sched (blockOf D n)).take i).map V64) [V64 (part (blockOf D n) 64 i)] rfl (ownsRow_below (by rw [hlenr]; exact hOr) hB5) rfl (isVals_lit hR5) (v64_one [_]) (by unfold maxLen; rw [hlenr]; simp; omega) (by rw [hby, hlenr]; simp; omega) (by omega) ?_; intro v6 w6 hO6 hG6; have hB6 := (hBr.trans (hB5.mono hszr)).trans (below_grown (ownsRow_below hOr hB5) hG6 (by omega))))
        go_roundw
        case rel =>
          refine ⟨i + 1, by omega, by go_num, ?_, hB6⟩
          rw [sched_take _ _ hlt, List.map_append, sched_low _ _ h16]
          rw [List.length_append, hlenr] at hO6
          exact hO6
        case measure => simp [intOf]; omega
      · have hd2 : decide ((i : Int) < 16) = false := by simp; omega
        rcases hOr.2 with ⟨_, hi0⟩ | ⟨g, cap, cur, rfl, hbg, hgr, hnc, hcm, hcs, htake⟩
        · omega
        have hcells : ∀ j, j < i → wr.cell? ⟨g, j, none⟩ = some (V64 (at32 (sched (blockOf D n)) j)) := fun j hj => by
          have := hOr.cells (g := g) rfl j _ (sched_vals _ i j hi64 hj)
          rwa [add_none, Nat.zero_add] at this
        clear hgr htake hcs
        go_wp2_with fail
        refine region_drew_tail 20 (by kernel_rfl) (by kernel_rfl) ?_
        simp only [List.take_succ_cons, List.take_zero, List.drop_succ_cons, List.drop_zero]
        repeat (first
          | ((with_reducible change wpQuiet _ _ _ _ (Oper.mk _ (Op.indexAddr _ _ _) _ _ _ _ :: _) _); refine qIndexAddrG _ _ _ _ _ _ _ _ _ (i - 15) rfl rfl rfl rfl Tryd.underlying40 info_u64b (by omega) (by omega) ?_; go_frame)
          | ((with_reducible change wpQuiet _ _ _ _ (Oper.mk _ (Op.load _ _) _ _ _ _ :: _) _); refine qLoadCell _ _ _ _ (V64 (at32 (sched (blockOf D n)) (i - 15))) _ rfl rfl rfl (fun _ ⟨_, e⟩ => by rw [e]; exact hcells _ (by omega)) Tryd.underlying29 rfl ?_; go_frame)
          | go_big_quiet_step (first | (go_at_call 47; exact quiet_same (rright_int _ _ _ (by omega) (by omega))) | (go_at_call 48; exact quiet_same (rdown_int _ _ _ (by omega) (by omega)))))
        refine wpQuiet_nil ?_
        rintro _ ⟨nq, rfl⟩
        have hBq : Below wr.heap.size wr (wr.drewN nq) := ⟨rfl, rfl, rfl, Nat.le_refl _, fun _ _ => rfl⟩
        have hcq : ∀ j, j < i → (wr.drewN nq).cell? ⟨g, j, none⟩ = some (V64 (at32 (sched (blockOf D n)) j)) := hcells
        generalize wr.drewN nq = w2 at hBq hcq ⊢
        go_wp2_with fail
        generalize hp : (rotr (at32 (sched (blockOf D n)) (i - 15)) 7 ^^^ rotr (at32 (sched (blockOf D n)) (i - 15)) 18 ^^^ shr (at32 (sched (blockOf D n)) (i - 15)) 3) = p
        refine region_drew_tail 20 (by kernel_rfl) (by kernel_rfl) ?_
        simp only [List.take_succ_cons, List.take_zero, List.drop_succ_cons, List.drop_zero]
        repeat (first
          | ((with_reducible change wpQuiet _ _ _ _ (Oper.mk _ (Op.indexAddr _ _ _) _ _ _ _ :: _) _); refine qIndexAddrG _ _ _ _ _ _ _ _ _ (i - 2) rfl rfl rfl rfl Tryd.underlying40 info_u64b (by omega) (by omega) ?_; go_frame)
          | ((with_reducible change wpQuiet _ _ _ _ (Oper.mk _ (Op.load _ _) _ _ _ _ :: _) _); refine qLoadCell _ _ _ _ (V64 (at32 (sched (blockOf D n)) (i - 2))) _ rfl rfl rfl (fun _ ⟨_, e⟩ => by rw [e]; exact hcq _ (by omega)) Tryd.underlying29 rfl ?_; go_frame)
          | go_big_quiet_step (first | (go_at_call 47; exact quiet_same (rright_int _ _ _ (by omega) (by omega))) | (go_at_call 48; exact quiet_same (rdown_int _ _ _ (by omega) (by omega)))))
        refine wpQuiet_nil ?_
        rintro _ ⟨nq2, rfl⟩
        have hBq2 : Below wr.heap.size wr (w2.drewN nq2) := hBq.trans ⟨rfl, rfl, rfl, Nat.le_refl _, fun _ _ => rfl⟩
        have hsq2 := hBq2.size
        have hcq2 : ∀ j, j < i → (w2.drewN nq2).cell? ⟨g, j, none⟩ = some (V64 (at32 (sched (blockOf D n)) j)) := hcq
        generalize w2.drewN nq2 = w3 at hBq2 hcq2 hsq2 ⊢
        go_wp2_with fail
        generalize hq : (rotr (at32 (sched (blockOf D n)) (i - 2)) 17 ^^^ rotr (at32 (sched (blockOf D n)) (i - 2)) 19 ^^^ shr (at32 (sched (blockOf D n)) (i - 2)) 10) = q
        refine region_mix' [true, true, true, true, true, true, true, true, true, true, true, true, true, true, true, true, true, false, false] (fun w' => ∀ j, j < i → w'.cell? ⟨g, j, none⟩ = some (V64 (at32 (sched (blockOf D n)) j))) (by kernel_rfl) (by kernel_rfl) ?_
        intro wd hBd0 hsd
        have hBd : Below wr.heap.size wr wd := hBq2.trans (hBd0.mono hsq2)
        have hszd := hBd.size
        have hOd := ownsRow_below hOr hBd
        have hlt_g : g < wr.heap.size := block_lt_of_cell (hcells 0 (by omega))
        have hS : ∀ j, j < i → wd.cell? ⟨g, j, none⟩ = some (V64 (at32 (sched (blockOf D n)) j)) := fun j hj => by rw [hBd.cell hlt_g]; exact hcells j hj
        simp only [List.length_cons, List.length_nil, List.take_succ_cons, List.take_zero, List.drop_succ_cons, List.drop_zero]
        have i1 := I_lo (at32 (sched (blockOf D n)) (i - 16))
        have i2 := I_hi (at32 (sched (blockOf D n)) (i - 16))
        have i3 := I_lo (at32 (sched (blockOf D n)) (i - 7))
        have i4 := I_hi (at32 (sched (blockOf D n)) (i - 7))
        have i5 := I_lo p
        have i6 := I_hi p
        have i7 := I_lo q
        have i8 := I_hi q
        have Hsum : (I (at32 (sched (blockOf D n)) (i - 16)) + I p + I (at32 (sched (blockOf D n)) (i - 7)) + I q).tmod 4294967296 = I (at32 (sched (blockOf D n)) i) := by
          rw [tmod_sum4, ← hp, ← hq]
          exact congrArg I (sched_next (blockOf D n) i (by omega) hlt)
        refine mixMove _ (.slice (some ⟨g, 0, none⟩) i cap) hS rfl rfl rfl ?_; go_frame
        refine mixMove _ (.slice (some ⟨g, 0, none⟩) i cap) hS rfl rfl rfl ?_; go_frame
        refine mixMove _ (.int .i64 (i : Int)) hS rfl rfl rfl ?_; go_frame
        refine mixQuiet (.int .i64 ((i : Int) - 16)) hS rfl (fun w _ => by go_simp; exact IntWalk.i64_in _ ⟨by omega, by omega⟩) ?_; go_frame
        refine mixIndexAddrG _ _ _ _ _ _ _ _ _ (i - 16) hS rfl rfl rfl rfl Tryd.underlying40 info_u64b (by omega) (by omega) ?_; go_frame
        refine mixLoadCell _ _ _ _ (V64 (at32 (sched (blockOf D n)) (i - 16))) _ hS rfl rfl rfl (fun _ h => h _ (by omega)) Tryd.underlying29 rfl ?_; go_frame
        refine mixMove _ (V64 p) hS rfl rfl rfl ?_; go_frame
        refine mixQuiet (.int .u64 (I (at32 (sched (blockOf D n)) (i - 16)) + I p)) hS rfl (fun w _ => by go_simp; exact IntWalk.u64_in _ ⟨by omega, by omega⟩) ?_; go_frame
        refine mixMove _ (.slice (some ⟨g, 0, none⟩) i cap) hS rfl rfl rfl ?_; go_frame
        refine mixMove _ (.int .i64 (i : Int)) hS rfl rfl rfl ?_; go_frame
        refine mixQuiet (.int .i64 ((i : Int) - 7)) hS rfl (fun w _ => by go_simp; exact IntWalk.i64_in _ ⟨by omega, by omega⟩) ?_; go_frame
        refine mixIndexAddrG _ _ _ _ _ _ _ _ _ (i - 7) hS rfl rfl rfl rfl Tryd.underlying40 info_u64b (by omega) (by omega) ?_; go_frame
        refine mixLoadCell _ _ _ _ (V64 (at32 (sched (blockOf D n)) (i - 7))) _ hS rfl rfl rfl (fun _ h => h _ (by omega)) Tryd.underlying29 rfl ?_; go_frame
        refine mixQuiet (.int .u64 (I (at32 (sched (blockOf D n)) (i - 16)) + I p + I (at32 (sched (blockOf D n)) (i - 7)))) hS rfl (fun w _ => by go_simp; exact IntWalk.u64_in _ ⟨by omega, by omega⟩) ?_; go_frame
        refine mixMove _ (V64 q) hS rfl rfl rfl ?_; go_frame
        refine mixQuiet (.int .u64 (I (at32 (sched (blockOf D n)) (i - 16)) + I p + I (at32 (sched (blockOf D n)) (i - 7)) + I q)) hS rfl (fun w _ => by go_simp; exact IntWalk.u64_in _ ⟨by omega, by omega⟩) ?_; go_frame
        refine mixQuiet (V64 (at32 (sched (blockOf D n)) i)) hS rfl (fun w _ => by go_simp) ?_; go_frame
        refine mixLoud ?_
        refine kBuildSlice1 _ _ _ (V64 (at32 (sched (blockOf D n)) i)) rfl rfl Tryd.underlying40 ii _ hi hz hs1 rfl rfl ?_
        intro w5 hR5 hz5 hB5
        refine mixOn ⟨fun j hj => by rw [hB5.cell (Nat.lt_of_lt_of_le hlt_g hszd)]; exact hS j hj, ?_⟩
        go_frame
        refine mixLoud ?_
        refine kAppendKeep _ _ _ _ rfl rfl w0.heap.size ii _ Tryd.underlying40 hi hz hs1 rfl g i cap _ (((sched (blockOf D n)).take i).map V64) [V64 (at32 (sched (blockOf D n)) i)] rfl (ownsRow_below hOd hB5) rfl (isVals_lit hR5) (by simp) (v64_one [_]) (by unfold maxLen; simp; omega) (by rw [hby]; simp; omega) (by omega) ?_
        intro v6 w6 hO6 hG6 hkeep
        refine mixOn ⟨fun j hj => hkeep j _ (sched_vals _ i j hi64 hj), ?_⟩
        go_frame
        have hB6 := ((hBr.trans (hBd.mono hszr)).trans (hB5.mono (by omega))).trans (below_grown (ownsRow_below hOd hB5) hG6 (by omega))
        refine mixEnd ?_
        go_wp2
        go_roundw
        case rel =>
          refine ⟨i + 1, by omega, by go_num, ?_, hB6⟩
          rw [sched_take _ _ hlt, List.map_append]
          exact hO6
        case measure => simp [intOf]; omega
    · have Hi := Lib.hid (show i = 64 by omega)
      have hd : decide ((i : Int) < 64) = false := by simp; omega
      rw [Hi.out, List.take_of_length_le (by rw [sched_len]; omega)] at hOr
      go_wp2
      all_goals first | done | exact hQ _ _ _ _ _ _ _ _ _ _ _ _ _ _ _ _ _ _ _ _ _ _ _ _ _ _ _ _ _ _ _ _ _ _ _ _ _ _ _ _ _ _ _ _ _ _ _ _ _ _ _ _ _ _ _ _ _ _ _ _ _ _ _ _ _ _ _ _ _ _ _ _ _ _ _ _ _ _ _ _ _ _ _ _ _ _ _ _ _ _ _ _ _ hOr hBr
end Go.Proofs.YtdeggdmoijfhdaaDoor

/-
  The reference's Sum: the loop that moves the eight numbers on by one place.
-/
namespace Go.Proofs.YtdeggdmoijfhdaaDoor
open Go Go.RowKit

theorem Wrote.refl (g : Nat) (w : World) : Wrote g w w := ⟨rfl, rfl, rfl, rfl, fun _ _ => rfl⟩
theorem Wrote.trans {g : Nat} {w1 w2 w3 : World} (h1 : Wrote g w1 w2) (h2 : Wrote g w2 w3) : Wrote g w1 w3 :=
  ⟨h2.os.trans h1.os, h2.tape.trans h1.tape, h2.output.trans h1.output, h2.size.trans h1.size, fun k hk => (h2.other k hk).trans (h1.other k hk)⟩
theorem Wrote.drewN (g : Nat) (w : World) (n : Nat) : Wrote g w (w.drewN n) := ⟨rfl, rfl, rfl, rfl, fun _ _ => rfl⟩
theorem Wrote.cell {g k j : Nat} {w w' : World} (h : Wrote g w w') (hk : k ≠ g) : w'.cell? ⟨k, j, none⟩ = w.cell? ⟨k, j, none⟩ := by
  unfold World.cell?
  rw [show w'.heap[(⟨k, j, none⟩ : Addr).block]? = w.heap[(⟨k, j, none⟩ : Addr).block]? from h.other k hk]

set_option maxRecDepth 1000000 in
set_option maxHeartbeats 4000000 in
theorem loop8 (c0 c1 c2 c3 c4 c5 c6 c7 c8 c9 c10 c11 c12 c14 c15 c16 c17 c18 c19 c21 c22 c23 c24 c25 c26 c27 c28 c29 c30 c31 c32 c33 c34 c35 c36 c37 c38 c39 c40 c41 c42 c43 c44 c45 c46 c47 c48 c49 c50 c51 c52 c53 c54 c55 c56 c57 c58 c59 c60 c61 c62 c63 c64 c65 c66 c67 c68 c69 c70 c71 c72 c73 c74 c75 c76 c77 c78 c79 c80 c81 c82 c83 c84 c85 c86 c87 c88 c89 c90 c91 c92 c93 c94 c95 c96 c97 c98 c99 c100 c101 c102 c103 c104 c105 c106 c107 c108 c109 c110 c111 c112 c113 c114 c115 c116 c117 c118 c119 c120 c121 c122 c123 c124 c125 c126 c127 c128 c129 c130 c131 c132 c133 c134 c135 c136 c137 c138 c139 c140 c141 c142 c143 c144 c145 c146 c147 c148 c149 c150 c151 c152 c153 c154 c155 c156 c157 c158 c159 c160 c161 c162 c163 c164 c165 c166 c167 c168 c169 c170 c171 c172 c173 c174 c175 c176 c177 c178 c179 c180 c181 c182 c183 c184 c185 c186 c187 c188 c189 c190 c191 c192 c193 c194 c195 c196 c197 c198 c199 c200 c201 c202 c203 c204 c205 c206 c207 c208 c209 c210 c211 c212 c213 c214 c215 c216 c217 c218 c219 c220 c221 c222 c223 c224 c225 c226 c227 c228 c229 c230 c231 c232 c233 c234 c235 c236 c237 c238 c239 c240 c241 c242 c243 c244 c245 c246 c247 c248 c249 c250 c251 c252 c253 : Value) (g : Nat) (l : List UInt32) (w : World) (hR : Row w g 74 (tab 8 fun p => V64 (at32 l p)))
    (Q : Exit → Act → World → Prop) (hQ : ∀ (u20 u195 u196 u197 u198 u199 u200 u201 u202 u203 u204 : Value) (w' : World), Row w' g 74 (tab 8 fun p => V64 (at32 l (p - 1))) → Wrote g w w' → Q (.exit 8) ⟨(c0 :: c1 :: c2 :: c3 :: c4 :: c5 :: c6 :: c7 :: c8 :: c9 :: c10 :: c11 :: c12 :: Value.pointer (some ⟨g, 0, none⟩) :: c14 :: c15 :: c16 :: c17 :: c18 :: c19 :: u20 :: c21 :: c22 :: c23 :: c24 :: c25 :: c26 :: c27 :: c28 :: c29 :: c30 :: c31 :: c32 :: c33 :: c34 :: c35 :: c36 :: c37 :: c38 :: c39 :: c40 :: c41 :: c42 :: c43 :: c44 :: c45 :: c46 :: c47 :: c48 :: c49 :: c50 :: c51 :: c52 :: c53 :: c54 :: c55 :: c56 :: c57 :: c58 :: c59 :: c60 :: c61 :: c62 :: c63 :: c64 :: c65 :: c66 :: c67 :: c68 :: c69 :: c70 :: c71 :: c72 :: c73 :: c74 :: c75 :: c76 :: c77 :: c78 :: c79 :: c80 :: c81 :: c82 :: c83 :: c84 :: c85 :: c86 :: c87 :: c88 :: c89 :: c90 :: c91 :: c92 :: c93 :: c94 :: c95 :: c96 :: c97 :: c98 :: c99 :: c100 :: c101 :: c102 :: c103 :: c104 :: c105 :: c106 :: c107 :: c108 :: c109 :: c110 :: c111 :: c112 :: c113 :: c114 :: c115 :: c116 :: c117 :: c118 :: c119 :: c120 :: c121 :: c122 :: c123 :: c124 :: c125 :: c126 :: c127 :: c128 :: c129 :: c130 :: c131 :: c132 :: c133 :: c134 :: c135 :: c136 :: c137 :: c138 :: c139 :: c140 :: c141 :: c142 :: c143 :: c144 :: c145 :: c146 :: c147 :: c148 :: c149 :: c150 :: c151 :: c152 :: c153 :: c154 :: c155 :: c156 :: c157 :: c158 :: c159 :: c160 :: c161 :: c162 :: c163 :: c164 :: c165 :: c166 :: c167 :: c168 :: c169 :: c170 :: c171 :: c172 :: c173 :: c174 :: c175 :: c176 :: c177 :: c178 :: c179 :: c180 :: c181 :: c182 :: c183 :: c184 :: c185 :: c186 :: c187 :: c188 :: c189 :: c190 :: c191 :: c192 :: c193 :: c194 :: u195 :: u196 :: u197 :: u198 :: u199 :: u200 :: u201 :: u202 :: u203 :: u204 :: c205 :: c206 :: c207 :: c208 :: c209 :: c210 :: c211 :: c212 :: c213 :: c214 :: c215 :: c216 :: c217 :: c218 :: c219 :: c220 :: c221 :: c222 :: c223 :: c224 :: c225 :: c226 :: c227 :: c228 :: c229 :: c230 :: c231 :: c232 :: c233 :: c234 :: c235 :: c236 :: c237 :: c238 :: c239 :: c240 :: c241 :: c242 :: c243 :: c244 :: c245 :: c246 :: c247 :: c248 :: c249 :: c250 :: c251 :: c252 :: c253 :: ([] : List Value)).toArray, []⟩ w') :
    Code.wp Tryd.prog (.loop (sumLoop 8)) Q ⟨(c0 :: c1 :: c2 :: c3 :: c4 :: c5 :: c6 :: c7 :: c8 :: c9 :: c10 :: c11 :: c12 :: Value.pointer (some ⟨g, 0, none⟩) :: c14 :: c15 :: c16 :: c17 :: c18 :: c19 :: Value.int .i64 7 :: c21 :: c22 :: c23 :: c24 :: c25 :: c26 :: c27 :: c28 :: c29 :: c30 :: c31 :: c32 :: c33 :: c34 :: c35 :: c36 :: c37 :: c38 :: c39 :: c40 :: c41 :: c42 :: c43 :: c44 :: c45 :: c46 :: c47 :: c48 :: c49 :: c50 :: c51 :: c52 :: c53 :: c54 :: c55 :: c56 :: c57 :: c58 :: c59 :: c60 :: c61 :: c62 :: c63 :: c64 :: c65 :: c66 :: c67 :: c68 :: c69 :: c70 :: c71 :: c72 :: c73 :: c74 :: c75 :: c76 :: c77 :: c78 :: c79 :: c80 :: c81 :: c82 :: c83 :: c84 :: c85 :: c86 :: c87 :: c88 :: c89 :: c90 :: c91 :: c92 :: c93 :: c94 :: c95 :: c96 :: c97 :: c98 :: c99 :: c100 :: c101 :: c102 :: c103 :: c104 :: c105 :: c106 :: c107 :: c108 :: c109 :: c110 :: c111 :: c112 :: c113 :: c114 :: c115 :: c116 :: c117 :: c118 :: c119 :: c120 :: c121 :: c122 :: c123 :: c124 :: c125 :: c126 :: c127 :: c128 :: c129 :: c130 :: c131 :: c132 :: c133 :: c134 :: c135 :: c136 :: c137 :: c138 :: c139 :: c140 :: c141 :: c142 :: c143 :: c144 :: c145 :: c146 :: c147 :: c148 :: c149 :: c150 :: c151 :: c152 :: c153 :: c154 :: c155 :: c156 :: c157 :: c158 :: c159 :: c160 :: c161 :: c162 :: c163 :: c164 :: c165 :: c166 :: c167 :: c168 :: c169 :: c170 :: c171 :: c172 :: c173 :: c174 :: c175 :: c176 :: c177 :: c178 :: c179 :: c180 :: c181 :: c182 :: c183 :: c184 :: c185 :: c186 :: c187 :: c188 :: c189 :: c190 :: c191 :: c192 :: c193 :: c194 :: c195 :: c196 :: c197 :: c198 :: c199 :: c200 :: c201 :: c202 :: c203 :: c204 :: c205 :: c206 :: c207 :: c208 :: c209 :: c210 :: c211 :: c212 :: c213 :: c214 :: c215 :: c216 :: c217 :: c218 :: c219 :: c220 :: c221 :: c222 :: c223 :: c224 :: c225 :: c226 :: c227 :: c228 :: c229 :: c230 :: c231 :: c232 :: c233 :: c234 :: c235 :: c236 :: c237 :: c238 :: c239 :: c240 :: c241 :: c242 :: c243 :: c244 :: c245 :: c246 :: c247 :: c248 :: c249 :: c250 :: c251 :: c252 :: c253 :: ([] : List Value)).toArray, []⟩ w := by
  conv => arg 2; arg 1; whnf
  go_loopw [20] (fun jv wr => ∃ k : Nat, k ≤ 7 ∧ jv = .int .i64 (7 - (k : Int)) ∧ Row wr g 74 (tab 8 fun p => V64 (at32 l (if 7 - k < p then p - 1 else p))) ∧ Wrote g w wr) (fun jv _ => (intOf jv).toNat)
  case atStart => exact ⟨0, by omega, rfl, by rw [tab_congr (g := fun p => V64 (at32 l p)) (fun p hp => by rw [if_neg (by omega)])]; exact hR, Wrote.refl _ _⟩
  case round =>
    obtain ⟨k, hk, rfl, hRr, hWr⟩ := hrel
    by_cases hlt : k < 7
    · have hd : decide ((7 : Int) - (k : Int) > 0) = true := by simp; omega
      go_wp2_with (first
        | ((with_reducible change wpList _ _ _ (Oper.mk (some 202) _ _ _ _ _ :: _) _ _); refine kIndexAddr1 _ _ _ _ _ _ _ (6 - k) _ rfl rfl rfl rfl Tryd.underlying74 info_u64b (by omega) (by omega) ?_)
        | ((with_reducible change wpList _ _ _ (Oper.mk (some 203) _ _ _ _ _ :: _) _ _); refine kLoad1 _ _ _ _ _ _ (V64 (at32 l (6 - k))) _ rfl rfl rfl hRr Tryd.underlying29 rfl (by rw [tab_get _ _ _ (by omega), if_neg (by omega)]) ?_)
        | ((with_reducible change wpList _ _ _ (Oper.mk (some 204) _ _ _ _ _ :: _) _ _); refine kIndexAddr1 _ _ _ _ _ _ _ (7 - k) _ rfl rfl rfl rfl Tryd.underlying74 info_u64b (by omega) (by omega) ?_)
        | ((with_reducible change wpList _ _ _ (Oper.mk none _ _ _ _ _ :: _) _ _); refine kStore1 _ _ _ _ _ _ _ (V64 (at32 l (6 - k))) rfl rfl rfl rfl hRr info_u64b (by rw [tab_size]; omega) rfl ?_; intro w5 hR5 hW5))
      go_roundw
      case rel =>
        refine ⟨k + 1, by omega, by go_num, ?_, hWr.trans hW5⟩
        rw [tab_set (g := fun p => V64 (at32 l (if 7 - (k + 1) < p then p - 1 else p)))] at hR5
        · exact hR5
        · intro p hp
          by_cases hpk : p = 7 - k
          · rw [if_pos hpk, if_pos (by omega), show p - 1 = 6 - k by omega]
          · rw [if_neg hpk]
            by_cases hpl : 7 - k < p
            · rw [if_pos hpl, if_pos (by omega)]
            · rw [if_neg hpl, if_neg (by omega)]
      case measure => simp [intOf]; omega
    · have Hk := Lib.hid (show k = 7 by omega)
      have hd : decide ((7 : Int) - (k : Int) > 0) = false := by simp; omega
      rw [tab_congr (g := fun p => V64 (at32 l (p - 1))) (fun p hp => by
        by_cases h0 : p = 0
        · subst h0; rw [if_neg (by omega)]
        · rw [if_pos (by omega)])] at hRr
      go_wp2
      all_goals first | done | exact hQ _ _ _ _ _ _ _ _ _ _ _ _ hRr hWr
end Go.Proofs.YtdeggdmoijfhdaaDoor

/-
  The reference's Sum: its rounds.
-/
namespace Go.Proofs.YtdeggdmoijfhdaaDoor
open Go Go.RowKit

set_option maxRecDepth 1000000 in
set_option maxHeartbeats 4000000 in
theorem loop6 (c0 c1 c2 c3 c4 c6 c8 c9 c10 c11 c12 c15 c16 c17 c18 c19 c20 c21 c22 c23 c24 c25 c26 c27 c28 c29 c30 c31 c32 c33 c34 c35 c36 c37 c38 c39 c40 c41 c42 c43 c44 c45 c46 c47 c48 c49 c50 c51 c52 c53 c54 c55 c56 c57 c58 c59 c60 c61 c62 c63 c64 c65 c66 c67 c68 c69 c70 c71 c72 c73 c74 c75 c76 c77 c78 c79 c80 c81 c82 c83 c84 c85 c86 c87 c88 c89 c90 c91 c92 c93 c94 c95 c96 c97 c98 c99 c100 c101 c102 c103 c104 c105 c106 c107 c108 c109 c110 c111 c112 c113 c114 c115 c116 c117 c118 c119 c120 c121 c122 c123 c124 c125 c126 c127 c128 c129 c130 c131 c132 c133 c134 c135 c136 c137 c138 c139 c140 c141 c142 c143 c144 c145 c146 c147 c148 c149 c150 c151 c152 c153 c154 c155 c156 c157 c158 c159 c160 c161 c162 c163 c164 c165 c166 c167 c168 c169 c170 c171 c172 c173 c174 c175 c176 c177 c178 c179 c180 c181 c182 c183 c184 c185 c186 c187 c188 c189 c190 c191 c192 c193 c194 c195 c196 c197 c198 c199 c200 c201 c202 c203 c204 c205 c206 c207 c208 c209 c210 c211 c212 c213 c214 c215 c216 c217 c218 c219 c220 c221 c222 c223 c224 c225 c226 c227 c228 c229 c230 c231 c232 c233 c234 c235 c236 c237 c238 c239 c240 c241 c242 c243 c244 c245 c246 c247 c248 c249 c250 c251 c252 c253 : Value) (g gk gw cap : Nat) (ws : List UInt32) (st : St) (w : World) (hgk : gk ≠ g) (hgw : gw ≠ g) (hR : Row w g 74 (tab 8 fun p => V64 (at32 st.list p)))
    (hK : Row w gk 76 (tab 64 fun j => V64 (at32 kTab j))) (hW : ∀ j, j < 64 → w.cell? ⟨gw, j, none⟩ = some (V64 (at32 ws j)))
    (Q : Exit → Act → World → Prop) (hQ : ∀ (u14 u15 u16 u17 u18 u19 u20 u124 u125 u126 u127 u128 u129 u130 u131 u132 u133 u134 u135 u136 u137 u138 u139 u140 u141 u142 u143 u144 u145 u146 u147 u148 u149 u150 u151 u152 u153 u154 u155 u156 u157 u158 u159 u160 u161 u162 u163 u164 u165 u166 u167 u168 u169 u170 u171 u172 u173 u174 u175 u176 u177 u178 u179 u180 u181 u182 u183 u184 u185 u186 u187 u188 u189 u190 u191 u192 u193 u194 u195 u196 u197 u198 u199 u200 u201 u202 u203 u204 u205 u206 u207 u208 u209 u210 u211 u212 u213 u214 u215 u216 u217 : Value) (w' : World), Row w' g 74 (tab 8 fun p => V64 (at32 (rnds ws st 64).list p)) → Wrote g w w' → Q (.exit 6) ⟨(c0 :: c1 :: c2 :: c3 :: c4 :: Value.pointer (some ⟨gk, 0, none⟩) :: c6 :: Value.slice (some ⟨gw, 0, none⟩) 64 cap :: c8 :: c9 :: c10 :: c11 :: c12 :: Value.pointer (some ⟨g, 0, none⟩) :: u14 :: u15 :: u16 :: u17 :: u18 :: u19 :: u20 :: c21 :: c22 :: c23 :: c24 :: c25 :: c26 :: c27 :: c28 :: c29 :: c30 :: c31 :: c32 :: c33 :: c34 :: c35 :: c36 :: c37 :: c38 :: c39 :: c40 :: c41 :: c42 :: c43 :: c44 :: c45 :: c46 :: c47 :: c48 :: c49 :: c50 :: c51 :: c52 :: c53 :: c54 :: c55 :: c56 :: c57 :: c58 :: c59 :: c60 :: c61 :: c62 :: c63 :: c64 :: c65 :: c66 :: c67 :: c68 :: c69 :: c70 :: c71 :: c72 :: c73 :: c74 :: c75 :: c76 :: c77 :: c78 :: c79 :: c80 :: c81 :: c82 :: c83 :: c84 :: c85 :: c86 :: c87 :: c88 :: c89 :: c90 :: c91 :: c92 :: c93 :: c94 :: c95 :: c96 :: c97 :: c98 :: c99 :: c100 :: c101 :: c102 :: c103 :: c104 :: c105 :: c106 :: c107 :: c108 :: c109 :: c110 :: c111 :: c112 :: c113 :: c114 :: c115 :: c116 :: c117 :: c118 :: c119 :: c120 :: c121 :: c122 :: c123 :: u124 :: u125 :: u126 :: u127 :: u128 :: u129 :: u130 :: u131 :: u132 :: u133 :: u134 :: u135 :: u136 :: u137 :: u138 :: u139 :: u140 :: u141 :: u142 :: u143 :: u144 :: u145 :: u146 :: u147 :: u148 :: u149 :: u150 :: u151 :: u152 :: u153 :: u154 :: u155 :: u156 :: u157 :: u158 :: u159 :: u160 :: u161 :: u162 :: u163 :: u164 :: u165 :: u166 :: u167 :: u168 :: u169 :: u170 :: u171 :: u172 :: u173 :: u174 :: u175 :: u176 :: u177 :: u178 :: u179 :: u180 :: u181 :: u182 :: u183 :: u184 :: u185 :: u186 :: u187 :: u188 :: u189 :: u190 :: u191 :: u192 :: u193 :: u194 :: u195 :: u196 :: u197 :: u198 :: u199 :: u200 :: u201 :: u202 :: u203 :: u204 :: u205 :: u206 :: u207 :: u208 :: u209 :: u210 :: u211 :: u212 :: u213 :: u214 :: u215 :: u216 :: u217 :: c218 :: c219 :: c220 :: c221 :: c222 :: c223 :: c224 :: c225 :: c226 :: c227 :: c228 :: c229 :: c230 :: c231 :: c232 :: c233 :: c234 :: c235 :: c236 :: c237 :: c238 :: c239 :: c240 :: c241 :: c242 :: c243 :: c244 :: c245 :: c246 :: c247 :: c248 :: c249 :: c250 :: c251 :: c252 :: c253 :: ([] : List Value)).toArray, []⟩ w') :
    Code.wp Tryd.prog (.loop (sumLoop 6)) Q ⟨(c0 :: c1 :: c2 :: c3 :: c4 :: Value.pointer (some ⟨gk, 0, none⟩) :: c6 :: Value.slice (some ⟨gw, 0, none⟩) 64 cap :: c8 :: c9 :: c10 :: c11 :: c12 :: Value.pointer (some ⟨g, 0, none⟩) :: Value.int .i64 0 :: c15 :: c16 :: c17 :: c18 :: c19 :: c20 :: c21 :: c22 :: c23 :: c24 :: c25 :: c26 :: c27 :: c28 :: c29 :: c30 :: c31 :: c32 :: c33 :: c34 :: c35 :: c36 :: c37 :: c38 :: c39 :: c40 :: c41 :: c42 :: c43 :: c44 :: c45 :: c46 :: c47 :: c48 :: c49 :: c50 :: c51 :: c52 :: c53 :: c54 :: c55 :: c56 :: c57 :: c58 :: c59 :: c60 :: c61 :: c62 :: c63 :: c64 :: c65 :: c66 :: c67 :: c68 :: c69 :: c70 :: c71 :: c72 :: c73 :: c74 :: c75 :: c76 :: c77 :: c78 :: c79 :: c80 :: c81 :: c82 :: c83 :: c84 :: c85 :: c86 :: c87 :: c88 :: c89 :: c90 :: c91 :: c92 :: c93 :: c94 :: c95 :: c96 :: c97 :: c98 :: c99 :: c100 :: c101 :: c102 :: c103 :: c104 :: c105 :: c106 :: c107 :: c108 :: c109 :: c110 :: c111 :: c112 :: c113 :: c114 :: c115 :: c116 :: c117 :: c118 :: c119 :: c120 :: c121 :: c122 :: c123 :: c124 :: c125 :: c126 :: c127 :: c128 :: c129 :: c130 :: c131 :: c132 :: c133 :: c134 :: c135 :: c136 :: c137 :: c138 :: c139 :: c140 :: c141 :: c142 :: c143 :: c144 :: c145 :: c146 :: c147 :: c148 :: c149 :: c150 :: c151 :: c152 :: c153 :: c154 :: c155 :: c156 :: c157 :: c158 :: c159 :: c160 :: c161 :: c162 :: c163 :: c164 :: c165 :: c166 :: c167 :: c168 :: c169 :: c170 :: c171 :: c172 :: c173 :: c174 :: c175 :: c176 :: c177 :: c178 :: c179 :: c180 :: c181 :: c182 :: c183 :: c184 :: c185 :: c186 :: c187 :: c188 :: c189 :: c190 :: c191 :: c192 :: c193 :: c194 :: c195 :: c196 :: c197 :: c198 :: c199 :: c200 :: c201 :: c202 :: c203 :: c204 :: c205 :: c206 :: c207 :: c208 :: c209 :: c210 :: c211 :: c212 :: c213 :: c214 :: c215 :: c216 :: c217 :: c218 :: c219 :: c220 :: c221 :: c222 :: c223 :: c224 :: c225 :: c226 :: c227 :: c228 :: c229 :: c230 :: c231 :: c232 :: c233 :: c234 :: c235 :: c236 :: c237 :: c238 :: c239 :: c240 :: c241 :: c242 :: c243 :: c244 :: c245 :: c246 :: c247 :: c248 :: c249 :: c250 :: c251 :: c252 :: c253 :: ([] : List Value)).toArray, []⟩ w := by
  conv => arg 2; arg 1; whnf
  have hx64 := bxor64
  have ha64 := band64
  go_loopw [14] (fun iv wr => ∃ i : Nat, i ≤ 64 ∧ iv = .int .i64 (i : Int) ∧ Row wr g 74 (tab 8 fun p => V64 (at32 (rnds ws st i).list p)) ∧ Wrote g w wr) (fun iv _ => 64 - (intOf iv).toNat)
  case atStart => exact ⟨0, by omega, rfl, hR, Wrote.refl _ _⟩
  case round =>
    obtain ⟨i, hi64, rfl, hRr, hWr⟩ := hrel
    by_cases hlt : i < 64
    · have hd : decide ((i : Int) < 64) = true := by simp; omega
      have Hnext : rnds ws st (i + 1) = rnd (rnds ws st i) (at32 kTab i) (at32 ws i) := rfl
      generalize rnds ws st i = s at hRr Hnext
      have hnot := bnot64 s.e
      have hwrap : IntKind.u64.wrap (I (~~~s.e)) = I (~~~s.e) := IntWalk.u64_in _ ⟨I_lo _, by have := I_hi (~~~s.e); omega⟩
      have hKr := hWr.row hK hgk
      have hWc : ∀ j, j < 64 → wr.cell? ⟨gw, j, none⟩ = some (V64 (at32 ws j)) := fun j hj => by rw [hWr.cell hgw]; exact hW j hj
      go_wp2_with fail
      refine region_drew_tail 11 (by kernel_rfl) (by kernel_rfl) ?_
      simp only [List.take_succ_cons, List.take_zero, List.drop_succ_cons, List.drop_zero]
      repeat (first
        | ((with_reducible change wpQuiet _ _ _ _ (Oper.mk _ (Op.indexAddr _ _ _) _ _ _ _ :: _) _); refine qIndexAddr1 _ _ _ _ _ _ _ 4 _ rfl rfl rfl rfl Tryd.underlying74 info_u64b rfl (by decide) ?_; go_frame)
        | ((with_reducible change wpQuiet _ _ _ _ (Oper.mk _ (Op.load _ _) _ _ _ _ :: _) _); refine qLoad1 _ _ _ _ _ _ (V64 s.e) _ rfl rfl rfl (fun _ ⟨_, e⟩ => by rw [e]; exact hRr) Tryd.underlying29 rfl (tab_get 8 _ 4 (by decide)) ?_; go_frame)
        | go_big_quiet_step (first | (go_at_call 47; exact quiet_same (rright_int _ _ _ (by omega) (by omega)))))
      refine wpQuiet_nil ?_
      rintro _ ⟨nq, rfl⟩
      have hW1 : Wrote g wr (wr.drewN nq) := Wrote.drewN _ _ _
      have hR1 : Row (wr.drewN nq) g 74 (tab 8 fun p => V64 (at32 s.list p)) := hRr
      have hK1 : Row (wr.drewN nq) gk 76 (tab 64 fun j => V64 (at32 kTab j)) := hKr
      have hC1 : ∀ j, j < 64 → (wr.drewN nq).cell? ⟨gw, j, none⟩ = some (V64 (at32 ws j)) := hWc
      generalize wr.drewN nq = w1 at hW1 hR1 hK1 hC1 ⊢
      go_wp2_with (first
        | ((with_reducible change wpList _ _ _ (Oper.mk _ (Op.indexAddr _ _ _) _ _ _ _ :: _) _ _); refine kIndexAddr1 _ _ _ _ _ _ _ _ _ rfl rfl rfl rfl Tryd.underlying74 info_u64b (Int.toNat_of_nonneg (by decide)).symm (by decide) ?_)
        | ((with_reducible change wpList _ _ _ (Oper.mk (some 140) _ _ _ _ _ :: _) _ _); refine kLoad1 _ _ _ _ _ _ (V64 s.e) _ rfl rfl rfl hR1 Tryd.underlying29 rfl (tab_get 8 _ 4 (by decide)) ?_)
        | ((with_reducible change wpList _ _ _ (Oper.mk (some 142) _ _ _ _ _ :: _) _ _); refine kLoad1 _ _ _ _ _ _ (V64 s.f) _ rfl rfl rfl hR1 Tryd.underlying29 rfl (tab_get 8 _ 5 (by decide)) ?_)
        | ((with_reducible change wpList _ _ _ (Oper.mk (some 145) _ _ _ _ _ :: _) _ _); refine kLoad1 _ _ _ _ _ _ (V64 s.e) _ rfl rfl rfl hR1 Tryd.underlying29 rfl (tab_get 8 _ 4 (by decide)) ?_)
        | ((with_reducible change wpList _ _ _ (Oper.mk (some 148) _ _ _ _ _ :: _) _ _); refine kLoad1 _ _ _ _ _ _ (V64 s.g) _ rfl rfl rfl hR1 Tryd.underlying29 rfl (tab_get 8 _ 6 (by decide)) ?_))
      generalize hbig : (rotr s.e 6 ^^^ rotr s.e 11 ^^^ rotr s.e 25) = big
      generalize hpick : ((s.e &&& s.f) ^^^ (~~~s.e &&& s.g)) = pick
      have i1 := I_lo s.h
      have i2 := I_hi s.h
      have i3 := I_lo big
      have i4 := I_hi big
      have i5 := I_lo pick
      have i6 := I_hi pick
      have i7 := I_lo (at32 kTab i)
      have i8 := I_hi (at32 kTab i)
      have i9 := I_lo (at32 ws i)
      have i10 := I_hi (at32 ws i)
      have Ht := tmod_sum5 s.h big pick (at32 kTab i) (at32 ws i)
      generalize ht : s.h + big + pick + at32 kTab i + at32 ws i = t at Ht
      refine region_drew_tail 16 (by kernel_rfl) (by kernel_rfl) ?_
      simp only [List.take_succ_cons, List.take_zero, List.drop_succ_cons, List.drop_zero]
      repeat (first
        | ((with_reducible change wpQuiet _ _ _ _ (Oper.mk (some 151) _ _ _ _ _ :: _) _); refine qIndexAddr1 _ _ _ _ _ _ _ 7 _ rfl rfl rfl rfl Tryd.underlying74 info_u64b rfl (by decide) ?_; go_frame)
        | ((with_reducible change wpQuiet _ _ _ _ (Oper.mk (some 152) _ _ _ _ _ :: _) _); refine qLoad1 _ _ _ _ _ _ (V64 s.h) _ rfl rfl rfl (fun _ ⟨_, e⟩ => by rw [e]; exact hR1) Tryd.underlying29 rfl (tab_get 8 _ 7 (by decide)) ?_; go_frame)
        | ((with_reducible change wpQuiet _ _ _ _ (Oper.mk (some 158) _ _ _ _ _ :: _) _); refine qIndexAddr1 _ _ _ _ _ _ _ i _ rfl rfl rfl rfl Tryd.underlying76 info_u64b rfl hlt ?_; go_frame)
        | ((with_reducible change wpQuiet _ _ _ _ (Oper.mk (some 159) _ _ _ _ _ :: _) _); refine qLoad1 _ _ _ _ _ _ (V64 (at32 kTab i)) _ rfl rfl rfl (fun _ ⟨_, e⟩ => by rw [e]; exact hK1) Tryd.underlying29 rfl (tab_get 64 _ i hlt) ?_; go_frame)
        | ((with_reducible change wpQuiet _ _ _ _ (Oper.mk (some 163) _ _ _ _ _ :: _) _); refine qIndexAddrG _ _ _ _ _ _ _ _ _ i rfl rfl rfl rfl Tryd.underlying40 info_u64b rfl hlt ?_; go_frame)
        | ((with_reducible change wpQuiet _ _ _ _ (Oper.mk (some 164) _ _ _ _ _ :: _) _); refine qLoadCell _ _ _ _ (V64 (at32 ws i)) _ rfl rfl rfl (fun _ ⟨_, e⟩ => by rw [e]; exact hC1 _ hlt) Tryd.underlying29 rfl ?_; go_frame)
        | go_big_quiet_step (fail))
      refine wpQuiet_nil ?_
      rintro _ ⟨nq2, rfl⟩
      have hW2 : Wrote g wr (w1.drewN nq2) := hW1.trans (Wrote.drewN _ _ _)
      have hR2 : Row (w1.drewN nq2) g 74 (tab 8 fun p => V64 (at32 s.list p)) := hR1
      generalize w1.drewN nq2 = w2 at hW2 hR2 ⊢
      clear i1 i2 i3 i4 i5 i6 i7 i8 i9 i10 hK1 hC1 hWc hKr hR1 hW1
      go_wp2_with fail
      refine region_drew_tail 11 (by kernel_rfl) (by kernel_rfl) ?_
      simp only [List.take_succ_cons, List.take_zero, List.drop_succ_cons, List.drop_zero]
      repeat (first
        | ((with_reducible change wpQuiet _ _ _ _ (Oper.mk _ (Op.indexAddr _ _ _) _ _ _ _ :: _) _); refine qIndexAddr1 _ _ _ _ _ _ _ 0 _ rfl rfl rfl rfl Tryd.underlying74 info_u64b rfl (by decide) ?_; go_frame)
        | ((with_reducible change wpQuiet _ _ _ _ (Oper.mk _ (Op.load _ _) _ _ _ _ :: _) _); refine qLoad1 _ _ _ _ _ _ (V64 s.a) _ rfl rfl rfl (fun _ ⟨_, e⟩ => by rw [e]; exact hR2) Tryd.underlying29 rfl (tab_get 8 _ 0 (by decide)) ?_; go_frame)
        | go_big_quiet_step (first | (go_at_call 47; exact quiet_same (rright_int _ _ _ (by omega) (by omega)))))
      refine wpQuiet_nil ?_
      rintro _ ⟨nq3, rfl⟩
      have hW3 : Wrote g wr (w2.drewN nq3) := hW2.trans (Wrote.drewN _ _ _)
      have hR3 : Row (w2.drewN nq3) g 74 (tab 8 fun p => V64 (at32 s.list p)) := hR2
      generalize w2.drewN nq3 = w3 at hW3 hR3 ⊢
      clear hW2 hR2
      go_wp2_with (first
        | ((with_reducible change wpList _ _ _ (Oper.mk _ (Op.indexAddr _ _ _) _ _ _ _ :: _) _ _); refine kIndexAddr1 _ _ _ _ _ _ _ _ _ rfl rfl rfl rfl Tryd.underlying74 info_u64b (Int.toNat_of_nonneg (by decide)).symm (by decide) ?_)
        | ((with_reducible change wpList _ _ _ (Oper.mk (some 179) _ _ _ _ _ :: _) _ _); refine kLoad1 _ _ _ _ _ _ (V64 s.a) _ rfl rfl rfl hR3 Tryd.underlying29 rfl (tab_get 8 _ 0 (by decide)) ?_)
        | ((with_reducible change wpList _ _ _ (Oper.mk (some 181) _ _ _ _ _ :: _) _ _); refine kLoad1 _ _ _ _ _ _ (V64 s.b) _ rfl rfl rfl hR3 Tryd.underlying29 rfl (tab_get 8 _ 1 (by decide)) ?_)
        | ((with_reducible change wpList _ _ _ (Oper.mk (some 184) _ _ _ _ _ :: _) _ _); refine kLoad1 _ _ _ _ _ _ (V64 s.a) _ rfl rfl rfl hR3 Tryd.underlying29 rfl (tab_get 8 _ 0 (by decide)) ?_)
        | ((with_reducible change wpList _ _ _ (Oper.mk (some 186) _ _ _ _ _ :: _) _ _); refine kLoad1 _ _ _ _ _ _ (V64 s.c) _ rfl rfl rfl hR3 Tryd.underlying29 rfl (tab_get 8 _ 2 (by decide)) ?_)
        | ((with_reducible change wpList _ _ _ (Oper.mk (some 190) _ _ _ _ _ :: _) _ _); refine kLoad1 _ _ _ _ _ _ (V64 s.b) _ rfl rfl rfl hR3 Tryd.underlying29 rfl (tab_get 8 _ 1 (by decide)) ?_)
        | ((with_reducible change wpList _ _ _ (Oper.mk (some 192) _ _ _ _ _ :: _) _ _); refine kLoad1 _ _ _ _ _ _ (V64 s.c) _ rfl rfl rfl hR3 Tryd.underlying29 rfl (tab_get 8 _ 2 (by decide)) ?_))
      generalize hsmall : (rotr s.a 2 ^^^ rotr s.a 13 ^^^ rotr s.a 22) = small
      generalize hmost : ((s.a &&& s.b) ^^^ (s.a &&& s.c) ^^^ (s.b &&& s.c)) = most
      refine loop8 _ _ _ _ _ _ _ _ _ _ _ _ _ _ _ _ _ _ _ _ _ _ _ _ _ _ _ _ _ _ _ _ _ _ _ _ _ _ _ _ _ _ _ _ _ _ _ _ _ _ _ _ _ _ _ _ _ _ _ _ _ _ _ _ _ _ _ _ _ _ _ _ _ _ _ _ _ _ _ _ _ _ _ _ _ _ _ _ _ _ _ _ _ _ _ _ _ _ _ _ _ _ _ _ _ _ _ _ _ _ _ _ _ _ _ _ _ _ _ _ _ _ _ _ _ _ _ _ _ _ _ _ _ _ _ _ _ _ _ _ _ _ _ _ _ _ _ _ _ _ _ _ _ _ _ _ _ _ _ _ _ _ _ _ _ _ _ _ _ _ _ _ _ _ _ _ _ _ _ _ _ _ _ _ _ _ _ _ _ _ _ _ _ _ _ _ _ _ _ _ _ _ _ _ _ _ _ _ _ _ _ _ _ _ _ _ _ _ _ _ _ _ _ _ _ _ _ _ _ _ _ _ _ _ _ _ _ _ _ _ _ _ _ _ _ _ _ _ _ _ _ _ g s.list _ hR3 _ ?_
      intro u20 u195 u196 u197 u198 u199 u200 u201 u202 u203 u204 w4 hR4 hW4
      have i1 := I_lo s.d
      have i2 := I_hi s.d
      have i3 := I_lo t
      have i4 := I_hi t
      have i5 := I_lo small
      have i6 := I_hi small
      have i7 := I_lo most
      have i8 := I_hi most
      go_wp2_with (first
        | ((with_reducible change wpList _ _ _ (Oper.mk _ (Op.indexAddr _ _ _) _ _ _ _ :: _) _ _); refine kIndexAddr1 _ _ _ _ _ _ _ _ _ rfl rfl rfl rfl Tryd.underlying74 info_u64b (Int.toNat_of_nonneg (by decide)).symm (by decide) ?_)
        | ((with_reducible change wpList _ _ _ (Oper.mk (some 206) _ _ _ _ _ :: _) _ _); refine kLoad1 _ _ _ _ _ _ (V64 s.d) _ rfl rfl rfl hR4 Tryd.underlying29 rfl (tab_get 8 _ 4 (by decide)) ?_)
        | ((with_reducible change wpList _ _ _ (Oper.mk none (Op.store _ (Operand.tmp 210) _) _ _ _ _ :: _) _ _); refine kStore1 _ _ _ _ _ _ _ (V64 (s.d + t)) rfl rfl rfl (congrArg (Value.int IntKind.u64) (tmod_sum2 s.d t)) hR4 info_u64b (by rw [tab_size]; decide) rfl ?_; intro w5 hR5 hW5)
        | ((with_reducible change wpList _ _ _ (Oper.mk none (Op.store _ (Operand.tmp 217) _) _ _ _ _ :: _) _ _); refine kStore1 _ _ _ _ _ _ _ (V64 (t + (small + most))) rfl rfl rfl (congrArg (Value.int IntKind.u64) (tmod_sum3 t small most)) hR5 info_u64b (by rw [Array.size_setIfInBounds, tab_size]; decide) rfl ?_; intro w6 hR6 hW6))
      go_roundw
      case rel =>
        refine ⟨i + 1, by omega, by go_num, ?_, (((hWr.trans hW3).trans hW4).trans hW5).trans hW6⟩
        rw [Hnext]
        rw [tab_set (g := fun p => V64 (if p = 4 then s.d + t else at32 s.list (p - 1))) (fun p hp => by by_cases h4 : p = 4 <;> simp [h4]),
          tab_set (g := fun p => V64 (at32 (rnd s (at32 kTab i) (at32 ws i)).list p)) (fun p hp => ?_)] at hR6
        · exact hR6
        · subst hbig; subst hpick; subst hsmall; subst hmost; subst ht
          match p, hp with
          | 0, _ => rfl
          | 1, _ => rfl
          | 2, _ => rfl
          | 3, _ => rfl
          | 4, _ => rfl
          | 5, _ => rfl
          | 6, _ => rfl
          | 7, _ => rfl
      case measure => simp [intOf]; omega
    · have Hi := Lib.hid (show i = 64 by omega)
      have hd : decide ((i : Int) < 64) = false := by simp; omega
      rw [Hi.out] at hRr
      go_wp2
      all_goals first | done | exact hQ _ _ _ _ _ _ _ _ _ _ _ _ _ _ _ _ _ _ _ _ _ _ _ _ _ _ _ _ _ _ _ _ _ _ _ _ _ _ _ _ _ _ _ _ _ _ _ _ _ _ _ _ _ _ _ _ _ _ _ _ _ _ _ _ _ _ _ _ _ _ _ _ _ _ _ _ _ _ _ _ _ _ _ _ _ _ _ _ _ _ _ _ _ _ _ _ _ _ _ _ _ _ hRr hWr
end Go.Proofs.YtdeggdmoijfhdaaDoor

/-
  The reference's Sum: what the rounds made comes to what was before.
-/
namespace Go.Proofs.YtdeggdmoijfhdaaDoor
open Go Go.RowKit

set_option maxRecDepth 1000000 in
set_option maxHeartbeats 4000000 in
theorem loop10 (c0 c1 c2 c4 c5 c6 c7 c8 c9 c10 c11 c12 c14 c15 c16 c17 c18 c19 c20 c21 c22 c23 c24 c25 c26 c27 c28 c29 c30 c31 c32 c33 c34 c35 c36 c37 c38 c39 c40 c41 c42 c43 c44 c45 c46 c47 c48 c49 c50 c51 c52 c53 c54 c55 c56 c57 c58 c59 c60 c61 c62 c63 c64 c65 c66 c67 c68 c69 c70 c71 c72 c73 c74 c75 c76 c77 c78 c79 c80 c81 c82 c83 c84 c85 c86 c87 c88 c89 c90 c91 c92 c93 c94 c95 c96 c97 c98 c99 c100 c101 c102 c103 c104 c105 c106 c107 c108 c109 c110 c111 c112 c113 c114 c115 c116 c117 c118 c119 c120 c121 c122 c123 c124 c125 c126 c127 c128 c129 c130 c131 c132 c133 c134 c135 c136 c137 c138 c139 c140 c141 c142 c143 c144 c145 c146 c147 c148 c149 c150 c151 c152 c153 c154 c155 c156 c157 c158 c159 c160 c161 c162 c163 c164 c165 c166 c167 c168 c169 c170 c171 c172 c173 c174 c175 c176 c177 c178 c179 c180 c181 c182 c183 c184 c185 c186 c187 c188 c189 c190 c191 c192 c193 c194 c195 c196 c197 c198 c199 c200 c201 c202 c203 c204 c205 c206 c207 c208 c209 c210 c211 c212 c213 c214 c215 c216 c217 c219 c220 c221 c222 c223 c224 c225 c226 c227 c228 c229 c230 c231 c232 c233 c234 c235 c236 c237 c238 c239 c240 c241 c242 c243 c244 c245 c246 c247 c248 c249 c250 c251 c252 c253 : Value) (gv g : Nat) (l m : List UInt32) (w : World) (hgv : g ≠ gv) (hR : Row w gv 74 (tab 8 fun p => V64 (at32 l p))) (hX : Row w g 74 (tab 8 fun p => V64 (at32 m p)))
    (Q : Exit → Act → World → Prop) (hQ : ∀ (u21 u218 u219 u220 u221 u222 u223 u224 u225 u226 u227 u228 u229 u230 u231 : Value) (w' : World), Row w' gv 74 (tab 8 fun p => V64 (at32 l p + at32 m p)) → Wrote gv w w' → Q (.exit 10) ⟨(c0 :: c1 :: c2 :: Value.pointer (some ⟨gv, 0, none⟩) :: c4 :: c5 :: c6 :: c7 :: c8 :: c9 :: c10 :: c11 :: c12 :: Value.pointer (some ⟨g, 0, none⟩) :: c14 :: c15 :: c16 :: c17 :: c18 :: c19 :: c20 :: u21 :: c22 :: c23 :: c24 :: c25 :: c26 :: c27 :: c28 :: c29 :: c30 :: c31 :: c32 :: c33 :: c34 :: c35 :: c36 :: c37 :: c38 :: c39 :: c40 :: c41 :: c42 :: c43 :: c44 :: c45 :: c46 :: c47 :: c48 :: c49 :: c50 :: c51 :: c52 :: c53 :: c54 :: c55 :: c56 :: c57 :: c58 :: c59 :: c60 :: c61 :: c62 :: c63 :: c64 :: c65 :: c66 :: c67 :: c68 :: c69 :: c70 :: c71 :: c72 :: c73 :: c74 :: c75 :: c76 :: c77 :: c78 :: c79 :: c80 :: c81 :: c82 :: c83 :: c84 :: c85 :: c86 :: c87 :: c88 :: c89 :: c90 :: c91 :: c92 :: c93 :: c94 :: c95 :: c96 :: c97 :: c98 :: c99 :: c100 :: c101 :: c102 :: c103 :: c104 :: c105 :: c106 :: c107 :: c108 :: c109 :: c110 :: c111 :: c112 :: c113 :: c114 :: c115 :: c116 :: c117 :: c118 :: c119 :: c120 :: c121 :: c122 :: c123 :: c124 :: c125 :: c126 :: c127 :: c128 :: c129 :: c130 :: c131 :: c132 :: c133 :: c134 :: c135 :: c136 :: c137 :: c138 :: c139 :: c140 :: c141 :: c142 :: c143 :: c144 :: c145 :: c146 :: c147 :: c148 :: c149 :: c150 :: c151 :: c152 :: c153 :: c154 :: c155 :: c156 :: c157 :: c158 :: c159 :: c160 :: c161 :: c162 :: c163 :: c164 :: c165 :: c166 :: c167 :: c168 :: c169 :: c170 :: c171 :: c172 :: c173 :: c174 :: c175 :: c176 :: c177 :: c178 :: c179 :: c180 :: c181 :: c182 :: c183 :: c184 :: c185 :: c186 :: c187 :: c188 :: c189 :: c190 :: c191 :: c192 :: c193 :: c194 :: c195 :: c196 :: c197 :: c198 :: c199 :: c200 :: c201 :: c202 :: c203 :: c204 :: c205 :: c206 :: c207 :: c208 :: c209 :: c210 :: c211 :: c212 :: c213 :: c214 :: c215 :: c216 :: c217 :: u218 :: u219 :: u220 :: u221 :: u222 :: u223 :: u224 :: u225 :: u226 :: u227 :: u228 :: u229 :: u230 :: u231 :: c232 :: c233 :: c234 :: c235 :: c236 :: c237 :: c238 :: c239 :: c240 :: c241 :: c242 :: c243 :: c244 :: c245 :: c246 :: c247 :: c248 :: c249 :: c250 :: c251 :: c252 :: c253 :: ([] : List Value)).toArray, []⟩ w') :
    Code.wp Tryd.prog (.loop (sumLoop 10)) Q ⟨(c0 :: c1 :: c2 :: Value.pointer (some ⟨gv, 0, none⟩) :: c4 :: c5 :: c6 :: c7 :: c8 :: c9 :: c10 :: c11 :: c12 :: Value.pointer (some ⟨g, 0, none⟩) :: c14 :: c15 :: c16 :: c17 :: c18 :: c19 :: c20 :: c21 :: c22 :: c23 :: c24 :: c25 :: c26 :: c27 :: c28 :: c29 :: c30 :: c31 :: c32 :: c33 :: c34 :: c35 :: c36 :: c37 :: c38 :: c39 :: c40 :: c41 :: c42 :: c43 :: c44 :: c45 :: c46 :: c47 :: c48 :: c49 :: c50 :: c51 :: c52 :: c53 :: c54 :: c55 :: c56 :: c57 :: c58 :: c59 :: c60 :: c61 :: c62 :: c63 :: c64 :: c65 :: c66 :: c67 :: c68 :: c69 :: c70 :: c71 :: c72 :: c73 :: c74 :: c75 :: c76 :: c77 :: c78 :: c79 :: c80 :: c81 :: c82 :: c83 :: c84 :: c85 :: c86 :: c87 :: c88 :: c89 :: c90 :: c91 :: c92 :: c93 :: c94 :: c95 :: c96 :: c97 :: c98 :: c99 :: c100 :: c101 :: c102 :: c103 :: c104 :: c105 :: c106 :: c107 :: c108 :: c109 :: c110 :: c111 :: c112 :: c113 :: c114 :: c115 :: c116 :: c117 :: c118 :: c119 :: c120 :: c121 :: c122 :: c123 :: c124 :: c125 :: c126 :: c127 :: c128 :: c129 :: c130 :: c131 :: c132 :: c133 :: c134 :: c135 :: c136 :: c137 :: c138 :: c139 :: c140 :: c141 :: c142 :: c143 :: c144 :: c145 :: c146 :: c147 :: c148 :: c149 :: c150 :: c151 :: c152 :: c153 :: c154 :: c155 :: c156 :: c157 :: c158 :: c159 :: c160 :: c161 :: c162 :: c163 :: c164 :: c165 :: c166 :: c167 :: c168 :: c169 :: c170 :: c171 :: c172 :: c173 :: c174 :: c175 :: c176 :: c177 :: c178 :: c179 :: c180 :: c181 :: c182 :: c183 :: c184 :: c185 :: c186 :: c187 :: c188 :: c189 :: c190 :: c191 :: c192 :: c193 :: c194 :: c195 :: c196 :: c197 :: c198 :: c199 :: c200 :: c201 :: c202 :: c203 :: c204 :: c205 :: c206 :: c207 :: c208 :: c209 :: c210 :: c211 :: c212 :: c213 :: c214 :: c215 :: c216 :: c217 :: Value.int .i64 0 :: c219 :: c220 :: c221 :: c222 :: c223 :: c224 :: c225 :: c226 :: c227 :: c228 :: c229 :: c230 :: c231 :: c232 :: c233 :: c234 :: c235 :: c236 :: c237 :: c238 :: c239 :: c240 :: c241 :: c242 :: c243 :: c244 :: c245 :: c246 :: c247 :: c248 :: c249 :: c250 :: c251 :: c252 :: c253 :: ([] : List Value)).toArray, []⟩ w := by
  conv => arg 2; arg 1; whnf
  go_loopw [218] (fun jv wr => ∃ k : Nat, k ≤ 8 ∧ jv = .int .i64 (k : Int) ∧ Row wr gv 74 (tab 8 fun p => V64 (if p < k then at32 l p + at32 m p else at32 l p)) ∧ Wrote gv w wr) (fun jv _ => 8 - (intOf jv).toNat)
  case atStart => exact ⟨0, by omega, rfl, by rw [tab_congr (g := fun p => V64 (at32 l p)) (fun p hp => by rw [if_neg (by omega)])]; exact hR, Wrote.refl _ _⟩
  case round =>
    obtain ⟨k, hk, rfl, hRr, hWr⟩ := hrel
    by_cases hlt : k < 8
    · have hd : decide ((k : Int) < 8) = true := by simp; omega
      have hXr := hWr.row hX hgv
      have i1 := I_lo (at32 l k)
      have i2 := I_hi (at32 l k)
      have i3 := I_lo (at32 m k)
      have i4 := I_hi (at32 m k)
      have hsum := tmod_sum2 (at32 l k) (at32 m k)
      go_wp2_with fail
      refine region_drew_tail 10 (by kernel_rfl) (by kernel_rfl) ?_
      simp only [List.take_succ_cons, List.take_zero, List.drop_succ_cons, List.drop_zero]
      repeat (first
        | ((with_reducible change wpQuiet _ _ _ _ (Oper.mk _ (Op.indexAddr _ _ _) _ _ _ _ :: _) _); refine qIndexAddr1 _ _ _ _ _ _ _ k _ rfl rfl rfl rfl Tryd.underlying74 info_u64b rfl hlt ?_; go_frame)
        | ((with_reducible change wpQuiet _ _ _ _ (Oper.mk (some 224) _ _ _ _ _ :: _) _); refine qLoad1 _ _ _ _ _ _ (V64 (at32 l k)) _ rfl rfl rfl (fun _ ⟨_, e⟩ => by rw [e]; exact hRr) Tryd.underlying29 rfl (by rw [tab_get 8 _ k hlt, if_neg (by omega)]) ?_; go_frame)
        | ((with_reducible change wpQuiet _ _ _ _ (Oper.mk (some 227) _ _ _ _ _ :: _) _); refine qLoad1 _ _ _ _ _ _ (V64 (at32 m k)) _ rfl rfl rfl (fun _ ⟨_, e⟩ => by rw [e]; exact hXr) Tryd.underlying29 rfl (tab_get 8 _ k hlt) ?_; go_frame)
        | go_big_quiet_step (fail))
      refine wpQuiet_nil ?_
      rintro _ ⟨nq, rfl⟩
      refine kStore1 _ _ _ _ _ k _ (V64 (at32 l k + at32 m k)) rfl rfl rfl rfl (hRr.drewN nq) info_u64b (by rw [tab_size]; omega) rfl ?_
      intro w5 hR5 hW5
      go_frame
      go_wp2
      go_roundw
      case rel =>
        refine ⟨k + 1, by omega, by go_num, ?_, (hWr.trans (Wrote.drewN _ _ _)).trans hW5⟩
        rw [tab_set (g := fun p => V64 (if p < k + 1 then at32 l p + at32 m p else at32 l p))] at hR5
        · exact hR5
        · intro p hp
          by_cases hpk : p = k
          · rw [if_pos hpk, if_pos (by omega), hpk]
          · rw [if_neg hpk]
            by_cases hpl : p < k
            · rw [if_pos hpl, if_pos (by omega)]
            · rw [if_neg hpl, if_neg (by omega)]
      case measure => simp [intOf]; omega
    · have Hk := Lib.hid (show k = 8 by omega)
      have hd : decide ((k : Int) < 8) = false := by simp; omega
      rw [tab_congr (g := fun p => V64 (at32 l p + at32 m p)) (fun p hp => by rw [if_pos (by have := Hk.out; omega)])] at hRr
      go_wp2
      all_goals first | done | exact hQ _ _ _ _ _ _ _ _ _ _ _ _ _ _ _ _ hRr hWr
end Go.Proofs.YtdeggdmoijfhdaaDoor

/-
  The reference's Sum: a number's four bytes, the last first.
-/
namespace Go.Proofs.YtdeggdmoijfhdaaDoor
open Go Go.RowKit

/-- the k-th byte of a number, the highest first -/
def byteOf (x : UInt32) (k : Nat) : UInt8 := UInt8.ofNat (x.toNat / 2 ^ (24 - 8 * k))
theorem I_div256 (x : UInt32) (k : Nat) : (I x / 2 ^ (8 * k)).tdiv 256 = I x / 2 ^ (8 * (k + 1)) := by
  have h0 : 0 ≤ I x / 2 ^ (8 * k) := Int.ediv_nonneg (I_lo x) (Int.pow_nonneg (by decide))
  rw [Int.tdiv_eq_ediv_of_nonneg h0, Int.ediv_ediv_of_nonneg (Int.pow_nonneg (by decide)), show 8 * (k + 1) = 8 * k + 8 by omega, Int.pow_add]
  rfl
theorem I_byte (x : UInt32) (k : Nat) (hk : k ≤ 3) : (I x / 2 ^ (8 * k)).tmod 256 % 256 = B (byteOf x (3 - k)) := by
  have h0 : 0 ≤ I x / 2 ^ (8 * k) := Int.ediv_nonneg (I_lo x) (Int.pow_nonneg (by decide))
  rw [Int.tmod_eq_emod_of_nonneg h0]
  unfold B byteOf I
  rw [UInt8.toNat_ofNat', show 24 - 8 * (3 - k) = 8 * k by omega, Int.natCast_emod, Int.natCast_ediv, Int.natCast_pow]
  exact Int.emod_emod_of_dvd _ (Int.dvd_refl _)

set_option maxRecDepth 1000000 in
set_option maxHeartbeats 4000000 in
theorem loop14 (c0 c1 c2 c3 c4 c5 c6 c7 c8 c9 c10 c11 c12 c13 c14 c15 c16 c17 c18 c19 c20 c21 c26 c27 c28 c29 c30 c31 c32 c33 c34 c35 c36 c37 c38 c39 c40 c41 c42 c43 c44 c45 c46 c47 c48 c49 c50 c51 c52 c53 c54 c55 c56 c57 c58 c59 c60 c61 c62 c63 c64 c65 c66 c67 c68 c69 c70 c71 c72 c73 c74 c75 c76 c77 c78 c79 c80 c81 c82 c83 c84 c85 c86 c87 c88 c89 c90 c91 c92 c93 c94 c95 c96 c97 c98 c99 c100 c101 c102 c103 c104 c105 c106 c107 c108 c109 c110 c111 c112 c113 c114 c115 c116 c117 c118 c119 c120 c121 c122 c123 c124 c125 c126 c127 c128 c129 c130 c131 c132 c133 c134 c135 c136 c137 c138 c139 c140 c141 c142 c143 c144 c145 c146 c147 c148 c149 c150 c151 c152 c153 c154 c155 c156 c157 c158 c159 c160 c161 c162 c163 c164 c165 c166 c167 c168 c169 c170 c171 c172 c173 c174 c175 c176 c177 c178 c179 c180 c181 c182 c183 c184 c185 c186 c187 c188 c189 c190 c191 c192 c193 c194 c195 c196 c197 c198 c199 c200 c201 c202 c203 c204 c205 c206 c207 c208 c209 c210 c211 c212 c213 c214 c215 c216 c217 c218 c219 c220 c221 c222 c223 c224 c225 c226 c227 c228 c229 c230 c231 c232 c233 c234 c235 c236 c237 c238 c239 c240 c241 c242 c243 c244 c245 c246 c247 c248 c249 c250 c251 c252 c253 : Value) (g j : Nat) (hj : j < 8) (x : UInt32) (f : Nat → UInt8) (w : World) (hR : Row w g 24 (tab 32 fun p => VB (f p)))
    (Q : Exit → Act → World → Prop) (hQ : ∀ (u24 u25 u238 u239 u240 u241 u242 u243 u244 u245 u246 u247 u248 u249 u250 u251 : Value) (w' : World), Row w' g 24 (tab 32 fun p => VB (if p / 4 = j then byteOf x (p % 4) else f p)) → Wrote g w w' → Q (.exit 14) ⟨(c0 :: c1 :: c2 :: c3 :: c4 :: c5 :: c6 :: c7 :: c8 :: c9 :: c10 :: c11 :: c12 :: c13 :: c14 :: c15 :: c16 :: c17 :: c18 :: c19 :: c20 :: c21 :: Value.pointer (some ⟨g, 0, none⟩) :: Value.int .i64 (j : Int) :: u24 :: u25 :: c26 :: c27 :: c28 :: c29 :: c30 :: c31 :: c32 :: c33 :: c34 :: c35 :: c36 :: c37 :: c38 :: c39 :: c40 :: c41 :: c42 :: c43 :: c44 :: c45 :: c46 :: c47 :: c48 :: c49 :: c50 :: c51 :: c52 :: c53 :: c54 :: c55 :: c56 :: c57 :: c58 :: c59 :: c60 :: c61 :: c62 :: c63 :: c64 :: c65 :: c66 :: c67 :: c68 :: c69 :: c70 :: c71 :: c72 :: c73 :: c74 :: c75 :: c76 :: c77 :: c78 :: c79 :: c80 :: c81 :: c82 :: c83 :: c84 :: c85 :: c86 :: c87 :: c88 :: c89 :: c90 :: c91 :: c92 :: c93 :: c94 :: c95 :: c96 :: c97 :: c98 :: c99 :: c100 :: c101 :: c102 :: c103 :: c104 :: c105 :: c106 :: c107 :: c108 :: c109 :: c110 :: c111 :: c112 :: c113 :: c114 :: c115 :: c116 :: c117 :: c118 :: c119 :: c120 :: c121 :: c122 :: c123 :: c124 :: c125 :: c126 :: c127 :: c128 :: c129 :: c130 :: c131 :: c132 :: c133 :: c134 :: c135 :: c136 :: c137 :: c138 :: c139 :: c140 :: c141 :: c142 :: c143 :: c144 :: c145 :: c146 :: c147 :: c148 :: c149 :: c150 :: c151 :: c152 :: c153 :: c154 :: c155 :: c156 :: c157 :: c158 :: c159 :: c160 :: c161 :: c162 :: c163 :: c164 :: c165 :: c166 :: c167 :: c168 :: c169 :: c170 :: c171 :: c172 :: c173 :: c174 :: c175 :: c176 :: c177 :: c178 :: c179 :: c180 :: c181 :: c182 :: c183 :: c184 :: c185 :: c186 :: c187 :: c188 :: c189 :: c190 :: c191 :: c192 :: c193 :: c194 :: c195 :: c196 :: c197 :: c198 :: c199 :: c200 :: c201 :: c202 :: c203 :: c204 :: c205 :: c206 :: c207 :: c208 :: c209 :: c210 :: c211 :: c212 :: c213 :: c214 :: c215 :: c216 :: c217 :: c218 :: c219 :: c220 :: c221 :: c222 :: c223 :: c224 :: c225 :: c226 :: c227 :: c228 :: c229 :: c230 :: c231 :: c232 :: c233 :: c234 :: c235 :: c236 :: c237 :: u238 :: u239 :: u240 :: u241 :: u242 :: u243 :: u244 :: u245 :: u246 :: u247 :: u248 :: u249 :: u250 :: u251 :: c252 :: c253 :: ([] : List Value)).toArray, []⟩ w') :
    Code.wp Tryd.prog (.loop (sumLoop 14)) Q ⟨(c0 :: c1 :: c2 :: c3 :: c4 :: c5 :: c6 :: c7 :: c8 :: c9 :: c10 :: c11 :: c12 :: c13 :: c14 :: c15 :: c16 :: c17 :: c18 :: c19 :: c20 :: c21 :: Value.pointer (some ⟨g, 0, none⟩) :: Value.int .i64 (j : Int) :: V64 x :: Value.int .i64 3 :: c26 :: c27 :: c28 :: c29 :: c30 :: c31 :: c32 :: c33 :: c34 :: c35 :: c36 :: c37 :: c38 :: c39 :: c40 :: c41 :: c42 :: c43 :: c44 :: c45 :: c46 :: c47 :: c48 :: c49 :: c50 :: c51 :: c52 :: c53 :: c54 :: c55 :: c56 :: c57 :: c58 :: c59 :: c60 :: c61 :: c62 :: c63 :: c64 :: c65 :: c66 :: c67 :: c68 :: c69 :: c70 :: c71 :: c72 :: c73 :: c74 :: c75 :: c76 :: c77 :: c78 :: c79 :: c80 :: c81 :: c82 :: c83 :: c84 :: c85 :: c86 :: c87 :: c88 :: c89 :: c90 :: c91 :: c92 :: c93 :: c94 :: c95 :: c96 :: c97 :: c98 :: c99 :: c100 :: c101 :: c102 :: c103 :: c104 :: c105 :: c106 :: c107 :: c108 :: c109 :: c110 :: c111 :: c112 :: c113 :: c114 :: c115 :: c116 :: c117 :: c118 :: c119 :: c120 :: c121 :: c122 :: c123 :: c124 :: c125 :: c126 :: c127 :: c128 :: c129 :: c130 :: c131 :: c132 :: c133 :: c134 :: c135 :: c136 :: c137 :: c138 :: c139 :: c140 :: c141 :: c142 :: c143 :: c144 :: c145 :: c146 :: c147 :: c148 :: c149 :: c150 :: c151 :: c152 :: c153 :: c154 :: c155 :: c156 :: c157 :: c158 :: c159 :: c160 :: c161 :: c162 :: c163 :: c164 :: c165 :: c166 :: c167 :: c168 :: c169 :: c170 :: c171 :: c172 :: c173 :: c174 :: c175 :: c176 :: c177 :: c178 :: c179 :: c180 :: c181 :: c182 :: c183 :: c184 :: c185 :: c186 :: c187 :: c188 :: c189 :: c190 :: c191 :: c192 :: c193 :: c194 :: c195 :: c196 :: c197 :: c198 :: c199 :: c200 :: c201 :: c202 :: c203 :: c204 :: c205 :: c206 :: c207 :: c208 :: c209 :: c210 :: c211 :: c212 :: c213 :: c214 :: c215 :: c216 :: c217 :: c218 :: c219 :: c220 :: c221 :: c222 :: c223 :: c224 :: c225 :: c226 :: c227 :: c228 :: c229 :: c230 :: c231 :: c232 :: c233 :: c234 :: c235 :: c236 :: c237 :: c238 :: c239 :: c240 :: c241 :: c242 :: c243 :: c244 :: c245 :: c246 :: c247 :: c248 :: c249 :: c250 :: c251 :: c252 :: c253 :: ([] : List Value)).toArray, []⟩ w := by
  conv => arg 2; arg 1; whnf
  go_loopw [25, 24] (fun iv nv wr => ∃ k : Nat, k ≤ 4 ∧ iv = .int .i64 (3 - (k : Int)) ∧ nv = .int .u64 (I x / 2 ^ (8 * k)) ∧ Row wr g 24 (tab 32 fun p => VB (if p / 4 = j ∧ 4 ≤ p % 4 + k then byteOf x (p % 4) else f p)) ∧ Wrote g w wr) (fun iv _ _ => (intOf iv + 1).toNat)
  case atStart => exact ⟨0, by omega, rfl, by simp, by rw [tab_congr (g := fun p => VB (f p)) (fun p hp => by rw [if_neg (by omega)])]; exact hR, Wrote.refl _ _⟩
  case round =>
    obtain ⟨k, hk, rfl, rfl, hRr, hWr⟩ := hrel
    by_cases hlt : k < 4
    · have hd : decide ((3 : Int) - (k : Int) ≥ 0) = true := by simp; omega
      have i1 : 0 ≤ I x / 2 ^ (8 * k) := Int.ediv_nonneg (I_lo x) (Int.pow_nonneg (by decide))
      have i2 : I x / 2 ^ (8 * k) < 4294967296 := Int.lt_of_le_of_lt (Int.ediv_le_self _ (I_lo x)) (I_hi x)
      have Hdiv := Lib.hid (I_div256 x k)
      have Hbyte := Lib.hid (I_byte x k (by omega))
      generalize I x / 2 ^ (8 * k) = y at i1 i2 Hdiv Hbyte ⊢
      have Hb2 := Lib.hid (show y % 256 % 256 = B (byteOf x (3 - k)) by rw [← Hbyte.out, Int.tmod_eq_emod_of_nonneg i1])
      have Hb3 := Lib.hid (show y % 256 = B (byteOf x (3 - k)) by rw [← Hbyte.out, Int.tmod_eq_emod_of_nonneg i1]; omega)
      have Hd2 := Lib.hid (show y / 256 = I x / 2 ^ (8 * (k + 1)) by rw [← Hdiv.out, Int.tdiv_eq_ediv_of_nonneg i1])
      go_wp2_with (first
        | ((with_reducible change wpList _ _ _ (Oper.mk (some 249) _ _ _ _ _ :: _) _ _); refine kIndexAddr1 _ _ _ _ _ _ _ (4 * j + (3 - k)) _ rfl rfl rfl rfl Tryd.underlying24 info_byte (by omega) (by omega) ?_)
        | ((with_reducible change wpList _ _ _ (Oper.mk none _ _ _ _ _ :: _) _ _); refine kStore1 _ _ _ _ _ _ _ (VB (byteOf x (3 - k))) rfl rfl rfl (by first | exact congrArg (Value.int IntKind.u8) Hbyte.out | exact congrArg (Value.int IntKind.u8) Hb2.out | exact congrArg (Value.int IntKind.u8) Hb3.out) hRr info_byte (by rw [tab_size]; omega) rfl ?_; intro w5 hR5 hW5))
      go_roundw
      case rel =>
        refine ⟨k + 1, by omega, by go_num, congrArg (Value.int IntKind.u64) Hd2.out, ?_, hWr.trans hW5⟩
        rw [tab_set (g := fun p => VB (if p / 4 = j ∧ 4 ≤ p % 4 + (k + 1) then byteOf x (p % 4) else f p))] at hR5
        · exact hR5
        · intro p hp
          by_cases hpk : p = 4 * j + (3 - k)
          · rw [if_pos hpk, if_pos (by omega), show p % 4 = 3 - k by omega]
          · rw [if_neg hpk]
            by_cases hpl : p / 4 = j ∧ 4 ≤ p % 4 + k
            · rw [if_pos hpl, if_pos (by omega)]
            · rw [if_neg hpl, if_neg (by omega)]
      case measure => simp [intOf]; omega
    · have Hk := Lib.hid (show k = 4 by omega)
      have hd : decide ((3 : Int) - (k : Int) ≥ 0) = false := by simp; omega
      rw [tab_congr (g := fun p => VB (if p / 4 = j then byteOf x (p % 4) else f p)) (fun p hp => by
        by_cases h4 : p / 4 = j
        · rw [if_pos ⟨h4, by have := Hk.out; omega⟩, if_pos h4]
        · rw [if_neg (fun h => h4 h.1), if_neg h4])] at hRr
      go_wp2
      all_goals first | done | exact hQ _ _ _ _ _ _ _ _ _ _ _ _ _ _ _ _ _ hRr hWr
end Go.Proofs.YtdeggdmoijfhdaaDoor

/-
  The reference's Sum: the eight numbers' bytes.
-/
namespace Go.Proofs.YtdeggdmoijfhdaaDoor
open Go Go.RowKit

theorem hbyte_of (l : List UInt32) (p : Nat) : hbyte l p = byteOf (at32 l (p / 4)) (p % 4) := rfl

set_option maxRecDepth 1000000 in
set_option maxHeartbeats 4000000 in
theorem loop12 (c0 c1 c2 c3 c4 c5 c6 c7 c8 c9 c10 c11 c12 c13 c14 c15 c16 c17 c18 c19 c20 c21 c23 c24 c25 c26 c27 c28 c29 c30 c31 c32 c33 c34 c35 c36 c37 c38 c39 c40 c41 c42 c43 c44 c45 c46 c47 c48 c49 c50 c51 c52 c53 c54 c55 c56 c57 c58 c59 c60 c61 c62 c63 c64 c65 c66 c67 c68 c69 c70 c71 c72 c73 c74 c75 c76 c77 c78 c79 c80 c81 c82 c83 c84 c85 c86 c87 c88 c89 c90 c91 c92 c93 c94 c95 c96 c97 c98 c99 c100 c101 c102 c103 c104 c105 c106 c107 c108 c109 c110 c111 c112 c113 c114 c115 c116 c117 c118 c119 c120 c121 c122 c123 c124 c125 c126 c127 c128 c129 c130 c131 c132 c133 c134 c135 c136 c137 c138 c139 c140 c141 c142 c143 c144 c145 c146 c147 c148 c149 c150 c151 c152 c153 c154 c155 c156 c157 c158 c159 c160 c161 c162 c163 c164 c165 c166 c167 c168 c169 c170 c171 c172 c173 c174 c175 c176 c177 c178 c179 c180 c181 c182 c183 c184 c185 c186 c187 c188 c189 c190 c191 c192 c193 c194 c195 c196 c197 c198 c199 c200 c201 c202 c203 c204 c205 c206 c207 c208 c209 c210 c211 c212 c213 c214 c215 c216 c217 c218 c219 c220 c221 c222 c223 c224 c225 c226 c227 c228 c229 c230 c231 c232 c235 c236 c237 c238 c239 c240 c241 c242 c243 c244 c245 c246 c247 c248 c249 c250 c251 c252 c253 : Value) (g : Nat) (l : List UInt32) (w : World) (hR : Row w g 24 (tab 32 fun _ => VB 0))
    (Q : Exit → Act → World → Prop) (hQ : ∀ (u23 u24 u25 u234 u235 u236 u237 u238 u239 u240 u241 u242 u243 u244 u245 u246 u247 u248 u249 u250 u251 u252 : Value) (w' : World), Row w' g 24 (tab 32 fun p => VB (hbyte l p)) → Wrote g w w' → Q (.exit 12) ⟨(c0 :: c1 :: c2 :: c3 :: c4 :: c5 :: c6 :: c7 :: c8 :: c9 :: c10 :: c11 :: c12 :: c13 :: c14 :: c15 :: c16 :: c17 :: c18 :: c19 :: c20 :: c21 :: Value.pointer (some ⟨g, 0, none⟩) :: u23 :: u24 :: u25 :: c26 :: c27 :: c28 :: c29 :: c30 :: c31 :: c32 :: c33 :: c34 :: c35 :: c36 :: c37 :: c38 :: c39 :: c40 :: c41 :: c42 :: c43 :: c44 :: c45 :: c46 :: c47 :: c48 :: c49 :: c50 :: c51 :: c52 :: c53 :: c54 :: c55 :: c56 :: c57 :: c58 :: c59 :: c60 :: c61 :: c62 :: c63 :: c64 :: c65 :: c66 :: c67 :: c68 :: c69 :: c70 :: c71 :: c72 :: c73 :: c74 :: c75 :: c76 :: c77 :: c78 :: c79 :: c80 :: c81 :: c82 :: c83 :: c84 :: c85 :: c86 :: c87 :: c88 :: c89 :: c90 :: c91 :: c92 :: c93 :: c94 :: c95 :: c96 :: c97 :: c98 :: c99 :: c100 :: c101 :: c102 :: c103 :: c104 :: c105 :: c106 :: c107 :: c108 :: c109 :: c110 :: c111 :: c112 :: c113 :: c114 :: c115 :: c116 :: c117 :: c118 :: c119 :: c120 :: c121 :: c122 :: c123 :: c124 :: c125 :: c126 :: c127 :: c128 :: c129 :: c130 :: c131 :: c132 :: c133 :: c134 :: c135 :: c136 :: c137 :: c138 :: c139 :: c140 :: c141 :: c142 :: c143 :: c144 :: c145 :: c146 :: c147 :: c148 :: c149 :: c150 :: c151 :: c152 :: c153 :: c154 :: c155 :: c156 :: c157 :: c158 :: c159 :: c160 :: c161 :: c162 :: c163 :: c164 :: c165 :: c166 :: c167 :: c168 :: c169 :: c170 :: c171 :: c172 :: c173 :: c174 :: c175 :: c176 :: c177 :: c178 :: c179 :: c180 :: c181 :: c182 :: c183 :: c184 :: c185 :: c186 :: c187 :: c188 :: c189 :: c190 :: c191 :: c192 :: c193 :: c194 :: c195 :: c196 :: c197 :: c198 :: c199 :: c200 :: c201 :: c202 :: c203 :: c204 :: c205 :: c206 :: c207 :: c208 :: c209 :: c210 :: c211 :: c212 :: c213 :: c214 :: c215 :: c216 :: c217 :: c218 :: c219 :: c220 :: c221 :: c222 :: c223 :: c224 :: c225 :: c226 :: c227 :: c228 :: c229 :: c230 :: c231 :: c232 :: Value.agg (tab 8 fun p => V64 (at32 l p)) :: u234 :: u235 :: u236 :: u237 :: u238 :: u239 :: u240 :: u241 :: u242 :: u243 :: u244 :: u245 :: u246 :: u247 :: u248 :: u249 :: u250 :: u251 :: u252 :: c253 :: ([] : List Value)).toArray, []⟩ w') :
    Code.wp Tryd.prog (.loop (sumLoop 12)) Q ⟨(c0 :: c1 :: c2 :: c3 :: c4 :: c5 :: c6 :: c7 :: c8 :: c9 :: c10 :: c11 :: c12 :: c13 :: c14 :: c15 :: c16 :: c17 :: c18 :: c19 :: c20 :: c21 :: Value.pointer (some ⟨g, 0, none⟩) :: c23 :: c24 :: c25 :: c26 :: c27 :: c28 :: c29 :: c30 :: c31 :: c32 :: c33 :: c34 :: c35 :: c36 :: c37 :: c38 :: c39 :: c40 :: c41 :: c42 :: c43 :: c44 :: c45 :: c46 :: c47 :: c48 :: c49 :: c50 :: c51 :: c52 :: c53 :: c54 :: c55 :: c56 :: c57 :: c58 :: c59 :: c60 :: c61 :: c62 :: c63 :: c64 :: c65 :: c66 :: c67 :: c68 :: c69 :: c70 :: c71 :: c72 :: c73 :: c74 :: c75 :: c76 :: c77 :: c78 :: c79 :: c80 :: c81 :: c82 :: c83 :: c84 :: c85 :: c86 :: c87 :: c88 :: c89 :: c90 :: c91 :: c92 :: c93 :: c94 :: c95 :: c96 :: c97 :: c98 :: c99 :: c100 :: c101 :: c102 :: c103 :: c104 :: c105 :: c106 :: c107 :: c108 :: c109 :: c110 :: c111 :: c112 :: c113 :: c114 :: c115 :: c116 :: c117 :: c118 :: c119 :: c120 :: c121 :: c122 :: c123 :: c124 :: c125 :: c126 :: c127 :: c128 :: c129 :: c130 :: c131 :: c132 :: c133 :: c134 :: c135 :: c136 :: c137 :: c138 :: c139 :: c140 :: c141 :: c142 :: c143 :: c144 :: c145 :: c146 :: c147 :: c148 :: c149 :: c150 :: c151 :: c152 :: c153 :: c154 :: c155 :: c156 :: c157 :: c158 :: c159 :: c160 :: c161 :: c162 :: c163 :: c164 :: c165 :: c166 :: c167 :: c168 :: c169 :: c170 :: c171 :: c172 :: c173 :: c174 :: c175 :: c176 :: c177 :: c178 :: c179 :: c180 :: c181 :: c182 :: c183 :: c184 :: c185 :: c186 :: c187 :: c188 :: c189 :: c190 :: c191 :: c192 :: c193 :: c194 :: c195 :: c196 :: c197 :: c198 :: c199 :: c200 :: c201 :: c202 :: c203 :: c204 :: c205 :: c206 :: c207 :: c208 :: c209 :: c210 :: c211 :: c212 :: c213 :: c214 :: c215 :: c216 :: c217 :: c218 :: c219 :: c220 :: c221 :: c222 :: c223 :: c224 :: c225 :: c226 :: c227 :: c228 :: c229 :: c230 :: c231 :: c232 :: Value.agg (tab 8 fun p => V64 (at32 l p)) :: Value.int .i64 0 :: c235 :: c236 :: c237 :: c238 :: c239 :: c240 :: c241 :: c242 :: c243 :: c244 :: c245 :: c246 :: c247 :: c248 :: c249 :: c250 :: c251 :: c252 :: c253 :: ([] : List Value)).toArray, []⟩ w := by
  conv => arg 2; arg 1; whnf
  go_loopw [234] (fun jv wr => ∃ j : Nat, j ≤ 8 ∧ jv = .int .i64 (j : Int) ∧ Row wr g 24 (tab 32 fun p => VB (if p / 4 < j then hbyte l p else 0)) ∧ Wrote g w wr) (fun jv _ => 8 - (intOf jv).toNat)
  case atStart => exact ⟨0, by omega, rfl, by rw [tab_congr (g := fun _ => VB 0) (fun p hp => by rw [if_neg (by omega)])]; exact hR, Wrote.refl _ _⟩
  case round =>
    obtain ⟨j, hj, rfl, hRr, hWr⟩ := hrel
    by_cases hlt : j < 8
    · have hd : decide ((j : Int) < 8) = true := by simp; omega
      go_wp2_with (first
        | ((with_reducible change wpList _ _ _ (Oper.mk (some 237) _ _ _ _ _ :: _) _ _); refine kIndex _ _ _ _ _ _ _ j _ (V64 (at32 l j)) _ rfl rfl rfl rfl Tryd.underlying74 Tryd.underlying29 rfl info_u64b rfl (by omega) (tab_get _ _ _ (by omega)) ?_))
      refine loop14 _ _ _ _ _ _ _ _ _ _ _ _ _ _ _ _ _ _ _ _ _ _ _ _ _ _ _ _ _ _ _ _ _ _ _ _ _ _ _ _ _ _ _ _ _ _ _ _ _ _ _ _ _ _ _ _ _ _ _ _ _ _ _ _ _ _ _ _ _ _ _ _ _ _ _ _ _ _ _ _ _ _ _ _ _ _ _ _ _ _ _ _ _ _ _ _ _ _ _ _ _ _ _ _ _ _ _ _ _ _ _ _ _ _ _ _ _ _ _ _ _ _ _ _ _ _ _ _ _ _ _ _ _ _ _ _ _ _ _ _ _ _ _ _ _ _ _ _ _ _ _ _ _ _ _ _ _ _ _ _ _ _ _ _ _ _ _ _ _ _ _ _ _ _ _ _ _ _ _ _ _ _ _ _ _ _ _ _ _ _ _ _ _ _ _ _ _ _ _ _ _ _ _ _ _ _ _ _ _ _ _ _ _ _ _ _ _ _ _ _ _ _ _ _ _ _ _ _ _ _ _ _ _ _ _ _ _ _ _ _ _ _ _ _ _ _ _ _ _ _ g j hlt (at32 l j) (fun p => if p / 4 < j then hbyte l p else 0) _ hRr _ ?_
      intro u24 u25 u238 u239 u240 u241 u242 u243 u244 u245 u246 u247 u248 u249 u250 u251 w5 hR5 hW5
      go_wp2
      go_roundw
      case rel =>
        refine ⟨j + 1, by omega, by go_num, ?_, hWr.trans hW5⟩
        rw [tab_congr (g := fun p => VB (if p / 4 < j + 1 then hbyte l p else 0)) (fun p hp => by
          by_cases h4 : p / 4 = j
          · rw [if_pos h4, if_pos (by omega), hbyte_of, h4]
          · rw [if_neg h4]
            by_cases h5 : p / 4 < j
            · rw [if_pos h5, if_pos (by omega)]
            · rw [if_neg h5, if_neg (by omega)])] at hR5
        exact hR5
      case measure => simp [intOf]; omega
    · have Hk := Lib.hid (show j = 8 by omega)
      have hd : decide ((j : Int) < 8) = false := by simp; omega
      rw [tab_congr (g := fun p => VB (hbyte l p)) (fun p hp => by rw [if_pos (by have := Hk.out; omega)])] at hRr
      go_wp2
      all_goals first | done | exact hQ _ _ _ _ _ _ _ _ _ _ _ _ _ _ _ _ _ _ _ _ _ _ _ hRr hWr
end Go.Proofs.YtdeggdmoijfhdaaDoor

/-
  The walk of the reference's Sum, joined of its loops.
-/
namespace Go.Proofs.YtdeggdmoijfhdaaDoor
open Go Go.RowKit
theorem info_arr8u64 : (Tryd.prog.info? 74).map (·.size) = some 8 := by kernel_rfl
theorem zero_arr8u64 : ((Tryd.prog.info? 74).bind (·.zero)).map Value.cells = some (tab 8 fun _ => V64 0) := by kernel_rfl
def st0Parts : Array (Nat × Value) := ((List.range 8).map fun j => (j, V64 (at32 st0.list j))).toArray
theorem build_st0 : ∀ w, (Instr.build 74 st0Parts).run Tryd.prog w = .ok (.agg (tab 8 fun j => V64 (at32 st0.list j))) w := fun _ => by kernel_rfl

theorem padded_len (L : List UInt8) : (padded L).length = 64 * ((padded L).length / 64) := by
  unfold padded tailOf be64
  simp
  omega

theorem padded_len' (L : List UInt8) : (padded L).length = L.length + 9 + (119 - L.length % 64) % 64 := by
  unfold padded tailOf be64
  simp
  omega
theorem sha_at (L : List UInt8) (p : Nat) (hp : p < 32) : at8 (sha L) p = hbyte (absorb (padded L) ((padded L).length / 64)).list p := by
  unfold sha St.bytes
  rw [at8_lt _ _ (by simpa using hp)]; simp
theorem build_zeroHash' : ∀ w, (Instr.build 24 #[]).run Tryd.prog w = .ok (.agg (tab 32 fun _ => VB 0)) w := fun _ => by kernel_rfl

set_option maxRecDepth 1000000 in
set_option maxHeartbeats 8000000 in
theorem rSum_any (L : List UInt8) (b : Value) (w : World) (hv : IsVals w b (L.map VB)) (hL : L.length ≤ 1000000) :
    Calls Tryd.prog 40 #[b] w fun e w' => e = .returned (.agg (tab 32 fun p => VB (at8 (sha L) p))) ∧ Below w.heap.size w w' := by
  obtain ⟨ii, hi, hz, hs1, hby⟩ := u64Info
  go_enter Tryd.func40, Tryd.ntmps40
  go_wp2_with (first
    | ((with_reducible change wpList _ _ _ (Oper.mk (some 2) _ _ _ _ _ :: _) _ _); refine kAlloc _ _ rfl rfl zero_Hash ?_; intro w1 hR1 hz1 hB1)
    | ((with_reducible change wpList _ _ _ (Oper.mk (some 26) _ _ _ _ _ :: _) _ _); refine kBuild _ _ st0Parts _ rfl rfl (by kernel_rfl) build_st0 ?_)
    | ((with_reducible change wpList _ _ _ (Oper.mk (some 3) _ _ _ _ _ :: _) _ _); refine kAlloc _ _ rfl rfl zero_arr8u64 ?_; intro w2 hR2 hz2 hB2)
    | ((with_reducible change wpList _ _ _ (Oper.mk none (Op.store _ (Operand.tmp 3) _) _ _ _ _ :: _) _ _); refine kStoreRow _ _ _ _ _ _ _ rfl rfl rfl rfl hR2 (by rw [tab_size]; exact info_arr8u64) (by simp only [tab_size]) (tab_one _ _ fun _ _ => rfl) ?_; intro w3 hR3 hW3; have hB3 : Below w.heap.size w w3 := (hB1.trans (hB2.mono (by omega))).trans (hW3.below (by omega)); have hs3 := hW3.size)
    | (go_at_call 45; refine (rPadded_any L _ _ (hv.below hB3) hL).mono ?_; rintro e w4 ⟨v4, rfl, hO4, hB4⟩; have hs4 := hB4.size)
    | (go_at_call 46; refine (rkeys_any _).mono ?_; rintro e w5 ⟨rfl, hB5⟩; have hs5 := hB5.size)
    | ((with_reducible change wpList _ _ _ (Oper.mk (some 5) _ _ _ _ _ :: _) _ _); refine kAlloc _ _ rfl rfl zero_arr64u64 ?_; intro w6 hR6 hz6 hB6)
    | ((with_reducible change wpList _ _ _ (Oper.mk none (Op.store _ (Operand.tmp 5) _) _ _ _ _ :: _) _ _); refine kStoreRow _ _ _ _ _ _ _ rfl rfl rfl rfl hR6 (by rw [tab_size]; exact info_arr64u64) (by simp only [tab_size]) (tab_one _ _ fun _ _ => rfl) ?_; intro w7 hR7 hW7; have hs7 := hW7.size))
  have hne : ∀ a, v4.ownBlock = some a → a ≠ w1.heap.size := fun a ha e => by have := (hO4.lt a ha).1; omega
  have hA : IsVals w7 v4 ((padded L).map VB) := hO4.vals.below ((hB5.trans (hB6.mono (by omega))).trans (hW7.below (by omega)))
  have hK : Row w7 w5.heap.size 76 (tab 64 fun j => V64 (at32 kTab j)) := hR7
  have hB7 : Below w3.heap.size w3 w7 := ((hB4.trans (hB5.mono (by omega))).trans (hB6.mono (by omega))).trans (hW7.below (by omega))
  have hB : Below w.heap.size w w7 := hB3.trans (hB7.mono (by omega))
  have hZ : Row w7 w.heap.size 24 (tab 32 fun _ => VB 0) := (hW3.row (hR1.below hB2 (by omega)) (by omega)).below hB7 (by omega)
  have hV : Row w7 w1.heap.size 74 (tab 8 fun j => V64 (at32 (absorb (padded L) 0).list j)) := hR3.below hB7 (by omega)
  have hg3 : w1.heap.size < w3.heap.size := by omega
  have hg5 : w3.heap.size ≤ w5.heap.size := by omega
  have Hlen := Lib.hid (padded_len L)
  rw [hz1] at hne hV hg3
  clear hR1 hR2 hR3 hW3 hB1 hB2 hB3 hO4 hB4 hB5 hR6 hB6 hR7 hW7 hB7 hz1 hz2 hs3 hz6 hs7 hs4 hs5
  go_loopw [6] (fun i wr => ∃ n : Nat, n ≤ (padded L).length / 64 ∧ i = .int .i64 (64 * (n : Int)) ∧ Row wr (w.heap.size + 1) 74 (tab 8 fun j => V64 (at32 (absorb (padded L) n).list j)) ∧ Row wr w.heap.size 24 (tab 32 fun _ => VB 0) ∧ Row wr w5.heap.size 76 (tab 64 fun j => V64 (at32 kTab j)) ∧ IsVals wr v4 ((padded L).map VB) ∧ Below w.heap.size w wr) (fun i _ => (padded L).length - (intOf i).toNat)
  case atStart => exact ⟨0, by omega, rfl, hV, hZ, hK, hA, hB⟩
  case round =>
    obtain ⟨n, hn, rfl, hVr, hZr, hKr, hAr, hBr⟩ := hrel
    have hszr := hBr.size
    have hgvr := hVr.lt
    have hgkr := hKr.lt
    have hDl : (padded L).length ≤ 2000000 := by rw [padded_len']; omega
    by_cases hlt : n < (padded L).length / 64
    · have hd : decide (64 * (n : Int) < ((padded L).length : Int)) = true := by have := Hlen.out; simp; omega
      go_wp2_with (first
        | ((with_reducible change wpList _ _ _ (Oper.mk (some 32) _ _ _ _ _ :: _) _ _); refine kLenN _ _ _ _ _ (padded L).length rfl rfl rfl hAr (by simp) Tryd.underlying57 ?_)
        | ((with_reducible change wpList _ _ _ (Oper.mk (some 36) _ _ _ _ _ :: _) _ _); refine kBuildSlice0 _ _ rfl rfl Tryd.underlying40 ii hi ?_; intro p1 hP1 hp1 hQ1))
      refine loop2 _ _ _ _ _ _ _ _ _ _ _ _ _ _ _ _ _ _ _ _ _ _ _ _ _ _ _ _ _ _ _ _ _ _ _ _ _ _ _ _ _ _ _ _ _ _ _ _ _ _ _ _ _ _ _ _ _ _ _ _ _ _ _ _ _ _ _ _ _ _ _ _ _ _ _ _ _ _ _ _ _ _ _ _ _ _ _ _ _ _ _ _ _ _ _ _ _ _ _ _ _ _ _ _ _ _ _ _ _ _ _ _ _ _ _ _ _ _ _ _ _ _ _ _ _ _ _ _ _ _ _ _ _ _ _ _ _ _ _ _ _ _ _ _ _ _ _ _ _ _ _ _ _ _ _ _ _ _ _ _ _ _ _ _ _ _ _ _ _ _ _ _ _ _ _ _ _ _ _ _ _ _ _ _ _ _ _ _ _ _ _ _ _ _ _ _ _ _ _ _ _ _ _ _ _ _ _ _ _ _ _ _ _ _ _ _ _ _ _ _ _ _ _ _ _ _ _ _ _ _ _ _ _ _ _ _ _ _ _ _ _ _ _ _ _ _ _ _ _ _ n (padded L) v4 _ wr p1 hAr hQ1 (own_empty (Nat.le_refl _) hP1) hDl (by have := Hlen.out; omega) _ ?_
      intro v7 u8 u9 u10 u11 u12 u37 u38 u39 u40 u41 u42 u43 u44 u45 u46 u47 u48 u49 u50 u51 u52 u53 u54 u55 u56 u57 u58 u59 u60 u61 u62 u63 u64 u65 u66 u67 u68 u69 u70 u71 u72 u73 u74 u75 u76 u77 u78 u79 u80 u81 u82 u83 u84 u85 u86 u87 u88 u89 u90 u91 u92 u93 u94 u95 u96 u97 u98 u99 u100 u101 u102 u103 u104 u105 u106 u107 u108 u109 u110 u111 u112 u113 u114 u115 u116 u117 u118 u119 u120 u121 u122 p2 hO2 hQ2
      have hs2 := hQ2.size
      rcases hO2.2 with ⟨_, hi0⟩ | ⟨gw, cap, cur, rfl, hbg, hgr, hnc, hcm, hcs, htake⟩
      · omega
      have hcells : ∀ j, j < 64 → p2.cell? ⟨gw, j, none⟩ = some (V64 (at32 (sched (blockOf (padded L) n)) j)) := fun j hj => by
        have := hO2.cells (g := gw) rfl j (V64 (at32 (sched (blockOf (padded L) n)) j)) (by have := sched_vals (blockOf (padded L) n) 64 j (by omega) hj; rwa [List.take_of_length_le (by rw [sched_len]; omega)] at this)
        rwa [add_none, Nat.zero_add] at this
      have hgw2 : gw < p2.heap.size := block_lt_of_cell (hcells 0 (by omega))
      clear hgr htake hcs hO2 hP1 hQ1
      go_wp2_with (first
        | ((with_reducible change wpList _ _ _ (Oper.mk (some 123) _ _ _ _ _ :: _) _ _); refine kLoadRow _ _ _ _ _ _ rfl rfl rfl (hVr.below hQ2 hgvr) Tryd.underlying74 rfl (by rw [tab_size]; exact info_arr8u64) ?_)
        | ((with_reducible change wpList _ _ _ (Oper.mk (some 13) _ _ _ _ _ :: _) _ _); refine kAlloc _ _ rfl rfl zero_arr8u64 ?_; intro p3 hP3 hp3 hQ3)
        | ((with_reducible change wpList _ _ _ (Oper.mk none _ _ _ _ _ :: _) _ _); refine kStoreRow _ _ _ _ _ _ _ rfl rfl rfl rfl hP3 (by rw [tab_size]; exact info_arr8u64) (by simp only [tab_size]) (tab_one _ _ fun _ _ => rfl) ?_; intro p4 hP4 hW4))
      have hQ4 : Below wr.heap.size wr p4 := (hQ2.trans (hQ3.mono hs2)).trans (hW4.below hs2)
      have hQ24 : Below p2.heap.size p2 p4 := hQ3.trans (hW4.below (Nat.le_refl _))
      refine loop6 _ _ _ _ _ _ _ _ _ _ _ _ _ _ _ _ _ _ _ _ _ _ _ _ _ _ _ _ _ _ _ _ _ _ _ _ _ _ _ _ _ _ _ _ _ _ _ _ _ _ _ _ _ _ _ _ _ _ _ _ _ _ _ _ _ _ _ _ _ _ _ _ _ _ _ _ _ _ _ _ _ _ _ _ _ _ _ _ _ _ _ _ _ _ _ _ _ _ _ _ _ _ _ _ _ _ _ _ _ _ _ _ _ _ _ _ _ _ _ _ _ _ _ _ _ _ _ _ _ _ _ _ _ _ _ _ _ _ _ _ _ _ _ _ _ _ _ _ _ _ _ _ _ _ _ _ _ _ _ _ _ _ _ _ _ _ _ _ _ _ _ _ _ _ _ _ _ _ _ _ _ _ _ _ _ _ _ _ _ _ _ _ _ _ _ _ _ _ _ _ _ _ _ _ _ _ _ _ _ _ _ _ _ _ _ _ _ _ _ _ _ _ _ _ _ _ _ _ _ _ _ _ _ _ _ _ _ _ _ _ _ _ _ _ _ _ _ _ _ _ p2.heap.size w5.heap.size gw cap (sched (blockOf (padded L) n)) (absorb (padded L) n) _ (by omega) (by omega) hP4 (hKr.below hQ4 hgkr) (fun j hj => by rw [hQ24.cell hgw2]; exact hcells j hj) _ ?_
      intro u14 u15 u16 u17 u18 u19 u20 u124 u125 u126 u127 u128 u129 u130 u131 u132 u133 u134 u135 u136 u137 u138 u139 u140 u141 u142 u143 u144 u145 u146 u147 u148 u149 u150 u151 u152 u153 u154 u155 u156 u157 u158 u159 u160 u161 u162 u163 u164 u165 u166 u167 u168 u169 u170 u171 u172 u173 u174 u175 u176 u177 u178 u179 u180 u181 u182 u183 u184 u185 u186 u187 u188 u189 u190 u191 u192 u193 u194 u195 u196 u197 u198 u199 u200 u201 u202 u203 u204 u205 u206 u207 u208 u209 u210 u211 u212 u213 u214 u215 u216 u217 p5 hP5 hW5
      have hQ5 : Below wr.heap.size wr p5 := hQ4.trans (hW5.below hs2)
      go_wp2_with fail
      refine loop10 _ _ _ _ _ _ _ _ _ _ _ _ _ _ _ _ _ _ _ _ _ _ _ _ _ _ _ _ _ _ _ _ _ _ _ _ _ _ _ _ _ _ _ _ _ _ _ _ _ _ _ _ _ _ _ _ _ _ _ _ _ _ _ _ _ _ _ _ _ _ _ _ _ _ _ _ _ _ _ _ _ _ _ _ _ _ _ _ _ _ _ _ _ _ _ _ _ _ _ _ _ _ _ _ _ _ _ _ _ _ _ _ _ _ _ _ _ _ _ _ _ _ _ _ _ _ _ _ _ _ _ _ _ _ _ _ _ _ _ _ _ _ _ _ _ _ _ _ _ _ _ _ _ _ _ _ _ _ _ _ _ _ _ _ _ _ _ _ _ _ _ _ _ _ _ _ _ _ _ _ _ _ _ _ _ _ _ _ _ _ _ _ _ _ _ _ _ _ _ _ _ _ _ _ _ _ _ _ _ _ _ _ _ _ _ _ _ _ _ _ _ _ _ _ _ _ _ _ _ _ _ _ _ _ _ _ _ _ _ _ _ _ _ _ _ _ _ _ _ _ _ (w.heap.size + 1) p2.heap.size (absorb (padded L) n).list (rnds (sched (blockOf (padded L) n)) (absorb (padded L) n) 64).list _ (by omega) (hVr.below hQ5 hgvr) hP5 _ ?_
      intro u21 u218 u219 u220 u221 u222 u223 u224 u225 u226 u227 u228 u229 u230 u231 p6 hP6 hW6
      go_wp2
      go_roundw
      case rel =>
        refine ⟨n + 1, by omega, by go_num, ?_, hW6.row (hZr.below hQ5 (by omega)) (by omega), hW6.row (hKr.below hQ5 hgkr) (by omega), (hAr.below hQ5).wrote hW6 (fun _ _ _ a ha => hne a ha), (hBr.trans (hQ5.mono hszr)).trans (hW6.below (by omega))⟩
        rw [tab_congr (g := fun j => V64 (at32 (absorb (padded L) (n + 1)).list j)) (fun p hp => ?_)] at hP6
        · exact hP6
        · show V64 _ = V64 (at32 (St.add (absorb (padded L) n) (rnds (sched (blockOf (padded L) n)) (absorb (padded L) n) 64)).list p)
          generalize absorb (padded L) n = s
          generalize rnds (sched (blockOf (padded L) n)) s 64 = t
          match p, hp with
          | 0, _ => rfl
          | 1, _ => rfl
          | 2, _ => rfl
          | 3, _ => rfl
          | 4, _ => rfl
          | 5, _ => rfl
          | 6, _ => rfl
          | 7, _ => rfl
      case measure => simp [intOf]; omega
    · have Hn := Lib.hid (show n = (padded L).length / 64 by omega)
      have hd : decide (64 * (n : Int) < ((padded L).length : Int)) = false := by have := Hlen.out; simp; omega
      go_wp2_with (first
        | ((with_reducible change wpList _ _ _ (Oper.mk (some 32) _ _ _ _ _ :: _) _ _); refine kLenN _ _ _ _ _ (padded L).length rfl rfl rfl hAr (by simp) Tryd.underlying57 ?_)
        | ((with_reducible change wpList _ _ _ (Oper.mk (some 232) _ _ _ _ _ :: _) _ _); refine kBuild _ _ _ _ rfl rfl (by simp) build_zeroHash' ?_)
        | ((with_reducible change wpList _ _ _ (Oper.mk (some 22) _ _ _ _ _ :: _) _ _); refine kAlloc _ _ rfl rfl zero_Hash ?_; intro q1 hP1 hq1 hQ1)
        | ((with_reducible change wpList _ _ _ (Oper.mk none (Op.store _ (Operand.tmp 22) _) _ _ _ _ :: _) _ _); refine kStoreRow _ _ _ _ _ _ _ rfl rfl rfl rfl hP1 (by rw [tab_size]; exact info_Hash) (by simp only [tab_size]) (tab_one _ _ fun _ _ => rfl) ?_; intro q2 hP2 hW2; have hQ2 : Below wr.heap.size wr q2 := hQ1.trans (hW2.below (Nat.le_refl _)))
        | ((with_reducible change wpList _ _ _ (Oper.mk (some 233) _ _ _ _ _ :: _) _ _); refine kLoadRow _ _ _ _ _ _ rfl rfl rfl (hVr.below hQ2 hgvr) Tryd.underlying74 rfl (by rw [tab_size]; exact info_arr8u64) ?_))
      refine loop12 _ _ _ _ _ _ _ _ _ _ _ _ _ _ _ _ _ _ _ _ _ _ _ _ _ _ _ _ _ _ _ _ _ _ _ _ _ _ _ _ _ _ _ _ _ _ _ _ _ _ _ _ _ _ _ _ _ _ _ _ _ _ _ _ _ _ _ _ _ _ _ _ _ _ _ _ _ _ _ _ _ _ _ _ _ _ _ _ _ _ _ _ _ _ _ _ _ _ _ _ _ _ _ _ _ _ _ _ _ _ _ _ _ _ _ _ _ _ _ _ _ _ _ _ _ _ _ _ _ _ _ _ _ _ _ _ _ _ _ _ _ _ _ _ _ _ _ _ _ _ _ _ _ _ _ _ _ _ _ _ _ _ _ _ _ _ _ _ _ _ _ _ _ _ _ _ _ _ _ _ _ _ _ _ _ _ _ _ _ _ _ _ _ _ _ _ _ _ _ _ _ _ _ _ _ _ _ _ _ _ _ _ _ _ _ _ _ _ _ _ _ _ _ _ _ _ _ _ _ _ _ _ _ _ _ _ _ _ _ _ _ _ _ _ _ _ _ _ _ _ _ wr.heap.size (absorb (padded L) n).list _ hP2 _ ?_
      intro u23 u24 u25 u234 u235 u236 u237 u238 u239 u240 u241 u242 u243 u244 u245 u246 u247 u248 u249 u250 u251 u252 q3 hP3 hW3
      have hQ3 : Below wr.heap.size wr q3 := hQ2.trans (hW3.below (Nat.le_refl _))
      have hZ3 := hZr.below hQ3 (by omega)
      rw [tab_congr (g := fun p => VB (at8 (sha L) p)) (fun p hp => by rw [Hn.out]; exact congrArg VB (sha_at L p hp).symm)] at hP3
      go_wp2_with (first
        | ((with_reducible change wpList _ _ _ (Oper.mk (some 253) _ _ _ _ _ :: _) _ _); refine kLoadRow _ _ _ _ _ _ rfl rfl rfl hP3 Tryd.underlying24 rfl (by rw [tab_size]; exact info_Hash) ?_)
        | ((with_reducible change wpList _ _ _ (Oper.mk none _ _ _ _ _ :: _) _ _); refine kStoreRow _ _ _ _ _ _ _ rfl rfl rfl rfl hZ3 (by rw [tab_size]; exact info_Hash) (by simp only [tab_size]) (tab_one _ _ fun _ _ => rfl) ?_; intro q4 hP4 hW4))
      exact result_row Tryd.results40 rfl hP4 Tryd.underlying24 rfl (by rw [tab_size]; exact info_Hash) rfl ⟨rfl, (hBr.trans (hQ3.mono hszr)).trans (hW4.below (Nat.le_refl _))⟩
end Go.Proofs.YtdeggdmoijfhdaaDoor
