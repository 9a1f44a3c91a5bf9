/-
  The walks of the reference's Add, Sub, Mul, Of, Pow and Inv of layer 3, over the prime's own contract.
-/
import Derived.Test.YtajpdmcbdekpbaaDoorFRef2
namespace Go.Proofs.YtajpdmcbdekpbaaDoor
open Go Go.RowKit

/-- the prime's contract -/
def PrimeIs (b : Bool) (m : Nat) : Prop := ∀ w, Calls Tryd.prog 18 #[.bool b] w (NumPost w m 16)
theorem mod_lt16 {m : Nat} (hm : Modu m) (x : Nat) : x % m < P16 16 := by rw [P16_16]; exact hm.mod x

set_option maxRecDepth 100000 in
set_option maxHeartbeats 2000000 in
theorem rAdd_num {b : Bool} {m : Nat} (hm : Modu m) (hP : PrimeIs b m) {va vb : Value} {na nb : Nat} {w : World} (ha : Num w va na 16) (hb : Num w vb nb 16) :
    Calls Tryd.prog 22 #[va, vb, .bool b] w (NumTPost w ((na + nb) % m)) := by
  go_enter Tryd.func22, Tryd.ntmps22
  go_wp2_with (first
    | (go_at_call 40; refine (dAdd_num ha hb (by decide) (by decide)).mono ?_; rintro e w1 ⟨v9, rfl, N9, hB1⟩; go_frame)
    | (go_at_call 31; refine (rMod_num hm hP N9 (by decide)).mono ?_; rintro e w2 ⟨v11, rfl, N11, hB2⟩; go_frame))
  go_ret
  exact ⟨_, rfl, N11, hB1.trans (hB2.mono hB1.size)⟩
set_option maxRecDepth 100000 in
set_option maxHeartbeats 2000000 in
theorem rMul_num {b : Bool} {m : Nat} (hm : Modu m) (hP : PrimeIs b m) {va vb : Value} {na nb : Nat} {w : World} (ha : Num w va na 16) (hb : Num w vb nb 16) :
    Calls Tryd.prog 26 #[va, vb, .bool b] w (NumTPost w (na * nb % m)) := by
  go_enter Tryd.func26, Tryd.ntmps26
  go_wp2_with (first
    | (go_at_call 43; refine (dMul_num ha hb (by decide) (by decide)).mono ?_; rintro e w1 ⟨v9, rfl, N9, hB1⟩; go_frame)
    | (go_at_call 31; refine (rMod_num hm hP N9 (by decide)).mono ?_; rintro e w2 ⟨v11, rfl, N11, hB2⟩; go_frame))
  go_ret
  exact ⟨_, rfl, N11, hB1.trans (hB2.mono hB1.size)⟩
set_option maxRecDepth 100000 in
set_option maxHeartbeats 2000000 in
theorem rSub_num {b : Bool} {m : Nat} (hm : Modu m) (hP : PrimeIs b m) {va vb : Value} {na nb : Nat} {w : World} (ha : Num w va na 16) (hb : Num w vb nb 16) (hnb : nb < m) :
    Calls Tryd.prog 24 #[va, vb, .bool b] w (NumTPost w ((na + m - nb) % m)) := by
  have Hle := Lib.hid (show nb ≤ na + m by omega)
  clear hnb
  go_enter Tryd.func24, Tryd.ntmps24
  go_wp2_with (first
    | (go_at_call 18; refine (hP _).mono ?_; rintro e w1 ⟨v9, rfl, N9, hB1⟩; go_frame)
    | (go_at_call 40; refine (dAdd_num (ha.below hB1) N9 (by decide) (by decide)).mono ?_; rintro e w2 ⟨v10, rfl, N10, hB2⟩; go_frame)
    | (go_at_call 41; refine (dSub_num N10 ((hb.below hB1).below hB2) (by decide) Hle.out).mono ?_; rintro e w3 ⟨v12, rfl, N12, hB3⟩; go_frame)
    | (go_at_call 31; refine (rMod_num hm hP N12 (by decide)).mono ?_; rintro e w4 ⟨v14, rfl, N14, hB4⟩; go_frame))
  go_ret
  have h1 := hB1.trans (hB2.mono hB1.size)
  have h2 := h1.trans (hB3.mono h1.size)
  exact ⟨_, rfl, N14, h2.trans (hB4.mono h2.size)⟩
set_option maxRecDepth 100000 in
set_option maxHeartbeats 2000000 in
theorem rOf_num {b : Bool} {m : Nat} (hm : Modu m) (hP : PrimeIs b m) (a : Nat) (ma : a < M256) (w : World) :
    Calls Tryd.prog 20 #[WV a, .bool b] w (NumTPost w (a % m)) := by
  have hM0 := mem_nil w
  unfold WV
  go_enter Tryd.func20, Tryd.ntmps20
  go_wp2_with (first
    | ((with_reducible change wpList _ _ _ (Oper.mk (some 2) _ _ _ _ _ :: _) _ _); refine mBox hM0 _ _ rfl rfl rfl ?_; intro w1 hM1; clear hM0; go_frame)
    | ((with_reducible change wpList _ _ _ (Oper.mk (some 5) _ _ _ _ _ :: _) _ _); refine mLoad hM1 0 _ _ _ rfl rfl rfl rfl ?_; go_frame)
    | (go_at_call 29; refine (dOf_num a ma _).mono ?_; rintro e w2 ⟨v6, rfl, N6, hB2⟩; go_frame)
    | (go_at_call 31; refine (rMod_num hm hP N6 (by decide)).mono ?_; rintro e w3 ⟨v8, rfl, N8, hB3⟩; go_frame))
  go_ret
  have h1 := hM1.below.trans (hB2.mono hM1.below.size)
  exact ⟨_, rfl, N8, h1.trans (hB3.mono h1.size)⟩

/-! ### Pow -/
theorem pow_bit1 {a n t m x y : Nat} (hx : x = a ^ (n % 2 ^ t) % m) (hy : y = a ^ 2 ^ t % m) (hb : n / 2 ^ t % 2 = 1) : x * y % m = a ^ (n % 2 ^ (t + 1)) % m := by
  have e : n % 2 ^ (t + 1) = n % 2 ^ t + 2 ^ t := by rw [Nat.pow_succ, Nat.mod_mul, hb, Nat.mul_one]
  rw [e, Nat.pow_add, hx, hy, ← Nat.mul_mod]
theorem pow_bit0 {a n t m : Nat} (hb : n / 2 ^ t % 2 = 0) : a ^ (n % 2 ^ t) % m = a ^ (n % 2 ^ (t + 1)) % m := by
  rw [Nat.pow_succ, Nat.mod_mul, hb, Nat.mul_zero, Nat.add_zero]
theorem pow_square {a t m y : Nat} (hy : y = a ^ 2 ^ t % m) : y * y % m = a ^ 2 ^ (t + 1) % m := by
  rw [hy, ← Nat.mul_mod, ← Nat.pow_add, Nat.pow_succ, Nat.mul_two]
theorem digit_bit {l : List Nat} (dl : Digs l) (j k : Nat) (hk : k < 16) : dat l j / 2 ^ k % 2 = dval l / 2 ^ (16 * j + k) % 2 := by
  rw [dat_num dl j, P16_pow]
  have e : (65536 : Nat) = 2 ^ k * (2 * 2 ^ (15 - k)) := by rw [← Nat.pow_succ', ← Nat.pow_add, show k + (15 - k).succ = 16 by omega]
  rw [e, Nat.mod_mul_right_div_self, Nat.mod_mul_right_mod, Nat.div_div_eq_div_mul, ← Nat.pow_add]
theorem tmod_bit {x k : Nat} {b : Nat} (h : x / 2 ^ k % 2 = b) : ((x : Int) / 2 ^ k).tmod 2 = (b : Int) := by
  have e : ((x : Int) / 2 ^ k) = ((x / 2 ^ k : Nat) : Int) := by push_cast; rfl
  rw [e, ← h]
  generalize x / 2 ^ k = y
  rw [Int.tmod_eq_emod_of_nonneg (by omega)]; push_cast; rfl
theorem pow_val {a n m t x : Nat} (hm : Modu m) (h : x = a ^ (n % 2 ^ t) % m) : x < P16 16 := by rw [h]; exact mod_lt16 hm _
theorem sq_val {a m t x : Nat} (hm : Modu m) (h : x = a ^ 2 ^ t % m) : x < P16 16 := by rw [h]; exact mod_lt16 hm _

set_option maxRecDepth 100000 in
set_option maxHeartbeats 8000000 in
theorem rPow_num {b : Bool} {m : Nat} (hm : Modu m) (hP : PrimeIs b m) {va vn : Value} {na n : Nat} {w : World} (ha : Num w va na 16) (hn : Num w vn n 16) :
    Calls Tryd.prog 33 #[va, vn, .bool b] w (NumTPost w (na ^ n % m)) := by
  obtain ⟨ix, hix, hzx, hsx, hbx⟩ := w64Info
  obtain ⟨l, dl, hv, hval, hl⟩ := hn
  have Hval := Lib.hid hval
  clear hval
  have hml : (l.map VU).length = l.length := by simp
  go_enter Tryd.func33, Tryd.ntmps33
  go_wp2_with (first
    | ((with_reducible change wpList _ _ _ (Oper.mk (some 12) _ _ _ _ _ :: _) _ _); refine kBuildSlice1 _ _ _ (VU 1) rfl rfl Tryd.underlying35 ix _ hix hzx hsx rfl rfl ?_; intro w1 hR1 hz1 hB1; clear hz1; go_frame)
    | (go_at_call 31; refine (rMod_num hm hP (ha.below hB1) (by decide)).mono ?_; rintro e w2 ⟨v15, rfl, N15, hB2⟩; go_frame)
    | ((with_reducible change wpList _ _ _ (Oper.mk (some 17) _ _ _ _ _ :: _) _ _); refine kLenN _ _ _ _ _ l.length rfl rfl rfl ((hv.below hB1).below hB2) hml Tryd.underlying35 ?_; go_frame))
  have h2m : 1 < m := by have := hm.gt; have : 4 < M256 := by decide
                         omega
  have N1 : NumT w2 (.slice (some ⟨w.heap.size, 0, none⟩) 1 1) 1 := NumT.below ⟨[1], digs_one (by decide), isVals_lit (l := [VU 1]) hR1, rfl, .inr (by decide)⟩ hB2
  have hv2 := (hv.below hB1).below hB2
  have hB02 : Below w.heap.size w w2 := hB1.trans (hB2.mono hB1.size)
  clear hR1 hv ha hB1 hB2
  go_loopw [18, 7, 8] (fun i o s wr => ∃ (j x y : Nat), j ≤ l.length ∧ i = .int .i64 (j : Int) ∧ NumT wr o x ∧ NumT wr s y ∧ Hid (x = na ^ (n % 2 ^ (16 * j)) % m) ∧ Hid (y = na ^ 2 ^ (16 * j) % m) ∧ Dig wr vn l ∧ Below w.heap.size w wr) (fun i _ _ _ => 17 - (intOf i).toNat)
  case atStart => exact ⟨0, 1, na % m, by omega, rfl, N1, N15, Lib.hid (by simp [Nat.mod_one, Nat.mod_eq_of_lt h2m]), Lib.hid (by simp), hv2, hB02⟩
  case round =>
    obtain ⟨j, x, y, hj, rfl, Nx, Ny, Hx, Hy, hvn, hB⟩ := hrel
    clear N1 N15 hv2 hB02
    by_cases hlt : j < l.length
    · have hd : decide ((j : Int) < (l.length : Int)) = true := decide_eq_true (by omega)
      go_wp2_with (first
        | ((with_reducible change wpList _ _ _ (Oper.mk (some 20) _ _ _ _ _ :: _) _ _); refine kIndexAddrV _ _ _ _ _ _ _ _ j _ rfl rfl rfl hvn rfl Tryd.underlying35 info_w64 rfl (dig_at hlt) ?_; intro ba hba; unfold VU at hba; go_frame)
        | ((with_reducible change wpList _ _ _ (Oper.mk (some 21) _ _ _ _ _ :: _) _ _); refine kLoadCell _ _ _ _ _ rfl rfl rfl hba Tryd.underlying23 rfl ?_; go_frame))
      clear hba
      obtain ⟨wo, hwo⟩ : ∃ wo : World, wo = wr := ⟨_, rfl⟩
      subst hwo
      go_loopw [11, 7, 8] (fun kk o s wq => ∃ (k x y : Nat), k ≤ 16 ∧ kk = .int .i64 (k : Int) ∧ NumT wq o x ∧ NumT wq s y ∧ Hid (x = na ^ (n % 2 ^ (16 * j + k)) % m) ∧ Hid (y = na ^ 2 ^ (16 * j + k) % m) ∧ Dig wq vn l ∧ Below w.heap.size w wq) (fun kk _ _ _ => 17 - (intOf kk).toNat)
      case atStart => exact ⟨0, x, y, by omega, rfl, Nx, Ny, Hx, Hy, hvn, hB⟩
      case round =>
        clear Nx Ny Hx Hy hvn hB
        obtain ⟨k, x, y, hk, rfl, Nx, Ny, Hx, Hy, hvn, hB⟩ := hrel
        by_cases hk16 : k < 16
        · have hd2 : decide ((k : Int) < 16) = true := decide_eq_true (by omega)
          have hdb := digit_bit dl j k hk16
          rw [Hval.out] at hdb
          have Hs := Lib.hid (pow_square Hy.out)
          by_cases hbit : n / 2 ^ (16 * j + k) % 2 = 1
          · have hb : ((dat l j : Int) / 2 ^ k).tmod 2 = 1 := tmod_bit (by rw [hdb, hbit])
            have H1 := Lib.hid (pow_bit1 Hx.out Hy.out hbit)
            clear hbit hdb
            go_wp2_with (first
              | (go_at_call 26; (with_reducible change Calls _ _ #[u7, u8, Value.bool b] _ _); refine (rMul_num hm hP (Nx.num (pow_val hm Hx.out)) (Ny.num (sq_val hm Hy.out))).mono ?_; rintro e w5 ⟨v35, rfl, N35, hB5⟩; go_frame)
              | (go_at_call 26; (with_reducible change Calls _ _ #[u8, u8, Value.bool b] _ _); refine (rMul_num hm hP ((Ny.num (sq_val hm Hy.out)).below hB5) ((Ny.num (sq_val hm Hy.out)).below hB5)).mono ?_; rintro e w6 ⟨v39, rfl, N39, hB6⟩; go_frame))
            have hB56 := hB5.trans (hB6.mono hB5.size)
            go_roundw
            case rel => exact ⟨k + 1, _, _, by omega, by go_num, N35.below hB6, N39, H1, Hs, hvn.below hB56, hB.trans (hB56.mono hB.size)⟩
            case measure => simp [intOf]; omega
          · have hbit0 : n / 2 ^ (16 * j + k) % 2 = 0 := by omega
            have hb : ((dat l j : Int) / 2 ^ k).tmod 2 = 0 := tmod_bit (by rw [hdb, hbit0])
            have H1 := Lib.hid (Hx.out.trans (pow_bit0 hbit0))
            clear hbit hbit0 hdb
            go_wp2_with (first
              | (go_at_call 26; (with_reducible change Calls _ _ #[u8, u8, Value.bool b] _ _); refine (rMul_num hm hP (Ny.num (sq_val hm Hy.out)) (Ny.num (sq_val hm Hy.out))).mono ?_; rintro e w6 ⟨v39, rfl, N39, hB6⟩; go_frame))
            go_roundw
            case rel => exact ⟨k + 1, _, _, by omega, by go_num, Nx.below hB6, N39, H1, Hs, hvn.below hB6, hB.trans (hB6.mono hB.size)⟩
            case measure => simp [intOf]; omega
        · obtain rfl : k = 16 := by omega
          rw [show 16 * j + 16 = 16 * (j + 1) by omega] at Hx Hy
          go_wp2
          go_roundw
          case rel => exact ⟨j + 1, _, _, by omega, by go_num, Nx, Ny, Hx, Hy, hvn, hB⟩
          case measure => simp [intOf]; omega
    · obtain rfl : j = l.length := by omega
      have hd : decide ((l.length : Int) < (l.length : Int)) = false := decide_eq_false (by omega)
      have HE := Lib.hid (show x = na ^ n % m by
        have e : n % 2 ^ (16 * l.length) = n := Nat.mod_eq_of_lt (by rw [← Hval.out, ← P16_pow]; exact dval_lt dl)
        rw [Hx.out, e])
      go_wp2
      go_ret
      exact ⟨_, rfl, HE.out ▸ Nx, hB⟩
set_option maxRecDepth 100000 in
set_option maxHeartbeats 2000000 in
theorem rInv_num {b : Bool} {m : Nat} (hm : Modu m) (hP : PrimeIs b m) {va : Value} {na : Nat} {w : World} (ha : Num w va na 16) :
    Calls Tryd.prog 34 #[va, .bool b] w (NumTPost w (na ^ (m - 2) % m)) := by
  obtain ⟨ix, hix, hzx, hsx, hbx⟩ := w64Info
  have H2 := Lib.hid (show 2 ≤ m by have := hm.gt; have : 4 < M256 := by decide
                                    omega)
  go_enter Tryd.func34, Tryd.ntmps34
  go_wp2_with (first
    | (go_at_call 18; refine (hP _).mono ?_; rintro e w1 ⟨v7, rfl, N7, hB1⟩; go_frame)
    | ((with_reducible change wpList _ _ _ (Oper.mk (some 8) _ _ _ _ _ :: _) _ _); refine kBuildSlice1 _ _ _ (VU 2) rfl rfl Tryd.underlying35 ix _ hix hzx hsx rfl rfl ?_; intro w2 hR2 hz2 hB2; clear hz2; have N8 : Num w2 (.slice (some ⟨w1.heap.size, 0, none⟩) 1 1) 2 1 := ⟨[2], digs_one (by decide), isVals_lit (l := [VU 2]) hR2, rfl, by decide⟩; go_frame)
    | (go_at_call 41; refine (dSub_num (N7.below hB2) N8 (by decide) H2.out).mono ?_; rintro e w3 ⟨v9, rfl, N9, hB3⟩; go_frame)
    | (go_at_call 33; refine (rPow_num hm hP (((ha.below hB1).below hB2).below hB3) N9).mono ?_; rintro e w4 ⟨v11, rfl, N11, hB4⟩; go_frame))
  go_ret
  have h1 := hB1.trans (hB2.mono hB1.size)
  have h2 := h1.trans (hB3.mono h1.size)
  exact ⟨_, rfl, N11, h2.trans (hB4.mono h2.size)⟩
end Go.Proofs.YtajpdmcbdekpbaaDoor
