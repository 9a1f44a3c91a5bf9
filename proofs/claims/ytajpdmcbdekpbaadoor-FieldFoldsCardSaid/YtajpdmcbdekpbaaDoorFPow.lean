/-
  The walk of field's Pow: a number to any power.
-/
import Derived.Test.YtajpdmcbdekpbaaDoorFAdd
import Derived.Deep.LoopGhost
namespace Go.Proofs.YtajpdmcbdekpbaaDoor
open Go Go.RowKit

theorem fMul_as {m a b x : Nat} (hm : Modu m) (g : Nat) (ma : a < M256) (mb : b < M256) (h : a * b % m = x) (w : World) (hr : Row w g 54 (wcells m)) :
    Calls Tryd.prog 25 #[.pointer (some ⟨g, 0, none⟩), WV a, WV b] w fun e w' => e = .returned (WV x) ∧ Below w.heap.size w w' := by
  have h' := fMul_any hm a b g ma mb w hr
  rwa [h] at h'
theorem limb_shr1 (n N : Nat) : limb n (N / 64) / 2 ^ (N % 64) % 2 = n / 2 ^ N % 2 := by
  unfold limb P64
  rw [show (18446744073709551616 : Nat) = 2 ^ 64 by decide, ← Nat.pow_mul]
  generalize hx : n / 2 ^ (64 * (N / 64)) = x
  have e1 : x % 2 ^ 64 / 2 ^ (N % 64) % 2 = x / 2 ^ (N % 64) % 2 := by
    have hr : N % 64 < 64 := Nat.mod_lt _ (by decide)
    generalize N % 64 = r at hr
    have e2 : (2 : Nat) ^ 64 = 2 ^ r * (2 * 2 ^ (63 - r)) := by rw [← Nat.pow_succ', ← Nat.pow_add]; congr 1; omega
    rw [e2, Nat.mod_mul_right_div_self, Nat.mod_mul_right_mod]
  rw [e1, ← hx, Nat.div_div_eq_div_mul, ← Nat.pow_add, Nat.div_add_mod]
theorem bit_and (n N : Nat) (b : Nat) (h : n / 2 ^ N % 2 = b) : bits BinOp.and IntKind.u64 ((limb n (N / 64) : Int) / 2 ^ (N % 64)) 1 = (b : Int) := by
  have e : ((limb n (N / 64) : Int) / 2 ^ (N % 64)) = ((limb n (N / 64) / 2 ^ (N % 64) : Nat) : Int) := by push_cast; rfl
  have hl := limb_lt n (N / 64)
  have hd : limb n (N / 64) / 2 ^ (N % 64) ≤ limb n (N / 64) := Nat.div_le_self _ _
  rw [← h, ← limb_shr1, e]
  generalize limb n (N / 64) / 2 ^ (N % 64) = x at hd
  rw [and_one_u64 _ (by omega) (by omega)]
  push_cast; rfl
/-- the power's next round -/
theorem pow_even {a n k m p : Nat} (h : p % m = a ^ (n / 2 ^ (k + 1)) % m) (hb : n / 2 ^ k % 2 = 0) : p * p % m = a ^ (n / 2 ^ k) % m := by
  have e : n / 2 ^ k = n / 2 ^ (k + 1) + n / 2 ^ (k + 1) := by rw [Nat.pow_succ, ← Nat.div_div_eq_div_mul]; omega
  rw [e, Nat.pow_add, Nat.mul_mod, h, ← Nat.mul_mod]
theorem pow_odd {a n k m p q : Nat} (h : p % m = a ^ (n / 2 ^ (k + 1)) % m) (hq : p * p % m = q) (hb : n / 2 ^ k % 2 = 1) : q * a % m = a ^ (n / 2 ^ k) % m := by
  have e : n / 2 ^ k = n / 2 ^ (k + 1) + n / 2 ^ (k + 1) + 1 := by rw [Nat.pow_succ, ← Nat.div_div_eq_div_mul]; omega
  rw [e, Nat.pow_succ, Nat.pow_add, ← hq, Nat.mod_mul_mod, Nat.mul_mod (p * p) a, Nat.mul_mod p p, h, ← Nat.mul_mod (a ^ _) (a ^ _), ← Nat.mul_mod]
set_option maxRecDepth 100000 in
set_option maxHeartbeats 4000000 in
theorem fPow_any {m : Nat} (hm : Modu m) (a : Nat) (n : Nat) (g : Nat) (ma : a < M256) (mn : n < M256) (w : World) (hr : Row w g 54 (wcells m)) :
    Calls Tryd.prog 32 #[.pointer (some ⟨g, 0, none⟩), WV a, WV n] w fun e w' => e = .returned (WV (a ^ n % m)) ∧ Below w.heap.size w w' := by
  obtain ⟨n1, H1⟩ : ∃ n, Hid (n = 1) := ⟨1, Lib.hid rfl⟩
  have h1 : n1 < 18446744073709551616 := by rw [H1.out]; decide
  have mn1 : n1 < M256 := by rw [H1.out]; decide
  have E1 : (1 : Int) = (n1 : Int) := by rw [H1.out]; rfl
  replace E1 := Lib.hid E1
  have hbl : blen n ≤ 256 := (blen_le n 256).2 mn
  have hM0 := mem_nil w
  unfold WV
  go_enter Tryd.func32, Tryd.ntmps32
  go_wp2_with (first
    | ((with_reducible change wpList _ _ _ (Oper.mk (some 4) _ _ _ _ _ :: _) _ _); refine mBox hM0 _ _ rfl rfl rfl ?_; intro w1 hM1; clear hM0; go_frame)
    | ((with_reducible change wpList _ _ _ (Oper.mk (some 5) _ _ _ _ _ :: _) _ _); refine mBox hM1 _ _ rfl rfl rfl ?_; intro w2 hM2; clear hM1; go_frame)
    | ((with_reducible change wpList _ _ _ (Oper.mk (some 6) _ _ _ _ _ :: _) _ _); refine mAlloc hM2 rfl rfl ?_; intro w3 hM3; clear hM2; go_frame)
    | (go_at_call 16; (with_reducible change Calls _ _ #[Value.int .u64 (1)] _ _); refine (wOf_lit n1 1 h1 E1.out _).mono ?_; rintro e w4 ⟨rfl, hB4⟩; have hM4 := hM3.on hB4; clear hB4 hM3; (try unfold WV); go_frame)
    | ((with_reducible change wpList _ _ _ (Oper.mk (some 7) _ _ _ _ _ :: _) _ _); refine mAlloc hM4 rfl rfl ?_; intro w5 hM5; clear hM4; go_frame)
    | ((with_reducible change wpList _ _ _ (Oper.mk none (Op.store _ (Operand.tmp 7) (Operand.tmp 9)) _ _ _ _ :: _) _ _); refine mStoreAt hM5 0 _ _ _ _ (n1) rfl rfl rfl rfl rfl ?_; intro w6 hM6; dsimp only [List.set] at hM6; clear hM5; go_frame)
    | ((with_reducible change wpList _ _ _ (Oper.mk (some 10) _ _ _ _ _ :: _) _ _); refine mLoad hM6 2 _ _ _ rfl rfl rfl rfl ?_; go_frame)
    | (go_at_call 48; (with_reducible change Calls _ _ #[Value.agg (wcells n)] _ _); refine (wBits_any n mn _).mono ?_; rintro e w7 ⟨rfl, hB7⟩; have hM7 := hM6.on hB7; clear hB7 hM6; (try unfold WV); go_frame))
  have hm1 : n1 < m := by rw [H1.out]; have := hm.gt; have : 2 < M256 := by decide
                          omega
  go_loopw [8] (fun i wr => ∃ (z : Int) (p : Nat), i = .int .i64 z ∧ -1 ≤ z ∧ z ≤ 255 ∧ p < m ∧ Hid (p % m = a ^ (n / 2 ^ (z + 1).toNat) % m) ∧ Mem w wr [(w4.heap.size, p), (w2.heap.size, 0), (w1.heap.size, n), (w.heap.size, a)]) (fun i _ => (intOf i + 1).toNat)
  case atStart => exact ⟨_, n1, rfl, by omega, by omega, hm1, Lib.hid (by rw [show ((blen n : Int) - 1 + 1).toNat = blen n by omega, Nat.div_eq_of_lt (blen_lt n), H1.out, Nat.pow_zero]), hM7⟩
  case round =>
    obtain ⟨z, p, rfl, hz1, hz2, hp, HI, hM0⟩ := hrel
    clear hM7
    have mp : p < M256 := Nat.lt_trans hp hm.lt
    by_cases hz : 0 ≤ z
    · obtain ⟨N, rfl⟩ := Int.eq_ofNat_of_zero_le hz
      have hd : decide ((N : Int) ≥ 0) = true := by simp
      have hI := HI.out
      rw [show ((N : Int) + 1).toNat = N + 1 by omega] at hI
      obtain ⟨q, Hq⟩ : ∃ q, Hid (p * p % m = q) := ⟨_, Lib.hid rfl⟩
      have hq : q < m := by rw [← Hq.out]; exact Nat.mod_lt _ hm.pos
      have mq : q < M256 := Nat.lt_trans hq hm.lt
      have Hbit := Lib.hid (show limb n (N / 64) / 2 ^ (N % 64) % 2 = n / 2 ^ N % 2 from limb_shr1 n N)
      by_cases hbit : n / 2 ^ N % 2 = 1
      · have hb : bits BinOp.and IntKind.u64 ((limb n (N / 64) : Int) / 2 ^ (N % 64)) 1 = 1 := bit_and n N 1 hbit
        obtain ⟨r, Hr⟩ : ∃ r, Hid (q * a % m = r) := ⟨_, Lib.hid rfl⟩
        have hr' : r < m := by rw [← Hr.out]; exact Nat.mod_lt _ hm.pos
        have mr : r < M256 := Nat.lt_trans hr' hm.lt
        have HN := Lib.hid (pow_odd hI Hq.out hbit)
        rw [Hr.out] at HN
        clear hbit hI HI
        go_wp2_with (first
          | ((with_reducible change wpList _ _ _ (Oper.mk (some 18) _ _ _ _ _ :: _) _ _); refine mLoad hM0 0 _ _ _ rfl rfl rfl rfl ?_; go_frame)
          | ((with_reducible change wpList _ _ _ (Oper.mk (some 19) _ _ _ _ _ :: _) _ _); refine mLoad hM0 0 _ _ _ rfl rfl rfl rfl ?_; go_frame)
          | (go_at_call 25; (with_reducible change Calls _ _ #[Value.pointer (some ⟨g, 0, none⟩), Value.agg (wcells p), Value.agg (wcells p)] _ _); refine (fMul_as hm g mp mp Hq.out _ (hr.below hM0.below hr.lt)).mono ?_; rintro e w101 ⟨rfl, hB101⟩; have hM101 := hM0.on hB101; clear hB101 hM0; (try unfold WV); go_frame)
          | ((with_reducible change wpList _ _ _ (Oper.mk none (Op.store _ (Operand.tmp 7) (Operand.tmp 20)) _ _ _ _ :: _) _ _); refine mStoreAt hM101 0 _ _ _ _ (q) rfl rfl rfl rfl rfl ?_; intro w102 hM102; dsimp only [List.set] at hM102; clear hM101; go_frame)
          | ((with_reducible change wpList _ _ _ (Oper.mk (some 23) _ _ _ _ _ :: _) _ _); refine kIndexAddr1 _ _ _ _ _ _ _ (N / 64) _ rfl rfl rfl rfl Tryd.underlying25 info_w64 (by omega) (by omega) ?_; go_frame)
          | ((with_reducible change wpList _ _ _ (Oper.mk (some 24) _ _ _ _ _ :: _) _ _); refine kLoad1 _ _ _ _ _ _ _ _ rfl rfl rfl (hM102.get 2 rfl) Tryd.underlying23 rfl (wcells_get n (N / 64) (by omega)) ?_; go_frame)
          | ((with_reducible change wpList _ _ _ (Oper.mk (some 31) _ _ _ _ _ :: _) _ _); refine mLoad hM102 0 _ _ _ rfl rfl rfl rfl ?_; go_frame)
          | ((with_reducible change wpList _ _ _ (Oper.mk (some 32) _ _ _ _ _ :: _) _ _); refine mLoad hM102 3 _ _ _ rfl rfl rfl rfl ?_; go_frame)
          | (go_at_call 25; (with_reducible change Calls _ _ #[Value.pointer (some ⟨g, 0, none⟩), Value.agg (wcells q), Value.agg (wcells a)] _ _); refine (fMul_as hm g mq ma Hr.out _ (hr.below hM102.below hr.lt)).mono ?_; rintro e w103 ⟨rfl, hB103⟩; have hM103 := hM102.on hB103; clear hB103 hM102; (try unfold WV); go_frame)
          | ((with_reducible change wpList _ _ _ (Oper.mk none (Op.store _ (Operand.tmp 7) (Operand.tmp 33)) _ _ _ _ :: _) _ _); refine mStoreAt hM103 0 _ _ _ _ (r) rfl rfl rfl rfl rfl ?_; intro w104 hM104; dsimp only [List.set] at hM104; clear hM103; go_frame))
        go_roundw
        case rel => exact ⟨(N : Int) - 1, r, by go_num, by omega, by omega, hr', Lib.hid (by rw [show ((N : Int) - 1 + 1).toNat = N by omega, Nat.mod_eq_of_lt hr']; exact HN.out), hM104⟩
        case measure => simp [intOf]; try omega
      · have hb : bits BinOp.and IntKind.u64 ((limb n (N / 64) : Int) / 2 ^ (N % 64)) 1 = 0 := bit_and n N 0 (by omega)
        have HN := Lib.hid (pow_even hI (show n / 2 ^ N % 2 = 0 by omega))
        rw [Hq.out] at HN
        clear hbit hI HI
        go_wp2_with (first
          | ((with_reducible change wpList _ _ _ (Oper.mk (some 18) _ _ _ _ _ :: _) _ _); refine mLoad hM0 0 _ _ _ rfl rfl rfl rfl ?_; go_frame)
          | ((with_reducible change wpList _ _ _ (Oper.mk (some 19) _ _ _ _ _ :: _) _ _); refine mLoad hM0 0 _ _ _ rfl rfl rfl rfl ?_; go_frame)
          | (go_at_call 25; (with_reducible change Calls _ _ #[Value.pointer (some ⟨g, 0, none⟩), Value.agg (wcells p), Value.agg (wcells p)] _ _); refine (fMul_as hm g mp mp Hq.out _ (hr.below hM0.below hr.lt)).mono ?_; rintro e w101 ⟨rfl, hB101⟩; have hM101 := hM0.on hB101; clear hB101 hM0; (try unfold WV); go_frame)
          | ((with_reducible change wpList _ _ _ (Oper.mk none (Op.store _ (Operand.tmp 7) (Operand.tmp 20)) _ _ _ _ :: _) _ _); refine mStoreAt hM101 0 _ _ _ _ (q) rfl rfl rfl rfl rfl ?_; intro w102 hM102; dsimp only [List.set] at hM102; clear hM101; go_frame)
          | ((with_reducible change wpList _ _ _ (Oper.mk (some 23) _ _ _ _ _ :: _) _ _); refine kIndexAddr1 _ _ _ _ _ _ _ (N / 64) _ rfl rfl rfl rfl Tryd.underlying25 info_w64 (by omega) (by omega) ?_; go_frame)
          | ((with_reducible change wpList _ _ _ (Oper.mk (some 24) _ _ _ _ _ :: _) _ _); refine kLoad1 _ _ _ _ _ _ _ _ rfl rfl rfl (hM102.get 2 rfl) Tryd.underlying23 rfl (wcells_get n (N / 64) (by omega)) ?_; go_frame))
        go_roundw
        case rel => exact ⟨(N : Int) - 1, q, by go_num, by omega, by omega, hq, Lib.hid (by rw [show ((N : Int) - 1 + 1).toNat = N by omega, Nat.mod_eq_of_lt hq]; exact HN.out), hM102⟩
        case measure => simp [intOf]; try omega
    · have hd : decide (z ≥ 0) = false := by simp; omega
      have HE := Lib.hid (show wcells p = wcells (a ^ n % m) by have h := HI.out; rw [show (z + 1).toNat = 0 by omega, Nat.pow_zero, Nat.div_one, Nat.mod_eq_of_lt hp] at h; rw [h])
      go_wp2_with (first
        | ((with_reducible change wpList _ _ _ (Oper.mk (some 34) _ _ _ _ _ :: _) _ _); refine mLoad hM0 0 _ _ _ rfl rfl rfl rfl ?_; go_frame)
        | ((with_reducible change wpList _ _ _ (Oper.mk none (Op.store _ (Operand.tmp 6) (Operand.tmp 34)) _ _ _ _ :: _) _ _); refine mStoreAt hM0 1 _ _ _ _ (p) rfl rfl rfl rfl rfl ?_; intro w101 hM101; dsimp only [List.set] at hM101; clear hM0; go_frame))
      exact result_row Tryd.results32 rfl (hM101.get 1 rfl) Tryd.underlying25 rfl (info_WideC _) rfl ⟨by rw [HE.out], hM101.below⟩

end Go.Proofs.YtajpdmcbdekpbaaDoor
