/-
  Package curve: hasBit, Both, Times.
-/
import Derived.Test.YtfgffjmpjoipeaaDoorCvAdd
namespace Go.Proofs.YtfgffjmpjoipeaaDoor
open Go Go.RowKit

open Cv
def GlobPt (k : Nat) (q : Pt PP) (w : World) : Prop := GlobP k (pX q) (pY q) (pN q) w
theorem GlobPt.below {k : Nat} {q : Pt PP} {w w' : World} (h : GlobPt k q w) (hb : Below w.heap.size w w') : GlobPt k q w' := GlobP.below h hb
theorem pX_g : pX gPt = gX := (val_of (show gX < PP by decide) rfl).symm
theorem pY_g : pY gPt = gY := (val_of (show gY < PP by decide) rfl).symm
theorem globPt_g {w : World} (h : GlobP 0 gX gY false w) : GlobPt 0 gPt w := by unfold GlobPt; rw [pX_g, pY_g]; exact h
section
variable {ops : Array Oper} {Q : Exit → Act → World → Prop} {rest : List Oper} {o : Oper} {a : Act} {w : World}
theorem kLoadGPt (x : Operand) (k : Nat) (q : Pt PP) (ho : o.op = .load 30 x) (hg : Region.wanted o (yielded ops a.tmps) = true) (hx : a.eval x = .pointer (some ⟨k, 0, none⟩)) (hG : GlobPt k q w)
    (h : wpList Tryd.prog ops Q rest (a.put o.dst (.agg (ptc q))) w) : wpList Tryd.prog ops Q (o :: rest) a w :=
  kLoadGP x k _ _ _ ho hg hx hG (by rw [← ptc_eq]; exact h)
theorem kSubI (T T2 : TypeId) (x y : Operand) (m n z : Int) (ho : o.op = .binOp .sub T x y T2) (hg : Region.wanted o (yielded ops a.tmps) = true) (hx : a.eval x = .int .i64 m) (hy : a.eval y = .int .i64 n) (hz : m - n = z ∧ -9223372036854775808 ≤ z ∧ z < 9223372036854775808) (h : wpList Tryd.prog ops Q rest (a.put o.dst (.int .i64 z)) w) : wpList Tryd.prog ops Q (o :: rest) a w := by
  obtain ⟨rfl, h1, h2⟩ := hz
  refine kPure _ hg ?_ h
  unfold execOp
  simp only [ho, hx, hy]
  have e : IntKind.i64.wrap (m - n) = m - n := by rw [IntKind.wrap_i64]; omega
  simp [eqGuard, binOp, Op.intArith, e]
end
theorem bit_up {k N : Nat} {b : Bool} (h : decide (k / 2 ^ N % 2 = 1) = b) : k / 2 ^ N = 2 * (k / 2 ^ (N + 1)) + b.toNat := by
  have e : k / 2 ^ (N + 1) = k / 2 ^ N / 2 := by rw [Nat.pow_succ, Nat.div_div_eq_div_mul]
  rw [e, ← h]
  generalize k / 2 ^ N = x
  by_cases hx : x % 2 = 1
  · rw [decide_eq_true hx]; simp; omega
  · rw [decide_eq_false hx]; simp; omega
set_option maxRecDepth 100000 in
set_option maxHeartbeats 8000000 in
theorem hasBit_any {n N : Nat} {b : Bool} (_mn : n < M256) (hN : N < 256) (h : decide (n / 2 ^ N % 2 = 1) = b) (w : World) :
    Calls Tryd.prog 78 #[WV n, .int .i64 (N : Int)] w fun e w' => e = .returned (.bool b) ∧ Below w.heap.size w w' := by
  have Hbit := Lib.hid (show limb n (N / 64) / 2 ^ (N % 64) % 2 = n / 2 ^ N % 2 from limb_shr1 n N)
  by_cases hbit : n / 2 ^ N % 2 = 1
  · have hb : bits BinOp.and IntKind.u64 ((limb n (N / 64) : Int) / 2 ^ (N % 64)) 1 = 1 := bit_and n N 1 (by omega)
    have R := Lib.hid (show b = true by rw [← h]; exact decide_eq_true hbit)
    clear h hbit
    have hM0 := mm_nil w
    (try unfold WV)
    go_enter Tryd.func78, Tryd.ntmps78
    go_wp2_with (first
      | ((with_reducible change wpList _ _ _ (Oper.mk (some 2) _ _ _ _ _ :: _) _ _); refine mmBox hM0 _ _ (wcells n) rfl rfl rfl ?_; intro w1 hM1; clear hM0; go_frame)
      | ((with_reducible change wpList _ _ _ (Oper.mk (some 7) _ _ _ _ _ :: _) _ _); refine kIndexAddr1 _ _ _ _ _ _ _ (N / 64) _ rfl rfl rfl rfl Tryd.underlying24 info_w64 (by omega) (by omega) ?_; go_frame)
      | ((with_reducible change wpList _ _ _ (Oper.mk (some 8) _ _ _ _ _ :: _) _ _); refine kLoad1 _ _ _ _ _ _ _ _ rfl rfl rfl (hM1.get 0 rfl) Tryd.underlying22 rfl (wcells_get n (N / 64) (by omega)) ?_; go_frame))
    go_ret
    exact ⟨by rw [R.out] <;> rfl, hM1.below⟩
  skip
  · have hb : bits BinOp.and IntKind.u64 ((limb n (N / 64) : Int) / 2 ^ (N % 64)) 1 = 0 := bit_and n N 0 (by omega)
    have R := Lib.hid (show b = false by rw [← h]; exact decide_eq_false hbit)
    clear h hbit
    have hM0 := mm_nil w
    (try unfold WV)
    go_enter Tryd.func78, Tryd.ntmps78
    go_wp2_with (first
      | ((with_reducible change wpList _ _ _ (Oper.mk (some 2) _ _ _ _ _ :: _) _ _); refine mmBox hM0 _ _ (wcells n) rfl rfl rfl ?_; intro w1 hM1; clear hM0; go_frame)
      | ((with_reducible change wpList _ _ _ (Oper.mk (some 7) _ _ _ _ _ :: _) _ _); refine kIndexAddr1 _ _ _ _ _ _ _ (N / 64) _ rfl rfl rfl rfl Tryd.underlying24 info_w64 (by omega) (by omega) ?_; go_frame)
      | ((with_reducible change wpList _ _ _ (Oper.mk (some 8) _ _ _ _ _ :: _) _ _); refine kLoad1 _ _ _ _ _ _ _ _ rfl rfl rfl (hM1.get 0 rfl) Tryd.underlying22 rfl (wcells_get n (N / 64) (by omega)) ?_; go_frame))
    go_ret
    exact ⟨by rw [R.out] <;> rfl, hM1.below⟩
set_option maxRecDepth 100000 in
set_option maxHeartbeats 8000000 in
theorem cBoth_pt {k m : Nat} (mk : k < M256) (mm : m < M256) {p : Pt PP} (hp : p.On) (w : World) (hG : Glob 3 PP w) (hO : GlobP 2 0 0 true w) (hB : GlobPt 0 gPt w) :
    Calls Tryd.prog 51 #[WV k, WV m, .agg (ptc p)] w fun e w' => e = .returned (.agg (ptc (both ivP gPt p k m))) ∧ Below w.heap.size w w' := by
  have hbk : blen k ≤ 256 := (blen_le k 256).2 mk
  have hbm : blen m ≤ 256 := (blen_le m 256).2 mm
  obtain ⟨mx, Hmx⟩ : ∃ z, Hid ((if (blen m : Int) > (blen k : Int) then (blen m : Int) else (blen k : Int)) = z) := ⟨_, Lib.hid rfl⟩
  have hx1 : 0 ≤ mx ∧ mx ≤ 256 ∧ (blen k : Int) ≤ mx ∧ (blen m : Int) ≤ mx := by rw [← Hmx.out]; split <;> omega
  obtain ⟨hx1, hx2, hx3, hx4⟩ := hx1
  have Z : scells 0 0 0 = jc ⟨0, 0, 0⟩ := rfl
  have hM0 := mm_nil w
  (try unfold WV)
  go_enter Tryd.func51, Tryd.ntmps51
  go_wp2_with (first
    | ((with_reducible change wpList _ _ _ (Oper.mk (some 3) _ _ _ _ _ :: _) _ _); refine mmBox hM0 _ _ (wcells k) rfl rfl rfl ?_; intro w1 hM1; clear hM0; go_frame)
    | ((with_reducible change wpList _ _ _ (Oper.mk (some 4) _ _ _ _ _ :: _) _ _); refine mmBox hM1 _ _ (wcells m) rfl rfl rfl ?_; intro w2 hM2; clear hM1; go_frame)
    | ((with_reducible change wpList _ _ _ (Oper.mk (some 5) _ _ _ _ _ :: _) _ _); refine mmBox hM2 _ _ (ptc p) rfl rfl rfl ?_; intro w3 hM3; clear hM2; go_frame)
    | ((with_reducible change wpList _ _ _ (Oper.mk (some 6) _ _ _ _ _ :: _) _ _); refine mmAlloc hM3 _ _ rfl rfl zero_Point ?_; intro w4 hM4; clear hM3; go_frame)
    | ((with_reducible change wpList _ _ _ (Oper.mk (some 7) _ _ _ _ _ :: _) _ _); refine mmAlloc hM4 _ _ rfl rfl zero_scaled ?_; intro w5 hM5; clear hM4; go_frame))
  refine region_symT 7 _ [] [] [.val (.agg (wcells k)), .val (.int .i64 ((blen k : Int))), .val (.agg (wcells m)), .val (.int .i64 ((blen m : Int))), .val (.int .i64 (mx)), .val (.int .i64 (mx - 1)), .val (.int .i64 (mx - 1))] rfl (by kernel_rfl) (by kernel_rfl) (by kernel_rfl) (by kernel_rfl) rfl (by intro s hs; cases hs) (steps_all ⟨?_, ?_, ?_, ?_, ?_, ?_, ?_, trivial⟩) ?_
  · exact fun A W sz ot hbel ap dp => kLoadRow _ _ _ _ _ _ rfl rfl (sO ot 3) ((hM5.get 4 rfl).on hbel) Tryd.underlying24 rfl (info_WideC _) (sE ap sz rfl)
  · exact fun A W sz ot hbel ap dp => sCall1 76 rfl (sD dp 0 .data) (sC (wBits_any k mk W) ap sz (fun _ => rfl))
  · exact fun A W sz ot hbel ap dp => kLoadRow _ _ _ _ _ _ rfl rfl (sO ot 4) ((hM5.get 3 rfl).on hbel) Tryd.underlying24 rfl (info_WideC _) (sE ap sz rfl)
  · exact fun A W sz ot hbel ap dp => sCall1 76 rfl (sD dp 2 .data) (sC (wBits_any m mm W) ap sz (fun _ => rfl))
  · exact fun A W sz ot hbel ap dp => kMax2 _ _ _ .i64 .i64 (blen k : Int) (blen m : Int) mx rfl rfl (sD dp 1 .data) (sD dp 3 .data) Hmx.out (sE ap sz rfl)
  · exact fun A W sz ot hbel ap dp => kSubI _ _ _ _ mx 1 (mx - 1) rfl rfl (sD dp 4 .data) rfl ⟨rfl, by omega, by omega⟩ (sE ap sz rfl)
  · exact fun A W sz ot hbel ap dp => kAssignV _ _ rfl rfl (sD dp 5 .data) (sE ap sz rfl)
  intro w6 hB6
  dsimp only [AllV]
  intro hap
  dsimp only [putAll, List.take, List.drop]
  go_frame
  have hM6 := hM5.on hB6
  clear hB6 hM5 hap
  go_wp2_with fail
  rw [Z] at hM6
  go_loopw [8] (fun i wr => ∃ (z : Int) (a : Jac PP), i = .int .i64 z ∧ -1 ≤ z ∧ z ≤ 255 ∧ Hid (JRep a (both ivP gPt p (k / 2 ^ (z + 1).toNat) (m / 2 ^ (z + 1).toNat))) ∧ Mm w wr [(w4.heap.size, 100, jc a), (w3.heap.size, 30, pcells 0 0 false), (w2.heap.size, 30, ptc p), (w1.heap.size, 24, wcells m), (w.heap.size, 24, wcells k)]) (fun i _ => (intOf i + 1).toNat)
  case atStart =>
    refine ⟨_, ⟨0, 0, 0⟩, rfl, by omega, by omega, Lib.hid ?_, hM6⟩
    have e1 : k / 2 ^ (mx - 1 + 1).toNat = 0 := Nat.div_eq_of_lt (Nat.lt_of_lt_of_le (blen_lt k) (Nat.pow_le_pow_right (by decide) (by omega)))
    have e2 : m / 2 ^ (mx - 1 + 1).toNat = 0 := Nat.div_eq_of_lt (Nat.lt_of_lt_of_le (blen_lt m) (Nat.pow_le_pow_right (by decide) (by omega)))
    rw [e1, e2]; rfl
  case round =>
    obtain ⟨z, a, rfl, hz1, hz2, HI, hM0⟩ := hrel
    clear hM6
    by_cases hz : 0 ≤ z
    · obtain ⟨N, rfl⟩ := Int.eq_ofNat_of_zero_le hz
      have hN : N < 256 := by omega
      have hd : decide ((N : Int) ≥ 0) = true := by simp
      have hI := HI.out
      rw [show ((N : Int) + 1).toNat = N + 1 by omega] at hI
      clear HI
      obtain ⟨b, Hb⟩ : ∃ b, Hid (decide (k / 2 ^ N % 2 = 1) = b) := ⟨_, Lib.hid rfl⟩
      obtain ⟨c, Hc⟩ : ∃ b, Hid (decide (m / 2 ^ N % 2 = 1) = b) := ⟨_, Lib.hid rfl⟩
      have HN := goodP.two_step gPt_on hp hI b c
      rw [← bit_up Hb.out, ← bit_up Hc.out] at HN
      clear hI
      cases b with
      | true =>
        cases c with
        | true =>
          replace HN : JRep ((a.twice.plus gPt).plus p) (both ivP gPt p (k / 2 ^ N) (m / 2 ^ N)) := HN
          replace HN := Lib.hid HN
          go_wp2_with (first
            | ((with_reducible change wpList _ _ _ (Oper.mk (some 19) _ _ _ _ _ :: _) _ _); refine kLoadRow _ _ _ _ _ _ rfl rfl rfl (hM0.get 0 rfl) Tryd.underlying100 rfl (info_jc _) ?_; go_frame)
            | (go_at_call 77; (with_reducible change Calls _ _ #[Value.agg (jc a)] _ _); refine (twice_as rfl a _ (hG.below hM0.below)).mono ?_; rintro e w101 ⟨rfl, hB101⟩; have hM101 := hM0.on hB101; clear hB101 hM0; (try unfold WV); go_frame)
            | ((with_reducible change wpList _ _ _ (Oper.mk none (Op.store _ (Operand.tmp 7) (Operand.tmp 20)) _ _ _ _ :: _) _ _); refine mmStoreAt hM101 0 _ _ _ _ _ _ (jc a.twice) rfl rfl rfl rfl rfl (info_jc _) (by simp only [jc_size]) (jc_one _) ?_; intro w102 hM102; dsimp only [List.set] at hM102; clear hM101; go_frame)
            | ((with_reducible change wpList _ _ _ (Oper.mk (some 21) _ _ _ _ _ :: _) _ _); refine kLoadRow _ _ _ _ _ _ rfl rfl rfl (hM102.get 4 rfl) Tryd.underlying24 rfl (info_WideC _) ?_; go_frame)
            | (go_at_call 78; (with_reducible change Calls _ _ #[Value.agg (wcells k), Value.int .i64 ((N : Int))] _ _); refine (hasBit_any mk hN Hb.out _).mono ?_; rintro e w103 ⟨rfl, hB103⟩; have hM103 := hM102.on hB103; clear hB103 hM102; (try unfold WV); go_frame)
            | ((with_reducible change wpList _ _ _ (Oper.mk (some 24) _ _ _ _ _ :: _) _ _); refine kLoadRow _ _ _ _ _ _ rfl rfl rfl (hM103.get 0 rfl) Tryd.underlying100 rfl (info_jc _) ?_; go_frame)
            | ((with_reducible change wpList _ _ _ (Oper.mk (some 25) _ _ _ _ _ :: _) _ _); refine kLoadGPt _ _ _ rfl rfl rfl (hB.below hM103.below) ?_; go_frame)
            | (go_at_call 79; (with_reducible change Calls _ _ #[Value.agg (jc a.twice), Value.agg (ptc gPt)] _ _); refine (plus_as a.twice gPt _ (hG.below hM103.below) (hO.below hM103.below)).mono ?_; rintro e w104 ⟨rfl, hB104⟩; have hM104 := hM103.on hB104; clear hB104 hM103; (try unfold WV); go_frame)
            | ((with_reducible change wpList _ _ _ (Oper.mk none (Op.store _ (Operand.tmp 7) (Operand.tmp 26)) _ _ _ _ :: _) _ _); refine mmStoreAt hM104 0 _ _ _ _ _ _ (jc (a.twice.plus gPt)) rfl rfl rfl rfl rfl (info_jc _) (by simp only [jc_size]) (jc_one _) ?_; intro w105 hM105; dsimp only [List.set] at hM105; clear hM104; go_frame)
            | ((with_reducible change wpList _ _ _ (Oper.mk (some 27) _ _ _ _ _ :: _) _ _); refine kLoadRow _ _ _ _ _ _ rfl rfl rfl (hM105.get 3 rfl) Tryd.underlying24 rfl (info_WideC _) ?_; go_frame)
            | (go_at_call 78; (with_reducible change Calls _ _ #[Value.agg (wcells m), Value.int .i64 ((N : Int))] _ _); refine (hasBit_any mm hN Hc.out _).mono ?_; rintro e w106 ⟨rfl, hB106⟩; have hM106 := hM105.on hB106; clear hB106 hM105; (try unfold WV); go_frame)
            | ((with_reducible change wpList _ _ _ (Oper.mk (some 30) _ _ _ _ _ :: _) _ _); refine kLoadRow _ _ _ _ _ _ rfl rfl rfl (hM106.get 0 rfl) Tryd.underlying100 rfl (info_jc _) ?_; go_frame)
            | ((with_reducible change wpList _ _ _ (Oper.mk (some 31) _ _ _ _ _ :: _) _ _); refine kLoadRow _ _ _ _ _ _ rfl rfl rfl (hM106.get 2 rfl) Tryd.underlying30 rfl (info_ptc _) ?_; go_frame)
            | (go_at_call 79; (with_reducible change Calls _ _ #[Value.agg (jc (a.twice.plus gPt)), Value.agg (ptc p)] _ _); refine (plus_as (a.twice.plus gPt) p _ (hG.below hM106.below) (hO.below hM106.below)).mono ?_; rintro e w107 ⟨rfl, hB107⟩; have hM107 := hM106.on hB107; clear hB107 hM106; (try unfold WV); go_frame)
            | ((with_reducible change wpList _ _ _ (Oper.mk none (Op.store _ (Operand.tmp 7) (Operand.tmp 32)) _ _ _ _ :: _) _ _); refine mmStoreAt hM107 0 _ _ _ _ _ _ (jc ((a.twice.plus gPt).plus p)) rfl rfl rfl rfl rfl (info_jc _) (by simp only [jc_size]) (jc_one _) ?_; intro w108 hM108; dsimp only [List.set] at hM108; clear hM107; go_frame))
          go_roundw
          case rel => exact ⟨(N : Int) - 1, (a.twice.plus gPt).plus p, by go_num, by omega, by omega, Lib.hid (by rw [show ((N : Int) - 1 + 1).toNat = N by omega]; exact HN.out), hM108⟩
          case measure => simp [intOf]; try omega
        | false =>
          replace HN : JRep (a.twice.plus gPt) (both ivP gPt p (k / 2 ^ N) (m / 2 ^ N)) := HN
          replace HN := Lib.hid HN
          go_wp2_with (first
            | ((with_reducible change wpList _ _ _ (Oper.mk (some 19) _ _ _ _ _ :: _) _ _); refine kLoadRow _ _ _ _ _ _ rfl rfl rfl (hM0.get 0 rfl) Tryd.underlying100 rfl (info_jc _) ?_; go_frame)
            | (go_at_call 77; (with_reducible change Calls _ _ #[Value.agg (jc a)] _ _); refine (twice_as rfl a _ (hG.below hM0.below)).mono ?_; rintro e w101 ⟨rfl, hB101⟩; have hM101 := hM0.on hB101; clear hB101 hM0; (try unfold WV); go_frame)
            | ((with_reducible change wpList _ _ _ (Oper.mk none (Op.store _ (Operand.tmp 7) (Operand.tmp 20)) _ _ _ _ :: _) _ _); refine mmStoreAt hM101 0 _ _ _ _ _ _ (jc a.twice) rfl rfl rfl rfl rfl (info_jc _) (by simp only [jc_size]) (jc_one _) ?_; intro w102 hM102; dsimp only [List.set] at hM102; clear hM101; go_frame)
            | ((with_reducible change wpList _ _ _ (Oper.mk (some 21) _ _ _ _ _ :: _) _ _); refine kLoadRow _ _ _ _ _ _ rfl rfl rfl (hM102.get 4 rfl) Tryd.underlying24 rfl (info_WideC _) ?_; go_frame)
            | (go_at_call 78; (with_reducible change Calls _ _ #[Value.agg (wcells k), Value.int .i64 ((N : Int))] _ _); refine (hasBit_any mk hN Hb.out _).mono ?_; rintro e w103 ⟨rfl, hB103⟩; have hM103 := hM102.on hB103; clear hB103 hM102; (try unfold WV); go_frame)
            | ((with_reducible change wpList _ _ _ (Oper.mk (some 24) _ _ _ _ _ :: _) _ _); refine kLoadRow _ _ _ _ _ _ rfl rfl rfl (hM103.get 0 rfl) Tryd.underlying100 rfl (info_jc _) ?_; go_frame)
            | ((with_reducible change wpList _ _ _ (Oper.mk (some 25) _ _ _ _ _ :: _) _ _); refine kLoadGPt _ _ _ rfl rfl rfl (hB.below hM103.below) ?_; go_frame)
            | (go_at_call 79; (with_reducible change Calls _ _ #[Value.agg (jc a.twice), Value.agg (ptc gPt)] _ _); refine (plus_as a.twice gPt _ (hG.below hM103.below) (hO.below hM103.below)).mono ?_; rintro e w104 ⟨rfl, hB104⟩; have hM104 := hM103.on hB104; clear hB104 hM103; (try unfold WV); go_frame)
            | ((with_reducible change wpList _ _ _ (Oper.mk none (Op.store _ (Operand.tmp 7) (Operand.tmp 26)) _ _ _ _ :: _) _ _); refine mmStoreAt hM104 0 _ _ _ _ _ _ (jc (a.twice.plus gPt)) rfl rfl rfl rfl rfl (info_jc _) (by simp only [jc_size]) (jc_one _) ?_; intro w105 hM105; dsimp only [List.set] at hM105; clear hM104; go_frame)
            | ((with_reducible change wpList _ _ _ (Oper.mk (some 27) _ _ _ _ _ :: _) _ _); refine kLoadRow _ _ _ _ _ _ rfl rfl rfl (hM105.get 3 rfl) Tryd.underlying24 rfl (info_WideC _) ?_; go_frame)
            | (go_at_call 78; (with_reducible change Calls _ _ #[Value.agg (wcells m), Value.int .i64 ((N : Int))] _ _); refine (hasBit_any mm hN Hc.out _).mono ?_; rintro e w106 ⟨rfl, hB106⟩; have hM106 := hM105.on hB106; clear hB106 hM105; (try unfold WV); go_frame))
          go_roundw
          case rel => exact ⟨(N : Int) - 1, a.twice.plus gPt, by go_num, by omega, by omega, Lib.hid (by rw [show ((N : Int) - 1 + 1).toNat = N by omega]; exact HN.out), hM106⟩
          case measure => simp [intOf]; try omega
      | false =>
        cases c with
        | true =>
          replace HN : JRep (a.twice.plus p) (both ivP gPt p (k / 2 ^ N) (m / 2 ^ N)) := HN
          replace HN := Lib.hid HN
          go_wp2_with (first
            | ((with_reducible change wpList _ _ _ (Oper.mk (some 19) _ _ _ _ _ :: _) _ _); refine kLoadRow _ _ _ _ _ _ rfl rfl rfl (hM0.get 0 rfl) Tryd.underlying100 rfl (info_jc _) ?_; go_frame)
            | (go_at_call 77; (with_reducible change Calls _ _ #[Value.agg (jc a)] _ _); refine (twice_as rfl a _ (hG.below hM0.below)).mono ?_; rintro e w101 ⟨rfl, hB101⟩; have hM101 := hM0.on hB101; clear hB101 hM0; (try unfold WV); go_frame)
            | ((with_reducible change wpList _ _ _ (Oper.mk none (Op.store _ (Operand.tmp 7) (Operand.tmp 20)) _ _ _ _ :: _) _ _); refine mmStoreAt hM101 0 _ _ _ _ _ _ (jc a.twice) rfl rfl rfl rfl rfl (info_jc _) (by simp only [jc_size]) (jc_one _) ?_; intro w102 hM102; dsimp only [List.set] at hM102; clear hM101; go_frame)
            | ((with_reducible change wpList _ _ _ (Oper.mk (some 21) _ _ _ _ _ :: _) _ _); refine kLoadRow _ _ _ _ _ _ rfl rfl rfl (hM102.get 4 rfl) Tryd.underlying24 rfl (info_WideC _) ?_; go_frame)
            | (go_at_call 78; (with_reducible change Calls _ _ #[Value.agg (wcells k), Value.int .i64 ((N : Int))] _ _); refine (hasBit_any mk hN Hb.out _).mono ?_; rintro e w103 ⟨rfl, hB103⟩; have hM103 := hM102.on hB103; clear hB103 hM102; (try unfold WV); go_frame)
            | ((with_reducible change wpList _ _ _ (Oper.mk (some 27) _ _ _ _ _ :: _) _ _); refine kLoadRow _ _ _ _ _ _ rfl rfl rfl (hM103.get 3 rfl) Tryd.underlying24 rfl (info_WideC _) ?_; go_frame)
            | (go_at_call 78; (with_reducible change Calls _ _ #[Value.agg (wcells m), Value.int .i64 ((N : Int))] _ _); refine (hasBit_any mm hN Hc.out _).mono ?_; rintro e w104 ⟨rfl, hB104⟩; have hM104 := hM103.on hB104; clear hB104 hM103; (try unfold WV); go_frame)
            | ((with_reducible change wpList _ _ _ (Oper.mk (some 30) _ _ _ _ _ :: _) _ _); refine kLoadRow _ _ _ _ _ _ rfl rfl rfl (hM104.get 0 rfl) Tryd.underlying100 rfl (info_jc _) ?_; go_frame)
            | ((with_reducible change wpList _ _ _ (Oper.mk (some 31) _ _ _ _ _ :: _) _ _); refine kLoadRow _ _ _ _ _ _ rfl rfl rfl (hM104.get 2 rfl) Tryd.underlying30 rfl (info_ptc _) ?_; go_frame)
            | (go_at_call 79; (with_reducible change Calls _ _ #[Value.agg (jc a.twice), Value.agg (ptc p)] _ _); refine (plus_as a.twice p _ (hG.below hM104.below) (hO.below hM104.below)).mono ?_; rintro e w105 ⟨rfl, hB105⟩; have hM105 := hM104.on hB105; clear hB105 hM104; (try unfold WV); go_frame)
            | ((with_reducible change wpList _ _ _ (Oper.mk none (Op.store _ (Operand.tmp 7) (Operand.tmp 32)) _ _ _ _ :: _) _ _); refine mmStoreAt hM105 0 _ _ _ _ _ _ (jc (a.twice.plus p)) rfl rfl rfl rfl rfl (info_jc _) (by simp only [jc_size]) (jc_one _) ?_; intro w106 hM106; dsimp only [List.set] at hM106; clear hM105; go_frame))
          go_roundw
          case rel => exact ⟨(N : Int) - 1, a.twice.plus p, by go_num, by omega, by omega, Lib.hid (by rw [show ((N : Int) - 1 + 1).toNat = N by omega]; exact HN.out), hM106⟩
          case measure => simp [intOf]; try omega
        | false =>
          replace HN : JRep (a.twice) (both ivP gPt p (k / 2 ^ N) (m / 2 ^ N)) := HN
          replace HN := Lib.hid HN
          go_wp2_with (first
            | ((with_reducible change wpList _ _ _ (Oper.mk (some 19) _ _ _ _ _ :: _) _ _); refine kLoadRow _ _ _ _ _ _ rfl rfl rfl (hM0.get 0 rfl) Tryd.underlying100 rfl (info_jc _) ?_; go_frame)
            | (go_at_call 77; (with_reducible change Calls _ _ #[Value.agg (jc a)] _ _); refine (twice_as rfl a _ (hG.below hM0.below)).mono ?_; rintro e w101 ⟨rfl, hB101⟩; have hM101 := hM0.on hB101; clear hB101 hM0; (try unfold WV); go_frame)
            | ((with_reducible change wpList _ _ _ (Oper.mk none (Op.store _ (Operand.tmp 7) (Operand.tmp 20)) _ _ _ _ :: _) _ _); refine mmStoreAt hM101 0 _ _ _ _ _ _ (jc a.twice) rfl rfl rfl rfl rfl (info_jc _) (by simp only [jc_size]) (jc_one _) ?_; intro w102 hM102; dsimp only [List.set] at hM102; clear hM101; go_frame)
            | ((with_reducible change wpList _ _ _ (Oper.mk (some 21) _ _ _ _ _ :: _) _ _); refine kLoadRow _ _ _ _ _ _ rfl rfl rfl (hM102.get 4 rfl) Tryd.underlying24 rfl (info_WideC _) ?_; go_frame)
            | (go_at_call 78; (with_reducible change Calls _ _ #[Value.agg (wcells k), Value.int .i64 ((N : Int))] _ _); refine (hasBit_any mk hN Hb.out _).mono ?_; rintro e w103 ⟨rfl, hB103⟩; have hM103 := hM102.on hB103; clear hB103 hM102; (try unfold WV); go_frame)
            | ((with_reducible change wpList _ _ _ (Oper.mk (some 27) _ _ _ _ _ :: _) _ _); refine kLoadRow _ _ _ _ _ _ rfl rfl rfl (hM103.get 3 rfl) Tryd.underlying24 rfl (info_WideC _) ?_; go_frame)
            | (go_at_call 78; (with_reducible change Calls _ _ #[Value.agg (wcells m), Value.int .i64 ((N : Int))] _ _); refine (hasBit_any mm hN Hc.out _).mono ?_; rintro e w104 ⟨rfl, hB104⟩; have hM104 := hM103.on hB104; clear hB104 hM103; (try unfold WV); go_frame))
          go_roundw
          case rel => exact ⟨(N : Int) - 1, a.twice, by go_num, by omega, by omega, Lib.hid (by rw [show ((N : Int) - 1 + 1).toNat = N by omega]; exact HN.out), hM104⟩
          case measure => simp [intOf]; try omega
    · have hd : decide (z ≥ 0) = false := by simp; omega
      have R := Lib.hid (show ptc (a.pt ivP) = ptc (both ivP gPt p k m) by
        have h := HI.out
        rw [show (z + 1).toNat = 0 by omega, Nat.pow_zero, Nat.div_one, Nat.div_one] at h
        rw [goodP.jac_pt h])
      go_wp2_with (first
        | ((with_reducible change wpList _ _ _ (Oper.mk (some 33) _ _ _ _ _ :: _) _ _); refine kLoadRow _ _ _ _ _ _ rfl rfl rfl (hM0.get 0 rfl) Tryd.underlying100 rfl (info_jc _) ?_; go_frame)
        | (go_at_call 80; (with_reducible change Calls _ _ #[Value.agg (jc a)] _ _); refine (point_as a _ (hG.below hM0.below) (hO.below hM0.below)).mono ?_; rintro e w101 ⟨rfl, hB101⟩; have hM101 := hM0.on hB101; clear hB101 hM0; (try unfold WV); go_frame)
        | ((with_reducible change wpList _ _ _ (Oper.mk none (Op.store _ (Operand.tmp 6) (Operand.tmp 34)) _ _ _ _ :: _) _ _); refine mmStoreAt hM101 1 _ _ _ _ _ _ (ptc (a.pt ivP)) rfl rfl rfl rfl rfl (info_ptc _) (by simp only [pcells_size, ptc_size]) (ptc_one _) ?_; intro w102 hM102; dsimp only [List.set] at hM102; clear hM101; go_frame))
      exact result_row Tryd.results51 rfl (hM102.get 1 rfl) Tryd.underlying30 rfl (info_ptc _) rfl ⟨by rw [R.out], hM102.below⟩
set_option maxRecDepth 100000 in
set_option maxHeartbeats 8000000 in
theorem cTimes_pt {k : Nat} (mk : k < M256) {p : Pt PP} (hp : p.On) (w : World) (hG : Glob 3 PP w) (hO : GlobP 2 0 0 true w) (hB : GlobPt 0 gPt w) :
    Calls Tryd.prog 27 #[WV k, .agg (ptc p)] w fun e w' => e = .returned (.agg (ptc (Pt.times ivP p k))) ∧ Below w.heap.size w w' := by
  have hM0 := mm_nil w
  (try unfold WV)
  go_enter Tryd.func27, Tryd.ntmps27
  go_wp2_with (first
    | ((with_reducible change wpList _ _ _ (Oper.mk (some 2) _ _ _ _ _ :: _) _ _); refine mmBox hM0 _ _ (wcells k) rfl rfl rfl ?_; intro w1 hM1; clear hM0; go_frame)
    | ((with_reducible change wpList _ _ _ (Oper.mk (some 3) _ _ _ _ _ :: _) _ _); refine mmBox hM1 _ _ (ptc p) rfl rfl rfl ?_; intro w2 hM2; clear hM1; go_frame)
    | ((with_reducible change wpList _ _ _ (Oper.mk (some 4) _ _ _ _ _ :: _) _ _); refine mmAlloc hM2 _ _ rfl rfl zero_Point ?_; intro w3 hM3; clear hM2; go_frame)
    | ((with_reducible change wpList _ _ _ (Oper.mk (some 5) _ _ _ _ _ :: _) _ _); refine kBuildW0 rfl rfl ?_; go_frame)
    | ((with_reducible change wpList _ _ _ (Oper.mk (some 6) _ _ _ _ _ :: _) _ _); refine kLoadRow _ _ _ _ _ _ rfl rfl rfl (hM3.get 2 rfl) Tryd.underlying24 rfl (info_WideC _) ?_; go_frame)
    | ((with_reducible change wpList _ _ _ (Oper.mk (some 7) _ _ _ _ _ :: _) _ _); refine kLoadRow _ _ _ _ _ _ rfl rfl rfl (hM3.get 1 rfl) Tryd.underlying30 rfl (info_ptc _) ?_; go_frame)
    | (go_at_call 51; (with_reducible change Calls _ _ #[Value.agg (wcells 0), Value.agg (wcells k), Value.agg (ptc p)] _ _); refine (cBoth_pt (by decide) mk hp _ (hG.below hM3.below) (hO.below hM3.below) (hB.below hM3.below)).mono ?_; rintro e w4 ⟨rfl, hB4⟩; have hM4 := hM3.on hB4; clear hB4 hM3; (try unfold WV); go_frame)
    | ((with_reducible change wpList _ _ _ (Oper.mk none (Op.store _ (Operand.tmp 4) (Operand.tmp 8)) _ _ _ _ :: _) _ _); refine mmStoreAt hM4 0 _ _ _ _ _ _ (ptc (both ivP gPt p 0 k)) rfl rfl rfl rfl rfl (info_ptc _) (by simp only [pcells_size, ptc_size]) (ptc_one _) ?_; intro w5 hM5; dsimp only [List.set] at hM5; clear hM4; go_frame))
  exact result_row Tryd.results27 rfl (hM5.get 0 rfl) Tryd.underlying30 rfl (info_ptc _) rfl ⟨rfl, hM5.below⟩
end Go.Proofs.YtfgffjmpjoipeaaDoor
