/-
  The walk of the statement WideRings.
-/
import Derived.Test.YtehklogmeinocaaWMem
namespace Go.Proofs.Ytehklogmeinocaa
open Go Go.RowKit

/-! ### plain -/
theorem ring_add {a b c ab abc bc cab : Nat} (h1 : (a + b) % M256 = ab) (h2 : (ab + c) % M256 = abc) (h3 : (b + c) % M256 = bc) (h4 : (a + bc) % M256 = cab) : abc = cab := by
  subst h1; subst h3; subst h2; subst h4
  rw [Nat.mod_add_mod, Nat.add_mod_mod, Nat.add_assoc]
theorem ring_mul {a b c ab p q r qr : Nat} (h1 : (a + b) % M256 = ab) (h2 : (ab * c) % M256 = p) (h3 : (a * c) % M256 = q) (h4 : (b * c) % M256 = r) (h5 : (q + r) % M256 = qr) : p = qr := by
  subst h1; subst h3; subst h4; subst h2; subst h5
  rw [Nat.mod_mul_mod, Nat.add_mul, ← Nat.add_mod]
theorem ring_sub {a b ab back : Nat} (ha : a < M256) (hb : b < M256) (h1 : (a + b) % M256 = ab) (h2 : (ab + M256 - b) % M256 = back) : back = a := by
  subst h1; subst h2
  by_cases h : a + b < M256
  · rw [Nat.mod_eq_of_lt h, show a + b + M256 - b = a + M256 by omega, Nat.add_mod_right, Nat.mod_eq_of_lt ha]
  · have e : (a + b) % M256 = a + b - M256 := by rw [Nat.mod_eq_sub_mod (by omega), Nat.mod_eq_of_lt (show a + b - M256 < M256 by omega)]
    rw [e, show a + b - M256 + M256 - b = a by omega, Nat.mod_eq_of_lt ha]
theorem ring_end {a b t s lo : Nat} (hb : b ≠ 0) (ha : a < M256) (ht : a / b = t) (hs : a % b = s) (hlo : (t * b) % M256 = lo) :
    decide (M256 ≤ lo + s) = false ∧ decide (t * b / M256 % M256 = 0 % M256) = true ∧ decide ((lo + s) % M256 = a % M256) = true ∧ decide (s < b) = true := by
  have hd := Nat.div_add_mod a b
  rw [ht, hs, Nat.mul_comm] at hd
  have hl : lo = t * b := by rw [← hlo]; exact Nat.mod_eq_of_lt (by omega)
  refine ⟨decide_eq_false (by omega), ?_, ?_, ?_⟩
  · rw [Nat.div_eq_of_lt (by omega)]; simp
  · rw [hl, hd]; simp
  · rw [← hs]; exact decide_eq_true (Nat.mod_lt _ (by omega))

set_option maxRecDepth 100000 in
set_option maxHeartbeats 8000000 in
theorem WideRings_any (a : Nat) (ma : a < M256) (b : Nat) (mb : b < M256) (c : Nat) (mc : c < M256) (w : World) :
    Calls Try.prog 8 #[WV a, WV b, WV c] w fun e w' => e = .returned (.bool true) ∧ Below w.heap.size w w' := by
  have hM0 := mem_nil w
  unfold WV
  by_cases hb0 : b = 0
  · have D0 := Lib.hid (show decide (b % M256 = 0 % M256) = true by rw [hb0]; simp)
    clear hb0
    go_enter Try.func8, Try.ntmps8
    go_wp2_with (first
      | ((with_reducible change wpList _ _ _ (Oper.mk (some 3) _ _ _ _ _ :: _) _ _); refine mBox hM0 _ _ rfl rfl rfl ?_; intro w1 hM1; clear hM0; go_frame)
      | ((with_reducible change wpList _ _ _ (Oper.mk (some 4) _ _ _ _ _ :: _) _ _); refine mBox hM1 _ _ rfl rfl rfl ?_; intro w2 hM2; clear hM1; go_frame)
      | ((with_reducible change wpList _ _ _ (Oper.mk (some 5) _ _ _ _ _ :: _) _ _); refine mBox hM2 _ _ rfl rfl rfl ?_; intro w3 hM3; clear hM2; go_frame)
      | (go_at_call 14; refine (wideAlive_any _).mono ?_; rintro e w4 ⟨rfl, hB4⟩; have hM4 := hM3.on hB4; clear hB4 hM3; (try unfold WV); go_frame)
      | ((with_reducible change wpList _ _ _ (Oper.mk (some 34) _ _ _ _ _ :: _) _ _); refine mLoad hM4 2 _ _ _ rfl rfl rfl rfl ?_; go_frame)
      | ((with_reducible change wpList _ _ _ (Oper.mk (some 35) _ _ _ _ _ :: _) _ _); refine mLoad hM4 1 _ _ _ rfl rfl rfl rfl ?_; go_frame)
      | (go_at_call 20; (with_reducible change Calls _ _ #[Value.agg (wcells a), Value.agg (wcells b)] _ _); refine (wAdd_any a b ma mb _).mono ?_; rintro e w5 ⟨rfl, hB5⟩; have hM5 := hM4.on hB5; clear hB5 hM4; (try unfold WV); rw [← wcells_mod (a + b)]; (generalize hxab : (a + b) % M256 = ab); have mab : ab < M256 := (by rw [← hxab]; exact Nat.mod_lt _ M256_pos); have Hab := Lib.hid hxab; clear hxab; go_frame)
      | ((with_reducible change wpList _ _ _ (Oper.mk (some 7) _ _ _ _ _ :: _) _ _); refine mAlloc hM5 rfl rfl ?_; intro w6 hM6; clear hM5; go_frame)
      | ((with_reducible change wpList _ _ _ (Oper.mk none (Op.store _ (Operand.tmp 7) _) _ _ _ _ :: _) _ _); refine mStore0 hM6 _ _ (ab) rfl rfl rfl rfl ?_; intro w7 hM7; clear hM6; go_frame)
      | ((with_reducible change wpList _ _ _ (Oper.mk (some 40) _ _ _ _ _ :: _) _ _); refine mLoad hM7 0 _ _ _ rfl rfl rfl rfl ?_; go_frame)
      | ((with_reducible change wpList _ _ _ (Oper.mk (some 41) _ _ _ _ _ :: _) _ _); refine mLoad hM7 1 _ _ _ rfl rfl rfl rfl ?_; go_frame)
      | (go_at_call 20; (with_reducible change Calls _ _ #[Value.agg (wcells ab), Value.agg (wcells c)] _ _); refine (wAdd_any ab c mab mc _).mono ?_; rintro e w8 ⟨rfl, hB8⟩; have hM8 := hM7.on hB8; clear hB8 hM7; (try unfold WV); rw [← wcells_mod (ab + c)]; (generalize hxabc : (ab + c) % M256 = abc); have mabc : abc < M256 := (by rw [← hxabc]; exact Nat.mod_lt _ M256_pos); have Habc := Lib.hid hxabc; clear hxabc; go_frame)
      | ((with_reducible change wpList _ _ _ (Oper.mk (some 9) _ _ _ _ _ :: _) _ _); refine mAlloc hM8 rfl rfl ?_; intro w9 hM9; clear hM8; go_frame)
      | ((with_reducible change wpList _ _ _ (Oper.mk none (Op.store _ (Operand.tmp 9) _) _ _ _ _ :: _) _ _); refine mStore0 hM9 _ _ (abc) rfl rfl rfl rfl ?_; intro w10 hM10; clear hM9; go_frame)
      | ((with_reducible change wpList _ _ _ (Oper.mk (some 46) _ _ _ _ _ :: _) _ _); refine mLoad hM10 3 _ _ _ rfl rfl rfl rfl ?_; go_frame)
      | ((with_reducible change wpList _ _ _ (Oper.mk (some 47) _ _ _ _ _ :: _) _ _); refine mLoad hM10 2 _ _ _ rfl rfl rfl rfl ?_; go_frame)
      | (go_at_call 20; (with_reducible change Calls _ _ #[Value.agg (wcells b), Value.agg (wcells c)] _ _); refine (wAdd_any b c mb mc _).mono ?_; rintro e w11 ⟨rfl, hB11⟩; have hM11 := hM10.on hB11; clear hB11 hM10; (try unfold WV); rw [← wcells_mod (b + c)]; (generalize hxbc : (b + c) % M256 = bc); have mbc : bc < M256 := (by rw [← hxbc]; exact Nat.mod_lt _ M256_pos); have Hbc := Lib.hid hxbc; clear hxbc; go_frame)
      | ((with_reducible change wpList _ _ _ (Oper.mk (some 11) _ _ _ _ _ :: _) _ _); refine mAlloc hM11 rfl rfl ?_; intro w12 hM12; clear hM11; go_frame)
      | ((with_reducible change wpList _ _ _ (Oper.mk none (Op.store _ (Operand.tmp 11) _) _ _ _ _ :: _) _ _); refine mStore0 hM12 _ _ (bc) rfl rfl rfl rfl ?_; intro w13 hM13; clear hM12; go_frame)
      | ((with_reducible change wpList _ _ _ (Oper.mk (some 52) _ _ _ _ _ :: _) _ _); refine mLoad hM13 5 _ _ _ rfl rfl rfl rfl ?_; go_frame)
      | ((with_reducible change wpList _ _ _ (Oper.mk (some 53) _ _ _ _ _ :: _) _ _); refine mLoad hM13 0 _ _ _ rfl rfl rfl rfl ?_; go_frame)
      | (go_at_call 20; (with_reducible change Calls _ _ #[Value.agg (wcells a), Value.agg (wcells bc)] _ _); refine (wAdd_any a bc ma mbc _).mono ?_; rintro e w14 ⟨rfl, hB14⟩; have hM14 := hM13.on hB14; clear hB14 hM13; (try unfold WV); rw [← wcells_mod (a + bc)]; (generalize hxcab : (a + bc) % M256 = cab); have mcab : cab < M256 := (by rw [← hxcab]; exact Nat.mod_lt _ M256_pos); have Hcab := Lib.hid hxcab; clear hxcab; go_frame)
      | ((with_reducible change wpList _ _ _ (Oper.mk (some 13) _ _ _ _ _ :: _) _ _); refine mAlloc hM14 rfl rfl ?_; intro w15 hM15; clear hM14; go_frame)
      | ((with_reducible change wpList _ _ _ (Oper.mk none (Op.store _ (Operand.tmp 13) _) _ _ _ _ :: _) _ _); refine mStore0 hM15 _ _ (cab) rfl rfl rfl rfl ?_; intro w16 hM16; clear hM15; go_frame)
      | ((with_reducible change wpList _ _ _ (Oper.mk (some 58) _ _ _ _ _ :: _) _ _); refine mLoad hM16 3 _ _ _ rfl rfl rfl rfl ?_; go_frame)
      | ((with_reducible change wpList _ _ _ (Oper.mk (some 59) _ _ _ _ _ :: _) _ _); refine mLoad hM16 4 _ _ _ rfl rfl rfl rfl ?_; go_frame)
      | (go_at_call 13; (with_reducible change Calls _ _ #[Value.agg (wcells ab), Value.agg (wcells c)] _ _); refine (wMul_any ab c mab mc _).mono ?_; rintro e w17 ⟨rfl, hB17⟩; have hM17 := hM16.on hB17; clear hB17 hM16; (try unfold WV); rw [← wcells_mod (ab * c)]; (generalize hxp : (ab * c) % M256 = p); have mp : p < M256 := (by rw [← hxp]; exact Nat.mod_lt _ M256_pos); have Hp := Lib.hid hxp; clear hxp; go_frame)
      | ((with_reducible change wpList _ _ _ (Oper.mk (some 15) _ _ _ _ _ :: _) _ _); refine mAlloc hM17 rfl rfl ?_; intro w18 hM18; clear hM17; go_frame)
      | ((with_reducible change wpList _ _ _ (Oper.mk (some 16) _ _ _ _ _ :: _) _ _); refine mAlloc hM18 rfl rfl ?_; intro w19 hM19; clear hM18; go_frame)
      | ((with_reducible change wpList _ _ _ (Oper.mk none (Op.store _ (Operand.tmp 15) _) _ _ _ _ :: _) _ _); refine mStore1 hM19 _ _ (p) rfl rfl rfl rfl ?_; intro w20 hM20; clear hM19; go_frame)
      | ((with_reducible change wpList _ _ _ (Oper.mk none (Op.store _ (Operand.tmp 16) _) _ _ _ _ :: _) _ _); refine mStore0 hM20 _ _ (ab * c / M256) rfl rfl rfl rfl ?_; intro w21 hM21; clear hM20; go_frame)
      | ((with_reducible change wpList _ _ _ (Oper.mk (some 64) _ _ _ _ _ :: _) _ _); refine mLoad hM21 8 _ _ _ rfl rfl rfl rfl ?_; go_frame)
      | ((with_reducible change wpList _ _ _ (Oper.mk (some 65) _ _ _ _ _ :: _) _ _); refine mLoad hM21 6 _ _ _ rfl rfl rfl rfl ?_; go_frame)
      | (go_at_call 13; (with_reducible change Calls _ _ #[Value.agg (wcells a), Value.agg (wcells c)] _ _); refine (wMul_any a c ma mc _).mono ?_; rintro e w22 ⟨rfl, hB22⟩; have hM22 := hM21.on hB22; clear hB22 hM21; (try unfold WV); rw [← wcells_mod (a * c)]; (generalize hxq : (a * c) % M256 = q); have mq : q < M256 := (by rw [← hxq]; exact Nat.mod_lt _ M256_pos); have Hq := Lib.hid hxq; clear hxq; go_frame)
      | ((with_reducible change wpList _ _ _ (Oper.mk (some 17) _ _ _ _ _ :: _) _ _); refine mAlloc hM22 rfl rfl ?_; intro w23 hM23; clear hM22; go_frame)
      | ((with_reducible change wpList _ _ _ (Oper.mk (some 18) _ _ _ _ _ :: _) _ _); refine mAlloc hM23 rfl rfl ?_; intro w24 hM24; clear hM23; go_frame)
      | ((with_reducible change wpList _ _ _ (Oper.mk none (Op.store _ (Operand.tmp 17) _) _ _ _ _ :: _) _ _); refine mStore1 hM24 _ _ (q) rfl rfl rfl rfl ?_; intro w25 hM25; clear hM24; go_frame)
      | ((with_reducible change wpList _ _ _ (Oper.mk none (Op.store _ (Operand.tmp 18) _) _ _ _ _ :: _) _ _); refine mStore0 hM25 _ _ (a * c / M256) rfl rfl rfl rfl ?_; intro w26 hM26; clear hM25; go_frame)
      | ((with_reducible change wpList _ _ _ (Oper.mk (some 70) _ _ _ _ _ :: _) _ _); refine mLoad hM26 9 _ _ _ rfl rfl rfl rfl ?_; go_frame)
      | ((with_reducible change wpList _ _ _ (Oper.mk (some 71) _ _ _ _ _ :: _) _ _); refine mLoad hM26 8 _ _ _ rfl rfl rfl rfl ?_; go_frame)
      | (go_at_call 13; (with_reducible change Calls _ _ #[Value.agg (wcells b), Value.agg (wcells c)] _ _); refine (wMul_any b c mb mc _).mono ?_; rintro e w27 ⟨rfl, hB27⟩; have hM27 := hM26.on hB27; clear hB27 hM26; (try unfold WV); rw [← wcells_mod (b * c)]; (generalize hxr : (b * c) % M256 = r); have mr : r < M256 := (by rw [← hxr]; exact Nat.mod_lt _ M256_pos); have Hr := Lib.hid hxr; clear hxr; go_frame)
      | ((with_reducible change wpList _ _ _ (Oper.mk (some 19) _ _ _ _ _ :: _) _ _); refine mAlloc hM27 rfl rfl ?_; intro w28 hM28; clear hM27; go_frame)
      | ((with_reducible change wpList _ _ _ (Oper.mk (some 20) _ _ _ _ _ :: _) _ _); refine mAlloc hM28 rfl rfl ?_; intro w29 hM29; clear hM28; go_frame)
      | ((with_reducible change wpList _ _ _ (Oper.mk none (Op.store _ (Operand.tmp 19) _) _ _ _ _ :: _) _ _); refine mStore1 hM29 _ _ (r) rfl rfl rfl rfl ?_; intro w30 hM30; clear hM29; go_frame)
      | ((with_reducible change wpList _ _ _ (Oper.mk none (Op.store _ (Operand.tmp 20) _) _ _ _ _ :: _) _ _); refine mStore0 hM30 _ _ (b * c / M256) rfl rfl rfl rfl ?_; intro w31 hM31; clear hM30; go_frame)
      | ((with_reducible change wpList _ _ _ (Oper.mk (some 76) _ _ _ _ _ :: _) _ _); refine mLoad hM31 3 _ _ _ rfl rfl rfl rfl ?_; go_frame)
      | ((with_reducible change wpList _ _ _ (Oper.mk (some 77) _ _ _ _ _ :: _) _ _); refine mLoad hM31 1 _ _ _ rfl rfl rfl rfl ?_; go_frame)
      | (go_at_call 20; (with_reducible change Calls _ _ #[Value.agg (wcells q), Value.agg (wcells r)] _ _); refine (wAdd_any q r mq mr _).mono ?_; rintro e w32 ⟨rfl, hB32⟩; have hM32 := hM31.on hB32; clear hB32 hM31; (try unfold WV); rw [← wcells_mod (q + r)]; (generalize hxqr : (q + r) % M256 = qr); have mqr : qr < M256 := (by rw [← hxqr]; exact Nat.mod_lt _ M256_pos); have Hqr := Lib.hid hxqr; clear hxqr; go_frame)
      | ((with_reducible change wpList _ _ _ (Oper.mk (some 21) _ _ _ _ _ :: _) _ _); refine mAlloc hM32 rfl rfl ?_; intro w33 hM33; clear hM32; go_frame)
      | ((with_reducible change wpList _ _ _ (Oper.mk none (Op.store _ (Operand.tmp 21) _) _ _ _ _ :: _) _ _); refine mStore0 hM33 _ _ (qr) rfl rfl rfl rfl ?_; intro w34 hM34; clear hM33; go_frame)
      | ((with_reducible change wpList _ _ _ (Oper.mk (some 82) _ _ _ _ _ :: _) _ _); refine mLoad hM34 10 _ _ _ rfl rfl rfl rfl ?_; go_frame)
      | ((with_reducible change wpList _ _ _ (Oper.mk (some 83) _ _ _ _ _ :: _) _ _); refine mLoad hM34 12 _ _ _ rfl rfl rfl rfl ?_; go_frame)
      | (go_at_call 10; (with_reducible change Calls _ _ #[Value.agg (wcells ab), Value.agg (wcells b)] _ _); refine (wSub_any ab b mab mb _).mono ?_; rintro e w35 ⟨rfl, hB35⟩; have hM35 := hM34.on hB35; clear hB35 hM34; (try unfold WV); rw [← wcells_mod (ab + M256 - b)]; (generalize hxback : (ab + M256 - b) % M256 = back); have mback : back < M256 := (by rw [← hxback]; exact Nat.mod_lt _ M256_pos); have Hback := Lib.hid hxback; clear hxback; go_frame)
      | ((with_reducible change wpList _ _ _ (Oper.mk (some 23) _ _ _ _ _ :: _) _ _); refine mAlloc hM35 rfl rfl ?_; intro w36 hM36; clear hM35; go_frame)
      | ((with_reducible change wpList _ _ _ (Oper.mk none (Op.store _ (Operand.tmp 23) _) _ _ _ _ :: _) _ _); refine mStore0 hM36 _ _ (back) rfl rfl rfl rfl ?_; intro w37 hM37; clear hM36; have F1 := Lib.hid (ring_add Hab.out Habc.out Hbc.out Hcab.out); have F2 := Lib.hid (ring_mul Hab.out Hp.out Hq.out Hr.out Hqr.out); have F3 := Lib.hid (ring_sub ma mb Hab.out Hback.out); go_frame)
      | ((with_reducible change wpList _ _ _ (Oper.mk (some 87) _ _ _ _ _ :: _) _ _); refine mLoad hM37 10 _ _ _ rfl rfl rfl rfl ?_; go_frame)
      | ((with_reducible change wpList _ _ _ (Oper.mk (some 88) _ _ _ _ _ :: _) _ _); refine mLoad hM37 8 _ _ _ rfl rfl rfl rfl ?_; go_frame)
      | ((with_reducible change wpList _ _ _ (Oper.mk (some 89) _ _ _ _ _ :: _) _ _); refine kNeqW _ _ _ abc cab false rfl rfl rfl rfl (by rw [F1.out]; simp) ?_; go_frame)
      | ((with_reducible change wpList _ _ _ (Oper.mk (some 91) _ _ _ _ _ :: _) _ _); refine mLoad hM37 7 _ _ _ rfl rfl rfl rfl ?_; go_frame)
      | ((with_reducible change wpList _ _ _ (Oper.mk (some 92) _ _ _ _ _ :: _) _ _); refine mLoad hM37 1 _ _ _ rfl rfl rfl rfl ?_; go_frame)
      | ((with_reducible change wpList _ _ _ (Oper.mk (some 93) _ _ _ _ _ :: _) _ _); refine kNeqW _ _ _ p qr false rfl rfl rfl rfl (by rw [F2.out]; simp) ?_; go_frame)
      | ((with_reducible change wpList _ _ _ (Oper.mk (some 96) _ _ _ _ _ :: _) _ _); refine mLoad hM37 0 _ _ _ rfl rfl rfl rfl ?_; go_frame)
      | ((with_reducible change wpList _ _ _ (Oper.mk (some 97) _ _ _ _ _ :: _) _ _); refine mLoad hM37 14 _ _ _ rfl rfl rfl rfl ?_; go_frame)
      | ((with_reducible change wpList _ _ _ (Oper.mk (some 98) _ _ _ _ _ :: _) _ _); refine kNeqW _ _ _ back a false rfl rfl rfl rfl (by rw [F3.out]; simp) ?_; go_frame)
      | ((with_reducible change wpList _ _ _ (Oper.mk (some 100) _ _ _ _ _ :: _) _ _); refine mLoad hM37 13 _ _ _ rfl rfl rfl rfl ?_; go_frame)
      | ((with_reducible change wpList _ _ _ (Oper.mk (some 102) _ _ _ _ _ :: _) _ _); refine kEqlW _ _ _ b 0 true rfl rfl rfl (by rw [lit_zero]; rfl) (D0.out) ?_; go_frame))
    go_ret
    exact ⟨rfl, hM37.below⟩
  · have D0 := Lib.hid (show decide (b % M256 = 0 % M256) = false by rw [Nat.mod_eq_of_lt mb, Nat.zero_mod]; exact decide_eq_false hb0)
    have Hb0 := Lib.hid hb0
    clear hb0
    go_enter Try.func8, Try.ntmps8
    go_wp2_with (first
      | ((with_reducible change wpList _ _ _ (Oper.mk (some 3) _ _ _ _ _ :: _) _ _); refine mBox hM0 _ _ rfl rfl rfl ?_; intro w1 hM1; clear hM0; go_frame)
      | ((with_reducible change wpList _ _ _ (Oper.mk (some 4) _ _ _ _ _ :: _) _ _); refine mBox hM1 _ _ rfl rfl rfl ?_; intro w2 hM2; clear hM1; go_frame)
      | ((with_reducible change wpList _ _ _ (Oper.mk (some 5) _ _ _ _ _ :: _) _ _); refine mBox hM2 _ _ rfl rfl rfl ?_; intro w3 hM3; clear hM2; go_frame)
      | (go_at_call 14; refine (wideAlive_any _).mono ?_; rintro e w4 ⟨rfl, hB4⟩; have hM4 := hM3.on hB4; clear hB4 hM3; (try unfold WV); go_frame)
      | ((with_reducible change wpList _ _ _ (Oper.mk (some 34) _ _ _ _ _ :: _) _ _); refine mLoad hM4 2 _ _ _ rfl rfl rfl rfl ?_; go_frame)
      | ((with_reducible change wpList _ _ _ (Oper.mk (some 35) _ _ _ _ _ :: _) _ _); refine mLoad hM4 1 _ _ _ rfl rfl rfl rfl ?_; go_frame)
      | (go_at_call 20; (with_reducible change Calls _ _ #[Value.agg (wcells a), Value.agg (wcells b)] _ _); refine (wAdd_any a b ma mb _).mono ?_; rintro e w5 ⟨rfl, hB5⟩; have hM5 := hM4.on hB5; clear hB5 hM4; (try unfold WV); rw [← wcells_mod (a + b)]; (generalize hxab : (a + b) % M256 = ab); have mab : ab < M256 := (by rw [← hxab]; exact Nat.mod_lt _ M256_pos); have Hab := Lib.hid hxab; clear hxab; go_frame)
      | ((with_reducible change wpList _ _ _ (Oper.mk (some 7) _ _ _ _ _ :: _) _ _); refine mAlloc hM5 rfl rfl ?_; intro w6 hM6; clear hM5; go_frame)
      | ((with_reducible change wpList _ _ _ (Oper.mk none (Op.store _ (Operand.tmp 7) _) _ _ _ _ :: _) _ _); refine mStore0 hM6 _ _ (ab) rfl rfl rfl rfl ?_; intro w7 hM7; clear hM6; go_frame)
      | ((with_reducible change wpList _ _ _ (Oper.mk (some 40) _ _ _ _ _ :: _) _ _); refine mLoad hM7 0 _ _ _ rfl rfl rfl rfl ?_; go_frame)
      | ((with_reducible change wpList _ _ _ (Oper.mk (some 41) _ _ _ _ _ :: _) _ _); refine mLoad hM7 1 _ _ _ rfl rfl rfl rfl ?_; go_frame)
      | (go_at_call 20; (with_reducible change Calls _ _ #[Value.agg (wcells ab), Value.agg (wcells c)] _ _); refine (wAdd_any ab c mab mc _).mono ?_; rintro e w8 ⟨rfl, hB8⟩; have hM8 := hM7.on hB8; clear hB8 hM7; (try unfold WV); rw [← wcells_mod (ab + c)]; (generalize hxabc : (ab + c) % M256 = abc); have mabc : abc < M256 := (by rw [← hxabc]; exact Nat.mod_lt _ M256_pos); have Habc := Lib.hid hxabc; clear hxabc; go_frame)
      | ((with_reducible change wpList _ _ _ (Oper.mk (some 9) _ _ _ _ _ :: _) _ _); refine mAlloc hM8 rfl rfl ?_; intro w9 hM9; clear hM8; go_frame)
      | ((with_reducible change wpList _ _ _ (Oper.mk none (Op.store _ (Operand.tmp 9) _) _ _ _ _ :: _) _ _); refine mStore0 hM9 _ _ (abc) rfl rfl rfl rfl ?_; intro w10 hM10; clear hM9; go_frame)
      | ((with_reducible change wpList _ _ _ (Oper.mk (some 46) _ _ _ _ _ :: _) _ _); refine mLoad hM10 3 _ _ _ rfl rfl rfl rfl ?_; go_frame)
      | ((with_reducible change wpList _ _ _ (Oper.mk (some 47) _ _ _ _ _ :: _) _ _); refine mLoad hM10 2 _ _ _ rfl rfl rfl rfl ?_; go_frame)
      | (go_at_call 20; (with_reducible change Calls _ _ #[Value.agg (wcells b), Value.agg (wcells c)] _ _); refine (wAdd_any b c mb mc _).mono ?_; rintro e w11 ⟨rfl, hB11⟩; have hM11 := hM10.on hB11; clear hB11 hM10; (try unfold WV); rw [← wcells_mod (b + c)]; (generalize hxbc : (b + c) % M256 = bc); have mbc : bc < M256 := (by rw [← hxbc]; exact Nat.mod_lt _ M256_pos); have Hbc := Lib.hid hxbc; clear hxbc; go_frame)
      | ((with_reducible change wpList _ _ _ (Oper.mk (some 11) _ _ _ _ _ :: _) _ _); refine mAlloc hM11 rfl rfl ?_; intro w12 hM12; clear hM11; go_frame)
      | ((with_reducible change wpList _ _ _ (Oper.mk none (Op.store _ (Operand.tmp 11) _) _ _ _ _ :: _) _ _); refine mStore0 hM12 _ _ (bc) rfl rfl rfl rfl ?_; intro w13 hM13; clear hM12; go_frame)
      | ((with_reducible change wpList _ _ _ (Oper.mk (some 52) _ _ _ _ _ :: _) _ _); refine mLoad hM13 5 _ _ _ rfl rfl rfl rfl ?_; go_frame)
      | ((with_reducible change wpList _ _ _ (Oper.mk (some 53) _ _ _ _ _ :: _) _ _); refine mLoad hM13 0 _ _ _ rfl rfl rfl rfl ?_; go_frame)
      | (go_at_call 20; (with_reducible change Calls _ _ #[Value.agg (wcells a), Value.agg (wcells bc)] _ _); refine (wAdd_any a bc ma mbc _).mono ?_; rintro e w14 ⟨rfl, hB14⟩; have hM14 := hM13.on hB14; clear hB14 hM13; (try unfold WV); rw [← wcells_mod (a + bc)]; (generalize hxcab : (a + bc) % M256 = cab); have mcab : cab < M256 := (by rw [← hxcab]; exact Nat.mod_lt _ M256_pos); have Hcab := Lib.hid hxcab; clear hxcab; go_frame)
      | ((with_reducible change wpList _ _ _ (Oper.mk (some 13) _ _ _ _ _ :: _) _ _); refine mAlloc hM14 rfl rfl ?_; intro w15 hM15; clear hM14; go_frame)
      | ((with_reducible change wpList _ _ _ (Oper.mk none (Op.store _ (Operand.tmp 13) _) _ _ _ _ :: _) _ _); refine mStore0 hM15 _ _ (cab) rfl rfl rfl rfl ?_; intro w16 hM16; clear hM15; go_frame)
      | ((with_reducible change wpList _ _ _ (Oper.mk (some 58) _ _ _ _ _ :: _) _ _); refine mLoad hM16 3 _ _ _ rfl rfl rfl rfl ?_; go_frame)
      | ((with_reducible change wpList _ _ _ (Oper.mk (some 59) _ _ _ _ _ :: _) _ _); refine mLoad hM16 4 _ _ _ rfl rfl rfl rfl ?_; go_frame)
      | (go_at_call 13; (with_reducible change Calls _ _ #[Value.agg (wcells ab), Value.agg (wcells c)] _ _); refine (wMul_any ab c mab mc _).mono ?_; rintro e w17 ⟨rfl, hB17⟩; have hM17 := hM16.on hB17; clear hB17 hM16; (try unfold WV); rw [← wcells_mod (ab * c)]; (generalize hxp : (ab * c) % M256 = p); have mp : p < M256 := (by rw [← hxp]; exact Nat.mod_lt _ M256_pos); have Hp := Lib.hid hxp; clear hxp; go_frame)
      | ((with_reducible change wpList _ _ _ (Oper.mk (some 15) _ _ _ _ _ :: _) _ _); refine mAlloc hM17 rfl rfl ?_; intro w18 hM18; clear hM17; go_frame)
      | ((with_reducible change wpList _ _ _ (Oper.mk (some 16) _ _ _ _ _ :: _) _ _); refine mAlloc hM18 rfl rfl ?_; intro w19 hM19; clear hM18; go_frame)
      | ((with_reducible change wpList _ _ _ (Oper.mk none (Op.store _ (Operand.tmp 15) _) _ _ _ _ :: _) _ _); refine mStore1 hM19 _ _ (p) rfl rfl rfl rfl ?_; intro w20 hM20; clear hM19; go_frame)
      | ((with_reducible change wpList _ _ _ (Oper.mk none (Op.store _ (Operand.tmp 16) _) _ _ _ _ :: _) _ _); refine mStore0 hM20 _ _ (ab * c / M256) rfl rfl rfl rfl ?_; intro w21 hM21; clear hM20; go_frame)
      | ((with_reducible change wpList _ _ _ (Oper.mk (some 64) _ _ _ _ _ :: _) _ _); refine mLoad hM21 8 _ _ _ rfl rfl rfl rfl ?_; go_frame)
      | ((with_reducible change wpList _ _ _ (Oper.mk (some 65) _ _ _ _ _ :: _) _ _); refine mLoad hM21 6 _ _ _ rfl rfl rfl rfl ?_; go_frame)
      | (go_at_call 13; (with_reducible change Calls _ _ #[Value.agg (wcells a), Value.agg (wcells c)] _ _); refine (wMul_any a c ma mc _).mono ?_; rintro e w22 ⟨rfl, hB22⟩; have hM22 := hM21.on hB22; clear hB22 hM21; (try unfold WV); rw [← wcells_mod (a * c)]; (generalize hxq : (a * c) % M256 = q); have mq : q < M256 := (by rw [← hxq]; exact Nat.mod_lt _ M256_pos); have Hq := Lib.hid hxq; clear hxq; go_frame)
      | ((with_reducible change wpList _ _ _ (Oper.mk (some 17) _ _ _ _ _ :: _) _ _); refine mAlloc hM22 rfl rfl ?_; intro w23 hM23; clear hM22; go_frame)
      | ((with_reducible change wpList _ _ _ (Oper.mk (some 18) _ _ _ _ _ :: _) _ _); refine mAlloc hM23 rfl rfl ?_; intro w24 hM24; clear hM23; go_frame)
      | ((with_reducible change wpList _ _ _ (Oper.mk none (Op.store _ (Operand.tmp 17) _) _ _ _ _ :: _) _ _); refine mStore1 hM24 _ _ (q) rfl rfl rfl rfl ?_; intro w25 hM25; clear hM24; go_frame)
      | ((with_reducible change wpList _ _ _ (Oper.mk none (Op.store _ (Operand.tmp 18) _) _ _ _ _ :: _) _ _); refine mStore0 hM25 _ _ (a * c / M256) rfl rfl rfl rfl ?_; intro w26 hM26; clear hM25; go_frame)
      | ((with_reducible change wpList _ _ _ (Oper.mk (some 70) _ _ _ _ _ :: _) _ _); refine mLoad hM26 9 _ _ _ rfl rfl rfl rfl ?_; go_frame)
      | ((with_reducible change wpList _ _ _ (Oper.mk (some 71) _ _ _ _ _ :: _) _ _); refine mLoad hM26 8 _ _ _ rfl rfl rfl rfl ?_; go_frame)
      | (go_at_call 13; (with_reducible change Calls _ _ #[Value.agg (wcells b), Value.agg (wcells c)] _ _); refine (wMul_any b c mb mc _).mono ?_; rintro e w27 ⟨rfl, hB27⟩; have hM27 := hM26.on hB27; clear hB27 hM26; (try unfold WV); rw [← wcells_mod (b * c)]; (generalize hxr : (b * c) % M256 = r); have mr : r < M256 := (by rw [← hxr]; exact Nat.mod_lt _ M256_pos); have Hr := Lib.hid hxr; clear hxr; go_frame)
      | ((with_reducible change wpList _ _ _ (Oper.mk (some 19) _ _ _ _ _ :: _) _ _); refine mAlloc hM27 rfl rfl ?_; intro w28 hM28; clear hM27; go_frame)
      | ((with_reducible change wpList _ _ _ (Oper.mk (some 20) _ _ _ _ _ :: _) _ _); refine mAlloc hM28 rfl rfl ?_; intro w29 hM29; clear hM28; go_frame)
      | ((with_reducible change wpList _ _ _ (Oper.mk none (Op.store _ (Operand.tmp 19) _) _ _ _ _ :: _) _ _); refine mStore1 hM29 _ _ (r) rfl rfl rfl rfl ?_; intro w30 hM30; clear hM29; go_frame)
      | ((with_reducible change wpList _ _ _ (Oper.mk none (Op.store _ (Operand.tmp 20) _) _ _ _ _ :: _) _ _); refine mStore0 hM30 _ _ (b * c / M256) rfl rfl rfl rfl ?_; intro w31 hM31; clear hM30; go_frame)
      | ((with_reducible change wpList _ _ _ (Oper.mk (some 76) _ _ _ _ _ :: _) _ _); refine mLoad hM31 3 _ _ _ rfl rfl rfl rfl ?_; go_frame)
      | ((with_reducible change wpList _ _ _ (Oper.mk (some 77) _ _ _ _ _ :: _) _ _); refine mLoad hM31 1 _ _ _ rfl rfl rfl rfl ?_; go_frame)
      | (go_at_call 20; (with_reducible change Calls _ _ #[Value.agg (wcells q), Value.agg (wcells r)] _ _); refine (wAdd_any q r mq mr _).mono ?_; rintro e w32 ⟨rfl, hB32⟩; have hM32 := hM31.on hB32; clear hB32 hM31; (try unfold WV); rw [← wcells_mod (q + r)]; (generalize hxqr : (q + r) % M256 = qr); have mqr : qr < M256 := (by rw [← hxqr]; exact Nat.mod_lt _ M256_pos); have Hqr := Lib.hid hxqr; clear hxqr; go_frame)
      | ((with_reducible change wpList _ _ _ (Oper.mk (some 21) _ _ _ _ _ :: _) _ _); refine mAlloc hM32 rfl rfl ?_; intro w33 hM33; clear hM32; go_frame)
      | ((with_reducible change wpList _ _ _ (Oper.mk none (Op.store _ (Operand.tmp 21) _) _ _ _ _ :: _) _ _); refine mStore0 hM33 _ _ (qr) rfl rfl rfl rfl ?_; intro w34 hM34; clear hM33; go_frame)
      | ((with_reducible change wpList _ _ _ (Oper.mk (some 82) _ _ _ _ _ :: _) _ _); refine mLoad hM34 10 _ _ _ rfl rfl rfl rfl ?_; go_frame)
      | ((with_reducible change wpList _ _ _ (Oper.mk (some 83) _ _ _ _ _ :: _) _ _); refine mLoad hM34 12 _ _ _ rfl rfl rfl rfl ?_; go_frame)
      | (go_at_call 10; (with_reducible change Calls _ _ #[Value.agg (wcells ab), Value.agg (wcells b)] _ _); refine (wSub_any ab b mab mb _).mono ?_; rintro e w35 ⟨rfl, hB35⟩; have hM35 := hM34.on hB35; clear hB35 hM34; (try unfold WV); rw [← wcells_mod (ab + M256 - b)]; (generalize hxback : (ab + M256 - b) % M256 = back); have mback : back < M256 := (by rw [← hxback]; exact Nat.mod_lt _ M256_pos); have Hback := Lib.hid hxback; clear hxback; go_frame)
      | ((with_reducible change wpList _ _ _ (Oper.mk (some 23) _ _ _ _ _ :: _) _ _); refine mAlloc hM35 rfl rfl ?_; intro w36 hM36; clear hM35; go_frame)
      | ((with_reducible change wpList _ _ _ (Oper.mk none (Op.store _ (Operand.tmp 23) _) _ _ _ _ :: _) _ _); refine mStore0 hM36 _ _ (back) rfl rfl rfl rfl ?_; intro w37 hM37; clear hM36; have F1 := Lib.hid (ring_add Hab.out Habc.out Hbc.out Hcab.out); have F2 := Lib.hid (ring_mul Hab.out Hp.out Hq.out Hr.out Hqr.out); have F3 := Lib.hid (ring_sub ma mb Hab.out Hback.out); go_frame)
      | ((with_reducible change wpList _ _ _ (Oper.mk (some 87) _ _ _ _ _ :: _) _ _); refine mLoad hM37 10 _ _ _ rfl rfl rfl rfl ?_; go_frame)
      | ((with_reducible change wpList _ _ _ (Oper.mk (some 88) _ _ _ _ _ :: _) _ _); refine mLoad hM37 8 _ _ _ rfl rfl rfl rfl ?_; go_frame)
      | ((with_reducible change wpList _ _ _ (Oper.mk (some 89) _ _ _ _ _ :: _) _ _); refine kNeqW _ _ _ abc cab false rfl rfl rfl rfl (by rw [F1.out]; simp) ?_; go_frame)
      | ((with_reducible change wpList _ _ _ (Oper.mk (some 91) _ _ _ _ _ :: _) _ _); refine mLoad hM37 7 _ _ _ rfl rfl rfl rfl ?_; go_frame)
      | ((with_reducible change wpList _ _ _ (Oper.mk (some 92) _ _ _ _ _ :: _) _ _); refine mLoad hM37 1 _ _ _ rfl rfl rfl rfl ?_; go_frame)
      | ((with_reducible change wpList _ _ _ (Oper.mk (some 93) _ _ _ _ _ :: _) _ _); refine kNeqW _ _ _ p qr false rfl rfl rfl rfl (by rw [F2.out]; simp) ?_; go_frame)
      | ((with_reducible change wpList _ _ _ (Oper.mk (some 96) _ _ _ _ _ :: _) _ _); refine mLoad hM37 0 _ _ _ rfl rfl rfl rfl ?_; go_frame)
      | ((with_reducible change wpList _ _ _ (Oper.mk (some 97) _ _ _ _ _ :: _) _ _); refine mLoad hM37 14 _ _ _ rfl rfl rfl rfl ?_; go_frame)
      | ((with_reducible change wpList _ _ _ (Oper.mk (some 98) _ _ _ _ _ :: _) _ _); refine kNeqW _ _ _ back a false rfl rfl rfl rfl (by rw [F3.out]; simp) ?_; go_frame)
      | ((with_reducible change wpList _ _ _ (Oper.mk (some 100) _ _ _ _ _ :: _) _ _); refine mLoad hM37 13 _ _ _ rfl rfl rfl rfl ?_; go_frame)
      | ((with_reducible change wpList _ _ _ (Oper.mk (some 102) _ _ _ _ _ :: _) _ _); refine kEqlW _ _ _ b 0 false rfl rfl rfl (by rw [lit_zero]; rfl) (D0.out) ?_; go_frame)
      | ((with_reducible change wpList _ _ _ (Oper.mk (some 104) _ _ _ _ _ :: _) _ _); refine mLoad hM37 14 _ _ _ rfl rfl rfl rfl ?_; go_frame)
      | ((with_reducible change wpList _ _ _ (Oper.mk (some 105) _ _ _ _ _ :: _) _ _); refine mLoad hM37 13 _ _ _ rfl rfl rfl rfl ?_; go_frame)
      | (go_at_call 12; (with_reducible change Calls _ _ #[Value.agg (wcells a), Value.agg (wcells b)] _ _); refine (wDiv_mod a b ma mb _).mono ?_; rintro e w38 ⟨rfl, hB38⟩; have hM38 := hM37.on hB38; clear hB38 hM37; (try unfold WV); (generalize hxt : a / b = t); (generalize hxs : a % b = s); have Ht := Lib.hid hxt; have Hs := Lib.hid hxs; have mt : t < M256 := (by rw [← hxt]; exact Nat.lt_of_le_of_lt (Nat.div_le_self _ _) ma); have ms : s < M256 := (by rw [← hxs]; exact Nat.lt_of_le_of_lt (Nat.mod_le _ _) ma); clear hxt hxs; go_frame)
      | ((with_reducible change wpList _ _ _ (Oper.mk (some 25) _ _ _ _ _ :: _) _ _); refine mAlloc hM38 rfl rfl ?_; intro w39 hM39; clear hM38; go_frame)
      | ((with_reducible change wpList _ _ _ (Oper.mk (some 26) _ _ _ _ _ :: _) _ _); refine mAlloc hM39 rfl rfl ?_; intro w40 hM40; clear hM39; go_frame)
      | ((with_reducible change wpList _ _ _ (Oper.mk none (Op.store _ (Operand.tmp 25) _) _ _ _ _ :: _) _ _); refine mStore1 hM40 _ _ (t) rfl rfl rfl rfl ?_; intro w41 hM41; clear hM40; go_frame)
      | ((with_reducible change wpList _ _ _ (Oper.mk none (Op.store _ (Operand.tmp 26) _) _ _ _ _ :: _) _ _); refine mStore0 hM41 _ _ (s) rfl rfl rfl rfl ?_; intro w42 hM42; clear hM41; go_frame)
      | ((with_reducible change wpList _ _ _ (Oper.mk (some 110) _ _ _ _ _ :: _) _ _); refine mLoad hM42 1 _ _ _ rfl rfl rfl rfl ?_; go_frame)
      | ((with_reducible change wpList _ _ _ (Oper.mk (some 111) _ _ _ _ _ :: _) _ _); refine mLoad hM42 15 _ _ _ rfl rfl rfl rfl ?_; go_frame)
      | (go_at_call 13; (with_reducible change Calls _ _ #[Value.agg (wcells t), Value.agg (wcells b)] _ _); refine (wMul_any t b mt mb _).mono ?_; rintro e w43 ⟨rfl, hB43⟩; have hM43 := hM42.on hB43; clear hB43 hM42; (try unfold WV); rw [← wcells_mod (t * b)]; (generalize hxlo : (t * b) % M256 = lo); have mlo : lo < M256 := (by rw [← hxlo]; exact Nat.mod_lt _ M256_pos); have Hlo := Lib.hid hxlo; clear hxlo; go_frame)
      | ((with_reducible change wpList _ _ _ (Oper.mk (some 27) _ _ _ _ _ :: _) _ _); refine mAlloc hM43 rfl rfl ?_; intro w44 hM44; clear hM43; go_frame)
      | ((with_reducible change wpList _ _ _ (Oper.mk (some 28) _ _ _ _ _ :: _) _ _); refine mAlloc hM44 rfl rfl ?_; intro w45 hM45; clear hM44; go_frame)
      | ((with_reducible change wpList _ _ _ (Oper.mk none (Op.store _ (Operand.tmp 27) _) _ _ _ _ :: _) _ _); refine mStore1 hM45 _ _ (lo) rfl rfl rfl rfl ?_; intro w46 hM46; clear hM45; go_frame)
      | ((with_reducible change wpList _ _ _ (Oper.mk none (Op.store _ (Operand.tmp 28) _) _ _ _ _ :: _) _ _); refine mStore0 hM46 _ _ (t * b / M256) rfl rfl rfl rfl ?_; intro w47 hM47; clear hM46; go_frame)
      | ((with_reducible change wpList _ _ _ (Oper.mk (some 116) _ _ _ _ _ :: _) _ _); refine mLoad hM47 1 _ _ _ rfl rfl rfl rfl ?_; go_frame)
      | ((with_reducible change wpList _ _ _ (Oper.mk (some 117) _ _ _ _ _ :: _) _ _); refine mLoad hM47 2 _ _ _ rfl rfl rfl rfl ?_; go_frame)
      | (go_at_call 20; (with_reducible change Calls _ _ #[Value.agg (wcells lo), Value.agg (wcells s)] _ _); refine (wAdd_any lo s mlo ms _).mono ?_; rintro e w48 ⟨rfl, hB48⟩; have hM48 := hM47.on hB48; clear hB48 hM47; (try unfold WV); have G := ring_end Hb0.out ma Ht.out Hs.out Hlo.out; rw [G.1]; have G2 := Lib.hid G.2; clear G; rw [← wcells_mod (lo + s)]; (generalize hxwh : (lo + s) % M256 = wh); have mwh : wh < M256 := (by rw [← hxwh]; exact Nat.mod_lt _ M256_pos); have Hwh := Lib.hid hxwh; clear hxwh; go_frame)
      | ((with_reducible change wpList _ _ _ (Oper.mk (some 29) _ _ _ _ _ :: _) _ _); refine mAlloc hM48 rfl rfl ?_; intro w49 hM49; clear hM48; go_frame)
      | ((with_reducible change wpList _ _ _ (Oper.mk none (Op.store _ (Operand.tmp 29) _) _ _ _ _ :: _) _ _); refine mStore0 hM49 _ _ (wh) rfl rfl rfl rfl ?_; intro w50 hM50; clear hM49; go_frame)
      | ((with_reducible change wpList _ _ _ (Oper.mk (some 121) _ _ _ _ _ :: _) _ _); refine mLoad hM50 1 _ _ _ rfl rfl rfl rfl ?_; go_frame)
      | ((with_reducible change wpList _ _ _ (Oper.mk (some 123) _ _ _ _ _ :: _) _ _); refine kEqlW _ _ _ (t * b / M256) 0 true rfl rfl rfl (by rw [lit_zero]; rfl) (G2.out.1) ?_; go_frame)
      | ((with_reducible change wpList _ _ _ (Oper.mk (some 125) _ _ _ _ _ :: _) _ _); refine mLoad hM50 0 _ _ _ rfl rfl rfl rfl ?_; go_frame)
      | ((with_reducible change wpList _ _ _ (Oper.mk (some 126) _ _ _ _ _ :: _) _ _); refine mLoad hM50 19 _ _ _ rfl rfl rfl rfl ?_; go_frame)
      | ((with_reducible change wpList _ _ _ (Oper.mk (some 127) _ _ _ _ _ :: _) _ _); refine kEqlW _ _ _ wh a true rfl rfl rfl (rfl) (by rw [← Hwh.out, Nat.mod_mod]; exact G2.out.2.1) ?_; go_frame)
      | ((with_reducible change wpList _ _ _ (Oper.mk (some 134) _ _ _ _ _ :: _) _ _); refine mLoad hM50 3 _ _ _ rfl rfl rfl rfl ?_; go_frame)
      | ((with_reducible change wpList _ _ _ (Oper.mk (some 135) _ _ _ _ _ :: _) _ _); refine mLoad hM50 18 _ _ _ rfl rfl rfl rfl ?_; go_frame)
      | (go_at_call 24; (with_reducible change Calls _ _ #[Value.agg (wcells s), Value.agg (wcells b)] _ _); refine (wLess_any s b ms mb _).mono ?_; rintro e w51 ⟨rfl, hB51⟩; have hM51 := hM50.on hB51; clear hB51 hM50; (try unfold WV); rw [G2.out.2.2]; go_frame))
    go_ret
    exact ⟨rfl, hM51.below⟩
end Go.Proofs.Ytehklogmeinocaa
