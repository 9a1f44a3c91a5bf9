/-
  The walk of the statement WideNames.
-/
import Derived.Test.YtehklogmeinocaaWMem
namespace Go.Proofs.Ytehklogmeinocaa
open Go Go.RowKit

theorem wOf_lit (k : Nat) (v : Int) (h : k < 18446744073709551616) (hv : v = (k : Int)) (w : World) :
    Calls Try.prog 11 #[.int .u64 v] w fun e w' => e = .returned (WV k) ∧ Below w.heap.size w w' := by
  subst hv; exact wOf_any k h w

theorem wBits_val (a : Nat) (cs : Array Value) (z : Int) (ha : a < M256) (hc : cs = wcells a) (h : (blen a : Int) = z) (w : World) :
    Calls Try.prog 15 #[.agg cs] w fun e w' => e = .returned (.int .i64 z) ∧ Below w.heap.size w w' := by
  subst hc; subst h; exact wBits_any a ha w

section
variable {ops : Array Oper} {Q : Act → Prop} {rest : List Oper} {o : Oper} {a : Act} {w0 w : World} {l : List (Nat × Nat)} {C : World → Prop}
theorem qLoadM (hM : Mem w0 w l) (i : Nat) (x : Operand) (g n : Nat) (hi : l[i]? = some (g, n)) (ho : o.op = .load 24 x) (hg : Region.wanted o (yielded ops a.tmps) = true) (hx : a.eval x = .pointer (some ⟨g, 0, none⟩))
    (h : wpQuiet Try.prog ops (fun w' => ∃ p : Regrown, w' = «Sort».grow (redrawn w p.d) p.os) Q rest (a.put o.dst (.agg (wcells n)))) : wpQuiet Try.prog ops (fun w' => ∃ p : Regrown, w' = «Sort».grow (redrawn w p.d) p.os) Q (o :: rest) a :=
  qLoadAs _ _ x g 0 4 _ (wcells n) _ ho hg hx (fun _ hw => row_regrown (hM.get i hi) hw) Try.underlying24 rfl info_Wide (by rw [wcells_size]; omega) (by
    have : (wcells n).extract 0 (0 + 4) = (wcells n).extract 0 (wcells n).size := by rw [wcells_size]
    rw [this]; simp) h
theorem qEqlW (T2 : TypeId) (x y : Operand) (m n : Nat) (b : Bool) (ho : o.op = .binOp .eql 24 x y T2) (hg : Region.wanted o (yielded ops a.tmps) = true) (hx : a.eval x = .agg (wcells m)) (hy : a.eval y = .agg (wcells n)) (hb : decide (m % M256 = n % M256) = b)
    (h : wpQuiet Try.prog ops C Q rest (a.put o.dst (.bool b))) : wpQuiet Try.prog ops C Q (o :: rest) a :=
  qStep _ hg (fun w _ => exec_eqlW T2 x y m n b ho hx hy hb w) h
end

set_option maxRecDepth 100000 in
set_option maxHeartbeats 4000000 in
theorem WideNames_any (w : World) :
    Calls Try.prog 3 #[] w fun e w' => e = .returned (.bool true) ∧ Below w.heap.size w w' := by
  obtain ⟨n0, H0⟩ : ∃ n, Hid (n = 0) := ⟨0, Lib.hid rfl⟩
  obtain ⟨n1, H1⟩ : ∃ n, Hid (n = 1) := ⟨1, Lib.hid rfl⟩
  obtain ⟨n7, H7⟩ : ∃ n, Hid (n = 7) := ⟨7, Lib.hid rfl⟩
  obtain ⟨A, HA⟩ : ∃ n, Hid (n = M256 - 1) := ⟨M256 - 1, Lib.hid rfl⟩
  have hA : n0 + M256 - n1 = A := by rw [H0.out, H1.out, HA.out]; omega
  have hAM : A < M256 := by rw [HA.out]; decide
  have hlt : decide (n0 < n1) = true := by rw [H0.out, H1.out]; rfl
  have h0 : n0 < 18446744073709551616 := by rw [H0.out]; decide
  have h1 : n1 < 18446744073709551616 := by rw [H1.out]; decide
  have h7 : n7 < 18446744073709551616 := by rw [H7.out]; decide
  have m0 : n0 < M256 := by rw [H0.out]; decide
  have m1 : n1 < M256 := by rw [H1.out]; decide
  have m7 : n7 < M256 := by rw [H7.out]; decide
  have E0 : (0 : Int) = (n0 : Int) := by rw [H0.out]; rfl
  have E1 : (1 : Int) = (n1 : Int) := by rw [H1.out]; rfl
  have E7 : (7 : Int) = (n7 : Int) := by rw [H7.out]; rfl
  replace E0 := Lib.hid E0
  replace E1 := Lib.hid E1
  replace E7 := Lib.hid E7
  have hq : n7 / n0 = n0 := by rw [H7.out, H0.out]
  have hr : n7 % n0 = n7 := by rw [H0.out, Nat.mod_zero]
  have hb1 : blen A = 256 := by rw [HA.out]; decide +kernel
  have hM0 := mem_nil w
  go_enter Try.func3, Try.ntmps3
  go_wp2_with (first
    | ((with_reducible change wpList _ _ _ (Oper.mk (some 1) _ _ _ _ _ :: _) _ _); refine mAlloc hM3 rfl rfl ?_; intro w4 hM4; clear hM3; go_frame)
    | ((with_reducible change wpList _ _ _ (Oper.mk none (Op.store _ (Operand.tmp 1) _) _ _ _ _ :: _) _ _); refine mStore0 hM4 _ _ A rfl rfl rfl rfl ?_; intro w5 hM5; clear hM4; go_frame)
    | ((with_reducible change wpList _ _ _ (Oper.mk (some 3) _ _ _ _ _ :: _) _ _); refine mAlloc hM8 rfl rfl ?_; intro w9 hM9; clear hM8; go_frame)
    | ((with_reducible change wpList _ _ _ (Oper.mk (some 4) _ _ _ _ _ :: _) _ _); refine mAlloc hM9 rfl rfl ?_; intro w10 hM10; clear hM9; go_frame)
    | ((with_reducible change wpList _ _ _ (Oper.mk none (Op.store _ (Operand.tmp 3) _) _ _ _ _ :: _) _ _); refine mStore1 hM10 _ _ n0 rfl rfl rfl rfl ?_; intro w11 hM11; clear hM10; go_frame)
    | ((with_reducible change wpList _ _ _ (Oper.mk none (Op.store _ (Operand.tmp 4) _) _ _ _ _ :: _) _ _); refine mStore0 hM11 _ _ n7 rfl rfl rfl rfl ?_; intro w12 hM12; clear hM11; go_frame)
    | ((with_reducible change wpList _ _ _ (Oper.mk (some 20) _ _ _ _ _ :: _) _ _); refine mLoad hM12 2 _ _ _ rfl rfl rfl rfl ?_; go_frame)
    | ((with_reducible change wpList _ _ _ (Oper.mk (some 21) _ _ _ _ _ :: _) _ _); refine mLoad hM12 2 _ _ _ rfl rfl rfl rfl ?_; go_frame)
    | ((with_reducible change wpList _ _ _ (Oper.mk (some 5) _ _ _ _ _ :: _) _ _); refine mAlloc hM13 rfl rfl ?_; intro w14 hM14; clear hM13; go_frame)
    | ((with_reducible change wpList _ _ _ (Oper.mk (some 6) _ _ _ _ _ :: _) _ _); refine mAlloc hM14 rfl rfl ?_; intro w15 hM15; clear hM14; go_frame)
    | ((with_reducible change wpList _ _ _ (Oper.mk none (Op.store _ (Operand.tmp 5) _) _ _ _ _ :: _) _ _); refine mStore1 hM15 _ _ (A * A) rfl rfl rfl rfl ?_; intro w16 hM16; clear hM15; go_frame)
    | ((with_reducible change wpList _ _ _ (Oper.mk none (Op.store _ (Operand.tmp 6) _) _ _ _ _ :: _) _ _); refine mStore0 hM16 _ _ (A * A / M256) rfl rfl rfl rfl ?_; intro w17 hM17; clear hM16; go_frame)
    | (go_at_call 11; (with_reducible change Calls _ _ #[Value.int IntKind.u64 1] _ _); refine (wOf_lit n1 1 h1 E1.out _).mono ?_; rintro e w2 ⟨rfl, hB2⟩; have hM2 := hM1.on hB2; clear hB2 hM1; unfold WV; go_frame)
    | (go_at_call 11; (with_reducible change Calls _ _ #[Value.int IntKind.u64 7] _ _); refine (wOf_lit n7 7 h7 E7.out _).mono ?_; rintro e w6 ⟨rfl, hB6⟩; have hM6 := hM5.on hB6; clear hB6 hM5; unfold WV; go_frame)
    | (go_at_call 11; (with_reducible change Calls _ _ #[Value.int IntKind.u64 0] _ _); refine (wOf_lit n0 0 h0 E0.out _).mono ?_; first | (rintro e w7 ⟨rfl, hB7⟩; have hM7 := hM6.on hB7; clear hB7 hM6; unfold WV; go_frame) | (rintro e w1 ⟨rfl, hB1⟩; have hM1 := hM0.on hB1; clear hB1; unfold WV; go_frame))
    | (go_at_call 10; refine (wSub_any n0 n1 m0 m1 _).mono ?_; rintro e w3 ⟨rfl, hB3⟩; have hM3 := hM2.on hB3; clear hB3 hM2; unfold WV; rw [hA, hlt]; go_frame)
    | (go_at_call 12; refine (wDiv_mod n7 n0 m7 m0 _).mono ?_; rintro e w8 ⟨rfl, hB8⟩; have hM8 := hM7.on hB8; clear hB8 hM7; unfold WV; rw [hq, hr]; go_frame)
    | (go_at_call 13; refine (wMul_any A A hAM hAM _).mono ?_; rintro e w13 ⟨rfl, hB13⟩; have hM13 := hM12.on hB13; clear hB13 hM12; unfold WV; go_frame))
  have eLow : decide (A * A % M256 = n1 % M256) = true := by rw [HA.out, H1.out]; decide +kernel
  have eHigh : limb (A * A / M256) 0 = 18446744073709551614 := by rw [HA.out]; decide +kernel
  have eLeft : decide (A * 2 ^ (256 : Int).toNat % M256 = 0 % M256) = true := by rw [HA.out]; decide +kernel
  have eRight : decide (A / 2 ^ (256 : Int).toNat % M256 = 0 % M256) = true := by rw [HA.out]; decide +kernel
  have e0 : decide (n0 % M256 = 0 % M256) = true := by rw [H0.out]; decide +kernel
  have e7 : decide (n7 % M256 = n7 % M256) = true := by simp
  have eA : decide (A * 2 ^ (-1 : Int).toNat % M256 = A % M256) = true := by simp
  have z0 : (0 : Nat) < M256 := M256_pos
  refine region_below_tail 52 (by kernel_rfl) (by kernel_rfl) ?_
  simp only [List.take_succ_cons, List.take_zero, List.drop_succ_cons, List.drop_zero]
  repeat (first
    | ((with_reducible change wpQuiet _ _ _ _ (Oper.mk (some 30) _ _ _ _ _ :: _) _); refine qLoadM hM17 4 _ _ _ rfl rfl rfl rfl ?_; go_frame)
    | ((with_reducible change wpQuiet _ _ _ _ (Oper.mk (some 60) _ _ _ _ _ :: _) _); refine qLoadM hM17 4 _ _ _ rfl rfl rfl rfl ?_; go_frame)
    | ((with_reducible change wpQuiet _ _ _ _ (Oper.mk (some 66) _ _ _ _ _ :: _) _); refine qLoadM hM17 4 _ _ _ rfl rfl rfl rfl ?_; go_frame)
    | ((with_reducible change wpQuiet _ _ _ _ (Oper.mk (some 72) _ _ _ _ _ :: _) _); refine qLoadM hM17 4 _ _ _ rfl rfl rfl rfl ?_; go_frame)
    | ((with_reducible change wpQuiet _ _ _ _ (Oper.mk (some 74) _ _ _ _ _ :: _) _); refine qLoadM hM17 4 _ _ _ rfl rfl rfl rfl ?_; go_frame)
    | ((with_reducible change wpQuiet _ _ _ _ (Oper.mk (some 40) _ _ _ _ _ :: _) _); refine qLoadM hM17 3 _ _ _ rfl rfl rfl rfl ?_; go_frame)
    | ((with_reducible change wpQuiet _ _ _ _ (Oper.mk (some 45) _ _ _ _ _ :: _) _); refine qLoadM hM17 2 _ _ _ rfl rfl rfl rfl ?_; go_frame)
    | ((with_reducible change wpQuiet _ _ _ _ (Oper.mk (some 50) _ _ _ _ _ :: _) _); refine qLoadM hM17 1 _ _ _ rfl rfl rfl rfl ?_; go_frame)
    | ((with_reducible change wpQuiet _ _ _ _ (Oper.mk (some 42) _ _ _ _ _ :: _) _); refine qEqlW _ _ _ n0 0 true rfl rfl rfl (by rw [lit_zero]; rfl) e0 ?_; go_frame)
    | ((with_reducible change wpQuiet _ _ _ _ (Oper.mk (some 47) _ _ _ _ _ :: _) _); refine qEqlW _ _ _ n7 n7 true rfl rfl rfl rfl e7 ?_; go_frame)
    | ((with_reducible change wpQuiet _ _ _ _ (Oper.mk (some 52) _ _ _ _ _ :: _) _); refine qEqlW _ _ _ (A * A) n1 true rfl rfl rfl rfl eLow ?_; go_frame)
    | ((with_reducible change wpQuiet _ _ _ _ (Oper.mk (some 55) _ _ _ _ _ :: _) _); refine qIndexAddr1 _ _ _ _ _ _ _ 0 _ rfl rfl rfl rfl Try.underlying24 info_w64 rfl (by decide) ?_; go_frame)
    | ((with_reducible change wpQuiet _ _ _ _ (Oper.mk (some 56) _ _ _ _ _ :: _) _); refine qLoad1 _ _ _ _ _ _ _ _ rfl rfl rfl (fun _ hw => row_regrown (hM17.get 0 rfl) hw) Try.underlying22 rfl (wcells_get _ 0 (by decide)) ?_; rw [eHigh]; go_frame)
    | ((with_reducible change wpQuiet _ _ _ _ (Oper.mk (some 63) _ _ _ _ _ :: _) _); refine qEqlW _ _ _ (A * 2 ^ (256 : Int).toNat) 0 true rfl rfl rfl (by rw [lit_zero]; rfl) eLeft ?_; go_frame)
    | ((with_reducible change wpQuiet _ _ _ _ (Oper.mk (some 69) _ _ _ _ _ :: _) _); refine qEqlW _ _ _ (A / 2 ^ (256 : Int).toNat) 0 true rfl rfl rfl (by rw [lit_zero]; rfl) eRight ?_; go_frame)
    | ((with_reducible change wpQuiet _ _ _ _ (Oper.mk (some 75) _ _ _ _ _ :: _) _); refine qEqlW _ _ _ (A * 2 ^ (-1 : Int).toNat) A true rfl rfl rfl rfl eA ?_; go_frame)
    | go_big_quiet_step (first
      | (go_at_call 14; exact Calls.regrown_of (wideAlive_any _))
      | (go_at_call 15; (with_reducible change Calls _ _ #[Value.agg (wcells A)] _ _); exact Calls.regrown_of (wBits_val A _ 256 hAM rfl (by rw [hb1]; rfl) _))
      | (go_at_call 15; exact Calls.regrown_of (wBits_val 0 _ 0 z0 lit_zero.symm rfl _))
      | (go_at_call 11; (with_reducible change Calls _ _ #[Value.int IntKind.u64 1] _ _); exact Calls.regrown_of (wOf_lit n1 1 h1 E1.out _))
      | (go_at_call 11; (with_reducible change Calls _ _ #[Value.int IntKind.u64 7] _ _); exact Calls.regrown_of (wOf_lit n7 7 h7 E7.out _))
      | (go_at_call 16; (with_reducible change Calls _ _ #[_, Value.int IntKind.i64 256] _ _); exact Calls.regrown_of (wLeft_any A 256 (by decide) _))
      | (go_at_call 16; exact Calls.regrown_of (wLeft_any A (-1) (by decide) _))
      | (go_at_call 17; exact Calls.regrown_of (wRight_any A 256 hAM (by decide) _))))
  refine wpQuiet_nil ?_
  rintro _ ⟨p, rfl⟩
  have hbr := below_regrown w17 p.d p.os
  have hB := hM17.below.trans (hbr.mono hM17.size)
  go_wp2
  go_ret
  exact ⟨rfl, hB⟩
end Go.Proofs.Ytehklogmeinocaa
