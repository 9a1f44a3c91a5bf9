/-
  The walk of the statement WideSums.
-/
import Derived.Test.YtehklogmeinocaaWRef3
import Derived.Test.YtehklogmeinocaaKit7
namespace Go.Proofs.Ytehklogmeinocaa
open Go Go.RowKit

theorem cmp_lt (x y : Nat) : decide (cmpI x y < 0) = decide (x < y) := by
  unfold cmpI; rw [decide_eq_decide]
  split
  · constructor <;> intro _ <;> omega
  · split <;> (constructor <;> intro _ <;> omega)
theorem cmp_ge (x y : Nat) : decide (cmpI x y ≥ 0) = decide (y ≤ x) := by
  unfold cmpI; rw [decide_eq_decide]
  split
  · constructor <;> intro _ <;> omega
  · split <;> (constructor <;> intro _ <;> omega)
section
variable {P : Program} {ops : Array Oper} {S : World → Prop} {Q : Exit → Act → World → Prop} {L : Act → World → Prop} {bs : List Bool} {o : Oper} {rest : List Oper} {a : Act} {w : World}
theorem mixPick (c x y : Operand) (b : Bool) (v : Value) (hS : S w) (ho : o.op = .pick c x y) (hg : Region.wanted o (yielded ops a.tmps) = true) (hc : a.eval c = .bool b) (hv : (if b = true then a.eval x else a.eval y) = v)
    (h : wpMix P ops Q S L bs rest (a.put o.dst v) w) : wpMix P ops Q S L (true :: bs) (o :: rest) a w := by
  subst hv
  refine mixQuiet _ hS hg (fun w _ => ?_) h
  unfold execOp
  simp only [ho, hc, asBool, Sem.run_bind, Sem.run_pure, Result.andThen_ok]
theorem mixEqlBool (T T2 : TypeId) (x y : Operand) (b c d : Bool) (hS : S w) (ho : o.op = .binOp .eql T x y T2) (hg : Region.wanted o (yielded ops a.tmps) = true) (hx : a.eval x = .bool b) (hy : a.eval y = .bool c) (ht : P.underlying T = some .bool) (hd : (b == c) = d)
    (h : wpMix P ops Q S L bs rest (a.put o.dst (.bool d)) w) : wpMix P ops Q S L (true :: bs) (o :: rest) a w := by
  subst hd
  refine mixQuiet _ hS hg (fun w _ => ?_) h
  have hr := run_eqlBool (P := P) (w := w) T b c x y ht
  unfold execOp
  simp only [ho, hx, hy]
  rw [Sem.run_bind, hr]; rfl
theorem exec_geq {T T2 : TypeId} {x y : Operand} {z c : Int} {d : Bool} (ho : o.op = .binOp .geq T x y T2) (hx : a.eval x = .int .i64 z) (hy : a.eval y = .int .i64 c) (hd : decide (z ≥ c) = d) (w : World) : (execOp a.eval o).run P w = .ok (.value (.bool d)) w := by
  subst hd
  unfold execOp
  simp only [ho, hx, hy]
  simp [eqGuard, binOp, Op.intCmp]
end

set_option maxRecDepth 100000 in
set_option maxHeartbeats 16000000 in
theorem WideSums_any (a : Nat) (ma : a < M256) (b : Nat) (mb : b < M256) (w : World) :
    Calls Try.prog 4 #[WV a, WV b] w fun e w' => e = .returned (.bool true) ∧ Below w.heap.size w w' := by
  have hM0 := mem_nil w
  have dx := digsOf_digs a 16
  have dy := digsOf_digs b 16
  obtain ⟨mm, Hmm⟩ : ∃ mm, Hid (decide (M256 ≤ a + b) = mm) := ⟨_, Lib.hid rfl⟩
  obtain ⟨cz, Hcz⟩ : ∃ cz, Hid (cmpI a b = cz) := ⟨_, Lib.hid rfl⟩
  obtain ⟨cm, Hcm0⟩ : ∃ cm, Hid (cmpI (a + b) M256 = cm) := ⟨_, Lib.hid rfl⟩
  have Hcm := Lib.hid (show decide (cm ≥ 0) = mm by rw [← Hcm0.out, cmp_ge, Hmm.out])
  have hcz : cmpI (dval (digsOf a 16)) (dval (digsOf b 16)) = cz := by rw [digsOf_16 a ma, digsOf_16 b mb]; exact Hcz.out
  unfold WV
  go_enter Try.func4, Try.ntmps4
  go_wp2_with (first
    | ((with_reducible change wpList _ _ _ (Oper.mk (some 2) _ _ _ _ _ :: _) _ _); refine mBox hM0 _ _ rfl rfl rfl ?_; intro w1 hM1; clear hM0; go_frame)
    | ((with_reducible change wpList _ _ _ (Oper.mk (some 3) _ _ _ _ _ :: _) _ _); refine mBox hM1 _ _ rfl rfl rfl ?_; intro w2 hM2; clear hM1; go_frame)
    | (go_at_call 14; refine (wideAlive_any _).mono ?_; rintro e w3 ⟨rfl, hB3⟩; have hM3 := hM2.on hB3; clear hB3 hM2; go_frame))
  refine region_mixP [(0, true), (2, true), (1, false), (3, false)] (fun w' => Mem w w' [(w1.heap.size, b), (w.heap.size, a)]) (by kernel_rfl) (by kernel_rfl) rfl ?_
  intro q0 hb0 _
  have hq0 := hM3.on hb0
  simp only [List.map_cons, List.map_nil, List.filterMap_cons, List.filterMap_nil, List.getElem?_cons_zero, List.getElem?_cons_succ, List.length_cons, List.length_nil, List.drop_succ_cons, List.drop_zero]
  refine mixLoadRow _ _ _ _ (wcells a) _ hq0 rfl rfl rfl (fun _ h => h.get 1 rfl) Try.underlying24 rfl (info_WideC _) ?_; go_frame
  refine mixLoadRow _ _ _ _ (wcells b) _ hq0 rfl rfl rfl (fun _ h => h.get 0 rfl) Try.underlying24 rfl (info_WideC _) ?_; go_frame
  refine mixLoud ?_
  refine kCall1 18 _ _ _ rfl rfl (by kernel_rfl) rfl ?_
  refine (dOf_any a _).mono ?_
  rintro e w4 ⟨vx, rfl, hx4, hB4⟩
  have hM4 := hq0.on hB4
  refine ⟨_, rfl, mixOn ⟨hM4, ?_⟩⟩
  go_frame
  refine mixLoud ?_
  refine kCall1 18 _ _ _ rfl rfl (by kernel_rfl) rfl ?_
  refine (dOf_any b _).mono ?_
  rintro e w5 ⟨vy, rfl, hy5, hB5⟩
  have hM5 := hM4.on hB5
  have hx5 := hx4.below hB5
  refine ⟨_, rfl, mixOn ⟨hM5, ?_⟩⟩
  go_frame
  refine mixEnd ?_
  clear hM3 hb0 hq0 hM4 hx4 hB4 hB5
  by_cases hab : a < b
  · have hless : decide (a < b) = true := by simpa using hab
    have hcl : decide (cz < 0) = true := by rw [← Hcz.out, cmp_lt]; exact hless
    go_wp2_with (first
      | (go_at_call 19; (with_reducible change Calls _ _ #[vx, vy] _ _); refine (dAdd_any _ _ vx vy _ dx dy hx5 hy5 (by rw [digsOf_len]; omega) (by rw [digsOf_len]; omega)).mono ?_; rintro e w6 ⟨vs, ls, rfl, hvs, ds, es, ns, hB6⟩; have hN0 := mem_nil w6; have hM6 := hM5.on hB6; have hx6 := hx5.below hB6; have hy6 := hy5.below hB6; rw [digsOf_16 a ma, digsOf_16 b mb] at es; rw [digsOf_len, digsOf_len] at ns; clear hM5 hB6 hx5 hy5; go_frame)
      | ((with_reducible change wpList _ _ _ (Oper.mk (some 24) _ _ _ _ _ :: _) _ _); refine kLoadRow _ _ _ _ _ _ rfl rfl rfl ((hM6.get 1 rfl).below hN0.below (hM6.get 1 rfl).lt) Try.underlying24 rfl (info_WideC _) ?_; go_frame)
      | ((with_reducible change wpList _ _ _ (Oper.mk (some 25) _ _ _ _ _ :: _) _ _); refine kLoadRow _ _ _ _ _ _ rfl rfl rfl ((hM6.get 0 rfl).below hN0.below (hM6.get 0 rfl).lt) Try.underlying24 rfl (info_WideC _) ?_; go_frame)
      | (go_at_call 20; refine (wAdd_any a b ma mb _).mono ?_; rintro e w7 ⟨rfl, hB7⟩; have hN1 := hN0.on hB7; clear hB7; (try unfold WV); rw [Hmm.out]; go_frame)
      | ((with_reducible change wpList _ _ _ (Oper.mk (some 8) _ _ _ _ _ :: _) _ _); refine mAlloc hN1 rfl rfl ?_; intro w8 hN2; clear hN1; go_frame)
      | ((with_reducible change wpList _ _ _ (Oper.mk none (Op.store _ (Operand.tmp 8) _) _ _ _ _ :: _) _ _); refine mStore0 hN2 _ _ (a + b) rfl rfl rfl rfl ?_; intro w9 hN3; clear hN2; go_frame)
      | ((with_reducible change wpList _ _ _ (Oper.mk (some 30) _ _ _ _ _ :: _) _ _); refine kLoadRow _ _ _ _ _ _ rfl rfl rfl ((hM6.get 1 rfl).below hN3.below (hM6.get 1 rfl).lt) Try.underlying24 rfl (info_WideC _) ?_; go_frame)
      | ((with_reducible change wpList _ _ _ (Oper.mk (some 31) _ _ _ _ _ :: _) _ _); refine kLoadRow _ _ _ _ _ _ rfl rfl rfl ((hM6.get 0 rfl).below hN3.below (hM6.get 0 rfl).lt) Try.underlying24 rfl (info_WideC _) ?_; go_frame)
      | (go_at_call 10; refine (wSub_any a b ma mb _).mono ?_; rintro e w10 ⟨rfl, hB10⟩; have hN4 := hN3.on hB10; clear hB10 hN3; (try unfold WV); rw [hless]; go_frame)
      | ((with_reducible change wpList _ _ _ (Oper.mk (some 10) _ _ _ _ _ :: _) _ _); refine mAlloc hN4 rfl rfl ?_; intro w11 hN5; clear hN4; go_frame)
      | ((with_reducible change wpList _ _ _ (Oper.mk none (Op.store _ (Operand.tmp 10) _) _ _ _ _ :: _) _ _); refine mStore0 hN5 _ _ (a + M256 - b) rfl rfl rfl rfl ?_; intro w12 hN6; clear hN5; go_frame)
      | (go_at_call 21; refine (dCompare_any _ _ vx vy _ dx dy (hx6.below hN6.below) (hy6.below hN6.below) (by rw [digsOf_len]; omega) (by rw [digsOf_len]; omega)).mono ?_; rintro e w13 ⟨rfl, rfl⟩; rw [hcz]; go_frame)
      | (go_at_call 22; refine (dPower_any 256 (by decide) _).mono ?_; rintro e w13 ⟨vp, rfl, hvp, hB13⟩; have hN7 := hN6.on hB13; clear hB13 hN6; go_frame)
      | (go_at_call 19; (with_reducible change Calls _ _ #[vx, vp] _ _); refine (dAdd_any _ _ vx vp _ dx (powL_digs 256) (hx6.below hN7.below) hvp (by rw [digsOf_len]; omega) (by rw [powL_len]; omega)).mono ?_; rintro e w14 ⟨vf, lf, rfl, hvf, df, ef, nf, hB14⟩; have hN8 := hN7.on hB14; rw [digsOf_16 a ma, powL_val] at ef; rw [digsOf_len, powL_len] at nf; clear hB14 hN7 hvp; go_frame))
    have hfrom : Dig w14 vf lf := hvf
    have efr : dval lf = a + M256 := by rw [ef]; rfl
    have nfr : lf.length ≤ 18 := by omega
    clear hvf ef nf
    have hs6 : Dig w14 vs ls := hvs.below hN8.below
    have hyL : Dig w14 vy (digsOf b 16) := hy6.below hN8.below
    have hRa := (hM6.get 1 rfl).below hN8.below (hM6.get 1 rfl).lt
    have hRb := (hM6.get 0 rfl).below hN8.below (hM6.get 0 rfl).lt
    have hBall : Below w.heap.size w w14 := hM6.below.trans (hN8.below.mono hM6.size)
    have hRs := hN8.get 1 rfl
    have hRd := hN8.get 0 rfl
    clear hx6 hy6 hvs hM6 hN0 hN8
    refine region_mixP [(0, true), (1, true), (2, false), (3, true), (4, true), (5, true), (6, true), (7, false), (8, false), (9, true), (10, true), (11, true), (12, true), (13, true), (14, true), (15, true), (16, true), (17, true), (18, true), (19, true), (21, true), (20, false), (22, true), (23, true), (24, true), (25, true), (26, true), (27, true), (28, false), (29, false), (30, true), (31, true)] (fun w' => Below w14.heap.size w14 w') (by kernel_rfl) (by kernel_rfl) rfl ?_
    intro q0 hq0 _
    simp only [List.map_cons, List.map_nil, List.filterMap_cons, List.filterMap_nil, List.getElem?_cons_zero, List.getElem?_cons_succ, List.length_cons, List.length_nil, List.drop_succ_cons, List.drop_zero]
    refine mixLoadRow _ _ _ _ (wcells (a + b)) _ hq0 rfl rfl rfl (fun _ h => hRs.below h hRs.lt) Try.underlying24 rfl (info_WideC _) ?_; go_frame
    refine mixMove _ vs hq0 rfl rfl rfl ?_; go_frame
    refine mixLoud ?_
    refine kCall1 23 _ _ vs rfl rfl (by kernel_rfl) rfl ?_
    refine (dWide_any ls vs _ ds (hs6.below hq0)).mono ?_
    rintro e r1 ⟨rfl, hc1⟩
    have hq1 := hq0.trans (hc1.mono hq0.size)
    refine ⟨_, rfl, mixOn ⟨hq1, ?_⟩⟩
    (try unfold WV); go_frame
    refine mixEqlW _ _ _ (a + b) (dval ls) true hq1 rfl rfl rfl rfl (by rw [es]; simp) ?_; go_frame
    refine mixMove _ (.bool true) hq1 rfl rfl rfl ?_; go_frame
    refine mixMove _ (.bool mm) hq1 rfl rfl rfl ?_; go_frame
    refine mixMove _ vs hq1 rfl rfl rfl ?_; go_frame
    refine mixLoud ?_
    refine kCall1 22 _ _ (.int .i64 256) rfl rfl (by kernel_rfl) rfl ?_
    refine (dPower_any 256 (by decide) _).mono ?_
    rintro e r2 ⟨vq, rfl, hvq, hc2⟩
    have hq2 := hq1.trans (hc2.mono hq1.size)
    refine ⟨_, rfl, mixOn ⟨hq2, ?_⟩⟩
    go_frame
    refine mixLoud ?_
    refine kCall2 21 _ _ _ vs vq rfl rfl (by kernel_rfl) rfl rfl ?_
    refine (dCompare_any ls (powL 256) vs vq _ ds (powL_digs 256) (hs6.below hq2) hvq (by omega) (by rw [powL_len]; omega)).mono ?_
    rintro e r3 ⟨rfl, rfl⟩
    refine ⟨_, rfl, mixOn ⟨hq2, ?_⟩⟩
    rw [show cmpI (dval ls) (dval (powL 256)) = cm by rw [es, powL_val]; exact Hcm0.out]; go_frame
    refine mixQuiet (.bool mm) hq2 rfl (fun w _ => exec_geq rfl rfl rfl Hcm.out w) ?_; go_frame
    refine mixEqlBool _ _ _ _ mm mm true hq2 rfl rfl rfl rfl Try.underlying4 (by simp) ?_; go_frame
    refine mixPick _ _ _ true (.bool true) hq2 rfl rfl rfl rfl ?_; go_frame
    refine mixMove _ (.bool true) hq2 rfl rfl rfl ?_; go_frame
    refine mixMove _ (.bool true) hq2 rfl rfl rfl ?_; go_frame
    refine mixMove _ (.bool true) hq2 rfl rfl rfl ?_; go_frame
    refine mixEqlBool _ _ _ _ true true true hq2 rfl rfl rfl rfl Try.underlying4 (by simp) ?_; go_frame
    refine mixPick _ _ _ true (.bool true) hq2 rfl rfl rfl rfl ?_; go_frame
    refine mixMove _ (.bool true) hq2 rfl rfl rfl ?_; go_frame
    refine mixLoadRow _ _ _ _ (wcells (a)) _ hq2 rfl rfl rfl (fun _ h => hRa.below h hRa.lt) Try.underlying24 rfl (info_WideC _) ?_; go_frame
    refine mixLoadRow _ _ _ _ (wcells (b)) _ hq2 rfl rfl rfl (fun _ h => hRb.below h hRb.lt) Try.underlying24 rfl (info_WideC _) ?_; go_frame
    refine mixMove _ (.bool true) hq2 rfl rfl rfl ?_; go_frame
    refine mixLoud ?_
    refine kCall2 24 _ _ _ _ _ rfl rfl (by kernel_rfl) rfl rfl ?_
    refine (wLess_any a b ma mb _).mono ?_
    rintro e r4 ⟨rfl, hc4⟩
    have hq4 := hq2.trans (hc4.mono hq2.size)
    refine ⟨_, rfl, mixOn ⟨hq4, ?_⟩⟩
    rw [hless]; go_frame
    refine mixEqlBool _ _ _ _ true true true hq4 rfl rfl rfl rfl Try.underlying4 (by simp) ?_; go_frame
    refine mixPick _ _ _ true (.bool true) hq4 rfl rfl rfl rfl ?_; go_frame
    refine mixMove _ (.bool true) hq4 rfl rfl rfl ?_; go_frame
    refine mixLoadRow _ _ _ _ (wcells (a + M256 - b)) _ hq4 rfl rfl rfl (fun _ h => hRd.below h hRd.lt) Try.underlying24 rfl (info_WideC _) ?_; go_frame
    refine mixMove _ vf hq4 rfl rfl rfl ?_; go_frame
    refine mixMove _ vy hq4 rfl rfl rfl ?_; go_frame
    refine mixLoud ?_
    refine kCall2 25 _ _ _ vf vy rfl rfl (by kernel_rfl) rfl rfl ?_
    refine (dSub_any lf (digsOf b 16) vf vy _ df dy (hfrom.below hq4) (hyL.below hq4) (by omega) (by rw [efr, digsOf_16 b mb]; omega)).mono ?_
    rintro e r5 ⟨vr, lr, rfl, hvr, dr, er, nr, hc5⟩
    have hq5 := hq4.trans (hc5.mono hq4.size)
    refine ⟨_, rfl, mixOn ⟨hq5, ?_⟩⟩
    go_frame
    refine mixLoud ?_
    refine kCall1 23 _ _ vr rfl rfl (by kernel_rfl) rfl ?_
    refine (dWide_any lr vr _ dr hvr).mono ?_
    rintro e r6 ⟨rfl, hc6⟩
    have hq6 := hq5.trans (hc6.mono hq5.size)
    refine ⟨_, rfl, mixOn ⟨hq6, ?_⟩⟩
    (try unfold WV); go_frame
    refine mixEqlW _ _ _ (a + M256 - b) (dval lr) true hq6 rfl rfl rfl rfl (by rw [er, efr, digsOf_16 b mb]; simp) ?_; go_frame
    refine mixPick _ _ _ true (.bool true) hq6 rfl rfl rfl rfl ?_; go_frame
    refine mixEnd ?_
    have hB := hBall.trans (hq6.mono hBall.size)
    go_wp2
    go_ret
    exact ⟨rfl, hB⟩
  · have hless : decide (a < b) = false := by simpa using hab
    have hcl : decide (cz < 0) = false := by rw [← Hcz.out, cmp_lt]; exact hless
    go_wp2_with (first
      | (go_at_call 19; (with_reducible change Calls _ _ #[vx, vy] _ _); refine (dAdd_any _ _ vx vy _ dx dy hx5 hy5 (by rw [digsOf_len]; omega) (by rw [digsOf_len]; omega)).mono ?_; rintro e w6 ⟨vs, ls, rfl, hvs, ds, es, ns, hB6⟩; have hN0 := mem_nil w6; have hM6 := hM5.on hB6; have hx6 := hx5.below hB6; have hy6 := hy5.below hB6; rw [digsOf_16 a ma, digsOf_16 b mb] at es; rw [digsOf_len, digsOf_len] at ns; clear hM5 hB6 hx5 hy5; go_frame)
      | ((with_reducible change wpList _ _ _ (Oper.mk (some 24) _ _ _ _ _ :: _) _ _); refine kLoadRow _ _ _ _ _ _ rfl rfl rfl ((hM6.get 1 rfl).below hN0.below (hM6.get 1 rfl).lt) Try.underlying24 rfl (info_WideC _) ?_; go_frame)
      | ((with_reducible change wpList _ _ _ (Oper.mk (some 25) _ _ _ _ _ :: _) _ _); refine kLoadRow _ _ _ _ _ _ rfl rfl rfl ((hM6.get 0 rfl).below hN0.below (hM6.get 0 rfl).lt) Try.underlying24 rfl (info_WideC _) ?_; go_frame)
      | (go_at_call 20; refine (wAdd_any a b ma mb _).mono ?_; rintro e w7 ⟨rfl, hB7⟩; have hN1 := hN0.on hB7; clear hB7; (try unfold WV); rw [Hmm.out]; go_frame)
      | ((with_reducible change wpList _ _ _ (Oper.mk (some 8) _ _ _ _ _ :: _) _ _); refine mAlloc hN1 rfl rfl ?_; intro w8 hN2; clear hN1; go_frame)
      | ((with_reducible change wpList _ _ _ (Oper.mk none (Op.store _ (Operand.tmp 8) _) _ _ _ _ :: _) _ _); refine mStore0 hN2 _ _ (a + b) rfl rfl rfl rfl ?_; intro w9 hN3; clear hN2; go_frame)
      | ((with_reducible change wpList _ _ _ (Oper.mk (some 30) _ _ _ _ _ :: _) _ _); refine kLoadRow _ _ _ _ _ _ rfl rfl rfl ((hM6.get 1 rfl).below hN3.below (hM6.get 1 rfl).lt) Try.underlying24 rfl (info_WideC _) ?_; go_frame)
      | ((with_reducible change wpList _ _ _ (Oper.mk (some 31) _ _ _ _ _ :: _) _ _); refine kLoadRow _ _ _ _ _ _ rfl rfl rfl ((hM6.get 0 rfl).below hN3.below (hM6.get 0 rfl).lt) Try.underlying24 rfl (info_WideC _) ?_; go_frame)
      | (go_at_call 10; refine (wSub_any a b ma mb _).mono ?_; rintro e w10 ⟨rfl, hB10⟩; have hN4 := hN3.on hB10; clear hB10 hN3; (try unfold WV); rw [hless]; go_frame)
      | ((with_reducible change wpList _ _ _ (Oper.mk (some 10) _ _ _ _ _ :: _) _ _); refine mAlloc hN4 rfl rfl ?_; intro w11 hN5; clear hN4; go_frame)
      | ((with_reducible change wpList _ _ _ (Oper.mk none (Op.store _ (Operand.tmp 10) _) _ _ _ _ :: _) _ _); refine mStore0 hN5 _ _ (a + M256 - b) rfl rfl rfl rfl ?_; intro w12 hN6; clear hN5; go_frame)
      | (go_at_call 21; refine (dCompare_any _ _ vx vy _ dx dy (hx6.below hN6.below) (hy6.below hN6.below) (by rw [digsOf_len]; omega) (by rw [digsOf_len]; omega)).mono ?_; rintro e w13 ⟨rfl, rfl⟩; rw [hcz]; go_frame))
    obtain ⟨vf, Hvf⟩ : ∃ vf, Hid (vf = vx) := ⟨vx, Lib.hid rfl⟩
    obtain ⟨lf, Hlf⟩ : ∃ lf, Hid (lf = digsOf a 16) := ⟨_, Lib.hid rfl⟩
    have hfrom : Dig w12 vx (digsOf a 16) := hx6.below hN6.below
    have df := dx
    have nfr : (digsOf a 16).length ≤ 18 := by rw [digsOf_len]; omega
    have efr : dval (digsOf a 16) = a := digsOf_16 a ma
    have hs6 : Dig w12 vs ls := hvs.below hN6.below
    have hyL : Dig w12 vy (digsOf b 16) := hy6.below hN6.below
    have hRa := (hM6.get 1 rfl).below hN6.below (hM6.get 1 rfl).lt
    have hRb := (hM6.get 0 rfl).below hN6.below (hM6.get 0 rfl).lt
    have hBall : Below w.heap.size w w12 := hM6.below.trans (hN6.below.mono hM6.size)
    have hRs := hN6.get 1 rfl
    have hRd := hN6.get 0 rfl
    clear hx6 hy6 hvs hM6 hN0 hN6
    refine region_mixP [(0, true), (1, true), (2, false), (3, true), (4, true), (5, true), (6, true), (7, false), (8, false), (9, true), (10, true), (11, true), (12, true), (13, true), (14, true), (15, true), (16, true), (17, true), (18, true), (19, true), (21, true), (20, false), (22, true), (23, true), (24, true), (25, true), (26, true), (27, true), (28, false), (29, false), (30, true), (31, true)] (fun w' => Below w12.heap.size w12 w') (by kernel_rfl) (by kernel_rfl) rfl ?_
    intro q0 hq0 _
    simp only [List.map_cons, List.map_nil, List.filterMap_cons, List.filterMap_nil, List.getElem?_cons_zero, List.getElem?_cons_succ, List.length_cons, List.length_nil, List.drop_succ_cons, List.drop_zero]
    refine mixLoadRow _ _ _ _ (wcells (a + b)) _ hq0 rfl rfl rfl (fun _ h => hRs.below h hRs.lt) Try.underlying24 rfl (info_WideC _) ?_; go_frame
    refine mixMove _ vs hq0 rfl rfl rfl ?_; go_frame
    refine mixLoud ?_
    refine kCall1 23 _ _ vs rfl rfl (by kernel_rfl) rfl ?_
    refine (dWide_any ls vs _ ds (hs6.below hq0)).mono ?_
    rintro e r1 ⟨rfl, hc1⟩
    have hq1 := hq0.trans (hc1.mono hq0.size)
    refine ⟨_, rfl, mixOn ⟨hq1, ?_⟩⟩
    (try unfold WV); go_frame
    refine mixEqlW _ _ _ (a + b) (dval ls) true hq1 rfl rfl rfl rfl (by rw [es]; simp) ?_; go_frame
    refine mixMove _ (.bool true) hq1 rfl rfl rfl ?_; go_frame
    refine mixMove _ (.bool mm) hq1 rfl rfl rfl ?_; go_frame
    refine mixMove _ vs hq1 rfl rfl rfl ?_; go_frame
    refine mixLoud ?_
    refine kCall1 22 _ _ (.int .i64 256) rfl rfl (by kernel_rfl) rfl ?_
    refine (dPower_any 256 (by decide) _).mono ?_
    rintro e r2 ⟨vq, rfl, hvq, hc2⟩
    have hq2 := hq1.trans (hc2.mono hq1.size)
    refine ⟨_, rfl, mixOn ⟨hq2, ?_⟩⟩
    go_frame
    refine mixLoud ?_
    refine kCall2 21 _ _ _ vs vq rfl rfl (by kernel_rfl) rfl rfl ?_
    refine (dCompare_any ls (powL 256) vs vq _ ds (powL_digs 256) (hs6.below hq2) hvq (by omega) (by rw [powL_len]; omega)).mono ?_
    rintro e r3 ⟨rfl, rfl⟩
    refine ⟨_, rfl, mixOn ⟨hq2, ?_⟩⟩
    rw [show cmpI (dval ls) (dval (powL 256)) = cm by rw [es, powL_val]; exact Hcm0.out]; go_frame
    refine mixQuiet (.bool mm) hq2 rfl (fun w _ => exec_geq rfl rfl rfl Hcm.out w) ?_; go_frame
    refine mixEqlBool _ _ _ _ mm mm true hq2 rfl rfl rfl rfl Try.underlying4 (by simp) ?_; go_frame
    refine mixPick _ _ _ true (.bool true) hq2 rfl rfl rfl rfl ?_; go_frame
    refine mixMove _ (.bool true) hq2 rfl rfl rfl ?_; go_frame
    refine mixMove _ (.bool false) hq2 rfl rfl rfl ?_; go_frame
    refine mixMove _ (.bool false) hq2 rfl rfl rfl ?_; go_frame
    refine mixEqlBool _ _ _ _ false false true hq2 rfl rfl rfl rfl Try.underlying4 (by simp) ?_; go_frame
    refine mixPick _ _ _ true (.bool true) hq2 rfl rfl rfl rfl ?_; go_frame
    refine mixMove _ (.bool true) hq2 rfl rfl rfl ?_; go_frame
    refine mixLoadRow _ _ _ _ (wcells (a)) _ hq2 rfl rfl rfl (fun _ h => hRa.below h hRa.lt) Try.underlying24 rfl (info_WideC _) ?_; go_frame
    refine mixLoadRow _ _ _ _ (wcells (b)) _ hq2 rfl rfl rfl (fun _ h => hRb.below h hRb.lt) Try.underlying24 rfl (info_WideC _) ?_; go_frame
    refine mixMove _ (.bool false) hq2 rfl rfl rfl ?_; go_frame
    refine mixLoud ?_
    refine kCall2 24 _ _ _ _ _ rfl rfl (by kernel_rfl) rfl rfl ?_
    refine (wLess_any a b ma mb _).mono ?_
    rintro e r4 ⟨rfl, hc4⟩
    have hq4 := hq2.trans (hc4.mono hq2.size)
    refine ⟨_, rfl, mixOn ⟨hq4, ?_⟩⟩
    rw [hless]; go_frame
    refine mixEqlBool _ _ _ _ false false true hq4 rfl rfl rfl rfl Try.underlying4 (by simp) ?_; go_frame
    refine mixPick _ _ _ true (.bool true) hq4 rfl rfl rfl rfl ?_; go_frame
    refine mixMove _ (.bool true) hq4 rfl rfl rfl ?_; go_frame
    refine mixLoadRow _ _ _ _ (wcells (a + M256 - b)) _ hq4 rfl rfl rfl (fun _ h => hRd.below h hRd.lt) Try.underlying24 rfl (info_WideC _) ?_; go_frame
    refine mixMove _ vx hq4 rfl rfl rfl ?_; go_frame
    refine mixMove _ vy hq4 rfl rfl rfl ?_; go_frame
    refine mixLoud ?_
    refine kCall2 25 _ _ _ vx vy rfl rfl (by kernel_rfl) rfl rfl ?_
    refine (dSub_any (digsOf a 16) (digsOf b 16) vx vy _ df dy (hfrom.below hq4) (hyL.below hq4) (by omega) (by rw [efr, digsOf_16 b mb]; omega)).mono ?_
    rintro e r5 ⟨vr, lr, rfl, hvr, dr, er, nr, hc5⟩
    have hq5 := hq4.trans (hc5.mono hq4.size)
    refine ⟨_, rfl, mixOn ⟨hq5, ?_⟩⟩
    go_frame
    refine mixLoud ?_
    refine kCall1 23 _ _ vr rfl rfl (by kernel_rfl) rfl ?_
    refine (dWide_any lr vr _ dr hvr).mono ?_
    rintro e r6 ⟨rfl, hc6⟩
    have hq6 := hq5.trans (hc6.mono hq5.size)
    refine ⟨_, rfl, mixOn ⟨hq6, ?_⟩⟩
    (try unfold WV); go_frame
    refine mixEqlW _ _ _ (a + M256 - b) (dval lr) true hq6 rfl rfl rfl rfl (by rw [er, efr, digsOf_16 b mb]; rw [show a + M256 - b = a - b + M256 by omega, Nat.add_mod_right]; simp) ?_; go_frame
    refine mixPick _ _ _ true (.bool true) hq6 rfl rfl rfl rfl ?_; go_frame
    refine mixEnd ?_
    have hB := hBall.trans (hq6.mono hBall.size)
    go_wp2
    go_ret
    exact ⟨rfl, hB⟩
end Go.Proofs.Ytehklogmeinocaa
