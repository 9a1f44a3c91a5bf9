/-
  Layer 9: the walk of CoinRefs.
-/
import Derived.Test.YtgichipcmbnnhaaCoLaw1
namespace Go.Proofs.Ytgichipcmbnnhaa
open Go Go.RowKit

section
variable {P : Program} {ops : Array Oper} {o : Oper} {a : Act} {S : World → Prop}
theorem yNotC (T : TypeId) (x : Operand) (b : Bool) (ho : o.op = .unOp .not T x) (hg : Region.wanted o (yielded ops a.tmps) = true) (hx : a.eval x = .bool b) : YieldsIf P ops S o (.bool (!b)) a :=
  yOf hg fun w _ => by unfold execOp; simp [ho, hx, Op.unary]
theorem yEqlIC (T T2 : TypeId) (x y : Operand) (k : IntKind) (m n : Int) (b : Bool) (ho : o.op = .binOp .eql T x y T2) (hg : Region.wanted o (yielded ops a.tmps) = true) (hx : a.eval x = .int k m) (hy : a.eval y = .int k n) (hb : decide (m = n) = b) : YieldsIf P ops S o (.bool b) a :=
  yOf hg fun w _ => by
    subst hb
    unfold execOp; simp only [ho, hx, hy]; simp [eqGuard, binOp, Op.intCmp]; rfl
end
theorem eqGuard_RefC : Try.prog.eqGuardType Try.prog.depth 43 = false := by kernel_rfl
theorem stood_RefC : Try.prog.stoodInHeld 43 = false := by kernel_rfl
theorem fields_RefC : Try.prog.underlying 43 = some (.struct (Try.prog.fieldsOf 43)) := by kernel_rfl
theorem listed_RefC : (Try.prog.fieldsOf 43).toList.map (fun f => (f.type, f.offset, decide (f.name = "_"))) = [(40, 0, false), (41, 32, false)] := by kernel_rfl
theorem run_equalRefC {l m : List UInt8} (hl : l.length = 32) (hm : m.length = 32) (n k : Nat) (w : World) : (Op.equalIn 10000 43 (.agg (refC l n)) (.agg (refC m k))).run Try.prog w = .ok (decide (l = m) && decide ((n : Int) = (k : Int))) w := by
  have h := run_eqStruct (P := Try.prog) (w := w) (xs := refC l n) (ys := refC m k) _ [decide (l = m), decide ((n : Int) = (k : Int))] fields_RefC stood_RefC listed_RefC
    ⟨rfl, ⟨_, _, partA Try.underlying40 rfl info_HashCo _ _ _ (refC_id l n) w, partA Try.underlying40 rfl info_HashCo _ _ _ (refC_id m k) w, run_equalBytes Try.underlying40 Try.underlying5 info_b8P 9997 hl hm⟩,
     rfl, ⟨_, _, part1 Try.underlying41 rfl _ _ _ (refC_at l n) w, part1 Try.underlying41 rfl _ _ _ (refC_at m k) w, run_equalZ Try.underlying41 9998 _ _ w⟩, trivial⟩
  have e : [decide (l = m), decide ((n : Int) = (k : Int))].all id = (decide (l = m) && decide ((n : Int) = (k : Int))) := by simp
  rw [e] at h
  exact h
theorem run_sameRefC {l : List UInt8} (hl : l.length = 32) (n : Nat) (w : World) : (Op.equalIn 10000 43 (.agg (refC l n)) (.agg (refC l n))).run Try.prog w = .ok true w := by
  have h := run_equalRefC hl hl n n w
  simpa using h
theorem built_scanC0 (ao : Option Addr) (n c : Nat) : Try.prog.built 51 [(0, .slice ao n c)] = some #[.slice ao n c, .int .i64 0] := by kernel_rfl
theorem built_scanC {w : World} {v : Value} {l : List Value} (h : IsVals w v l) : Try.prog.built 51 [(0, v)] = some #[v, .int .i64 0] := by obtain ⟨ao, c, rfl, _⟩ := h; exact built_scanC0 _ _ _
section
variable {ops : Array Oper} {Q : Exit → Act → World → Prop} {rest : List Oper} {o : Oper} {a : Act} {w : World} {S : World → Prop}
theorem kBuildScanC (x : Operand) (v : Value) {l : List Value} (hv : IsVals w v l) (ho : o.op = .build 51 #[(0, x)]) (hg : Region.wanted o (yielded ops a.tmps) = true) (hx : a.eval x = v) (h : wpList Try.prog ops Q rest (a.put o.dst (.agg #[v, .int .i64 0])) w) : wpList Try.prog ops Q (o :: rest) a w :=
  kBuildAny _ _ #[(0, v)] _ ho hg (by simp [hx]) (built_scanC hv) h
end
theorem sameO_refl (n : Int) (l : List UInt8) : sameO n l n l = true := by simp [sameO]
theorem ref_len {l : List UInt8} (hl : l.length = 32) (n : Nat) : (refL l n).length = 36 := by unfold refL; rw [List.length_append, fixedL_len, hl]
theorem refS_len (s : Scn) : (refS s).1.1.length = 32 := by
  unfold refS
  split
  · rfl
  · rename_i h
    have h0 : (rawS s 32).2.err = 0 := fixed_ok (z := 4) (by simpa using h)
    exact raw_len (n := 32) h0
theorem ref_restLe (s : Scn) : (refS s).2.rest.length ≤ s.rest.length := by
  unfold refS
  split <;> exact Nat.le_trans (fixed_restLeC _ 4) (raw_restLeC s 32)
set_option maxRecDepth 100000 in
set_option maxHeartbeats 8000000 in
theorem coinRefs_out {l L b : List UInt8} {n : Nat} {m : Int} {lv bv : Value} (W0 : World) (hlv : IsVals W0 lv (L.map VB)) (hbv : IsVals W0 bv (b.map VB)) (h : 2500 < L.length ∨ 2500 < b.length) : Calls Try.prog 5 #[.agg (refC l n), .agg (outC m lv), bv] W0 (AlivePost W0) := by
  obtain ⟨q, hq⟩ : ∃ q, L.length = q := ⟨_, rfl⟩
  obtain ⟨k, hk⟩ : ∃ k, b.length = k := ⟨_, rfl⟩
  by_cases h1 : 2500 < q
  · have d1 : decide ((q : Int) > 2500) = true := by simp; omega
    clear h h1
    go_enter Try.func5, Try.ntmps5
    go_wp2_with (first
      | ((with_reducible change wpList _ _ _ (Oper.mk (some 3) _ _ _ _ _ :: _) _ _); refine kBoxL _ _ _ rfl rfl rfl ?_; intro w1 hRA hz1 hB0; clear hz1; have hlv_1 := hlv.below hB0; have hbv_2 := hbv.below hB0; clear hlv hbv; go_frame)
      | ((with_reducible change wpList _ _ _ (Oper.mk (some 4) _ _ _ _ _ :: _) _ _); refine kBoxL _ _ _ rfl rfl rfl ?_; intro w2 hRB hz2 hBB; clear hz2; have hAB := Nat.ne_of_lt hRA.lt; have hlv_3 := hlv_1.below hBB; have hbv_4 := hbv_2.below hBB; have hRA_5 := hRA.below hBB hRA.lt; have hB_6 := hB0.trans (hBB.mono hB0.size); clear hlv_1 hbv_2 hRA hB0 hBB; go_frame)
      | (go_at_call 10; refine (coinAlive_any _).mono ?_; rintro e w3 ⟨rfl, hBB⟩; have hlv_7 := hlv_3.below hBB; have hbv_8 := hbv_4.below hBB; have hRA_9 := hRA_5.below hBB hRA_5.lt; have hRB_10 := hRB.below hBB hRB.lt; have hB_11 := hB_6.trans (hBB.mono hB_6.size); clear hlv_3 hbv_4 hRA_5 hRB hB_6 hBB; go_frame)
      | ((with_reducible change wpList _ _ _ (Oper.mk (some 14) _ _ _ _ _ :: _) _ _); refine kFld outCF1 _ _ 0 1 rfl rfl rfl rfl ?_; go_frame)
      | ((with_reducible change wpList _ _ _ (Oper.mk (some 15) _ _ _ _ _ :: _) _ _); refine kLd Try.underlying25 rfl _ _ 1 _ lv hRB_10 rfl rfl rfl rfl ?_; go_frame)
      | ((with_reducible change wpList _ _ _ (Oper.mk (some 16) _ _ _ _ _ :: _) _ _); refine kLenN _ _ _ lv _ q rfl rfl rfl hlv_7 (by rw [List.length_map, hq]) Try.underlying25 ?_; go_frame)
      | ((with_reducible change wpList _ _ _ (Oper.mk (some 17) _ _ _ _ _ :: _) _ _); refine kGtrI _ _ _ _ .i64 (q : Int) 2500 true rfl rfl rfl rfl d1 ?_; go_frame))
    go_ret
    exact ⟨rfl, hB_11⟩
  · have d1 : decide ((q : Int) > 2500) = false := by simp; omega
    have d2 : decide ((k : Int) > 2500) = true := by simp; omega
    clear h h1
    go_enter Try.func5, Try.ntmps5
    go_wp2_with (first
      | ((with_reducible change wpList _ _ _ (Oper.mk (some 3) _ _ _ _ _ :: _) _ _); refine kBoxL _ _ _ rfl rfl rfl ?_; intro w1 hRA hz1 hB0; clear hz1; have hlv_1 := hlv.below hB0; have hbv_2 := hbv.below hB0; clear hlv hbv; go_frame)
      | ((with_reducible change wpList _ _ _ (Oper.mk (some 4) _ _ _ _ _ :: _) _ _); refine kBoxL _ _ _ rfl rfl rfl ?_; intro w2 hRB hz2 hBB; clear hz2; have hAB := Nat.ne_of_lt hRA.lt; have hlv_3 := hlv_1.below hBB; have hbv_4 := hbv_2.below hBB; have hRA_5 := hRA.below hBB hRA.lt; have hB_6 := hB0.trans (hBB.mono hB0.size); clear hlv_1 hbv_2 hRA hB0 hBB; go_frame)
      | (go_at_call 10; refine (coinAlive_any _).mono ?_; rintro e w3 ⟨rfl, hBB⟩; have hlv_7 := hlv_3.below hBB; have hbv_8 := hbv_4.below hBB; have hRA_9 := hRA_5.below hBB hRA_5.lt; have hRB_10 := hRB.below hBB hRB.lt; have hB_11 := hB_6.trans (hBB.mono hB_6.size); clear hlv_3 hbv_4 hRA_5 hRB hB_6 hBB; go_frame)
      | ((with_reducible change wpList _ _ _ (Oper.mk (some 14) _ _ _ _ _ :: _) _ _); refine kFld outCF1 _ _ 0 1 rfl rfl rfl rfl ?_; go_frame)
      | ((with_reducible change wpList _ _ _ (Oper.mk (some 15) _ _ _ _ _ :: _) _ _); refine kLd Try.underlying25 rfl _ _ 1 _ lv hRB_10 rfl rfl rfl rfl ?_; go_frame)
      | ((with_reducible change wpList _ _ _ (Oper.mk (some 16) _ _ _ _ _ :: _) _ _); refine kLenN _ _ _ lv _ q rfl rfl rfl hlv_7 (by rw [List.length_map, hq]) Try.underlying25 ?_; go_frame)
      | ((with_reducible change wpList _ _ _ (Oper.mk (some 17) _ _ _ _ _ :: _) _ _); refine kGtrI _ _ _ _ .i64 (q : Int) 2500 false rfl rfl rfl rfl d1 ?_; go_frame)
      | ((with_reducible change wpList _ _ _ (Oper.mk (some 20) _ _ _ _ _ :: _) _ _); refine kLenN _ _ _ bv _ k rfl rfl rfl hbv_8 (by rw [List.length_map, hk]) Try.underlying25 ?_; go_frame)
      | ((with_reducible change wpList _ _ _ (Oper.mk (some 21) _ _ _ _ _ :: _) _ _); refine kGtrI _ _ _ _ .i64 (k : Int) 2500 true rfl rfl rfl rfl d2 ?_; go_frame))
    go_ret
    exact ⟨rfl, hB_11⟩
set_option maxRecDepth 100000 in
set_option maxHeartbeats 8000000 in
theorem coinRefs_short {l L b : List UInt8} {n : Nat} {m : Int} {lv bv : Value} (hl : l.length = 32) (hn : n < 4294967296) (hm1 : -9223372036854775808 ≤ m) (hm2 : m < 9223372036854775808) (W0 : World) (hlv : IsVals W0 lv (L.map VB)) (hbv : IsVals W0 bv (b.map VB)) (h1 : L.length ≤ 2500) (h2 : b.length ≤ 2500) (h3 : L.length ≤ 2000) : Calls Try.prog 5 #[.agg (refC l n), .agg (outC m lv), bv] W0 (AlivePost W0) := by
  obtain ⟨i, hi, hz, hs1, hby⟩ := b8Info
  obtain ⟨q, hq⟩ : ∃ q, L.length = q := ⟨_, rfl⟩
  obtain ⟨k, hk⟩ : ∃ k, b.length = k := ⟨_, rfl⟩
  have d1 : decide ((q : Int) > 2500) = false := by simp; omega
  have d2 : decide ((k : Int) > 2500) = false := by simp; omega
  have hXl := ref_len hl n
  have hYl := outL_le (n := m) (l := L) (m := 2500) (by omega)
  have hbv0 := hbv
  have hr1 : ∀ (Lm : Nat) (w : World) (g : Nat), Rd Lm 73 w g ⟨refL l n ++ outL m L, 0⟩ → Lm ≤ w.heap.size → Calls Try.prog 22 #[.pointer (some ⟨g, 0, none⟩)] w (RefPost Lm 73 g w ((l, n), ⟨outL m L, 0⟩)) := fun Lm w g h hL => by
    rw [← ref_back hl hn (outL m L)]
    exact coRefRead_any w h (by dsimp only; rw [List.length_append]; omega) hL
  have ho1 : L.length ≤ 2000 → ∀ (Lm : Nat) (w : World) (g : Nat), Rd Lm 73 w g ⟨outL m L, 0⟩ → Calls Try.prog 23 #[.pointer (some ⟨g, 0, none⟩)] w (OutPost Lm 73 g w ((m, L), ⟨[], 0⟩)) := fun h0 Lm w g h => by
    have e := out_back hm1 hm2 h0 []
    rw [List.append_nil] at e
    rw [← e]
    exact coOutRead_any w h (by dsimp only; omega)
  obtain ⟨p1, hp1⟩ : ∃ p, refS ⟨b, 0⟩ = p := ⟨_, rfl⟩
  have hr2 : ∀ (Lm : Nat) (w : World) (g : Nat), Rd Lm 73 w g ⟨b, 0⟩ → Lm ≤ w.heap.size → Calls Try.prog 22 #[.pointer (some ⟨g, 0, none⟩)] w (RefPost Lm 73 g w p1) := fun Lm w g h hL => by rw [← hp1]; exact coRefRead_any w h (by dsimp only; omega) hL
  have hz2 : ∀ (Lm : Nat) (w : World) (g : Nat), Rd Lm 51 w g ⟨b, 0⟩ → Lm ≤ w.heap.size → Calls Try.prog 26 #[.pointer (some ⟨g, 0, none⟩)] w (RefPost Lm 51 g w p1) := fun Lm w g h hL => by rw [← hp1]; exact zRefRead_any w h (by dsimp only; omega) hL
  have hrl : p1.1.1.length = 32 := by rw [← hp1]; exact refS_len _
  have hT1 : p1.2.rest.length ≤ 2500 := by rw [← hp1]; exact Nat.le_trans (ref_restLe _) (by dsimp only; omega)
  clear hp1
  obtain ⟨⟨rl, rn⟩, T1⟩ := p1
  dsimp only at hrl hT1
  obtain ⟨p2, hp2⟩ : ∃ p, outS T1 = p := ⟨_, rfl⟩
  have ho2 : ∀ (Lm : Nat) (w : World) (g : Nat), Rd Lm 73 w g T1 → Calls Try.prog 23 #[.pointer (some ⟨g, 0, none⟩)] w (OutPost Lm 73 g w p2) := fun Lm w g h => by rw [← hp2]; exact coOutRead_any w h (by omega)
  have hy2 : ∀ (Lm : Nat) (w : World) (g : Nat), Rd Lm 51 w g T1 → Calls Try.prog 28 #[.pointer (some ⟨g, 0, none⟩)] w (OutPost Lm 51 g w p2) := fun Lm w g h => by rw [← hp2]; exact zOutRead_any w h (by omega)
  clear hp2
  obtain ⟨⟨ON, OL⟩, T2⟩ := p2
  obtain ⟨E1, hE1⟩ : ∃ E, T1.err = E := ⟨_, rfl⟩
  obtain ⟨F1, hF1⟩ : ∃ F, T1.rest.length = F := ⟨_, rfl⟩
  obtain ⟨E2, hE2⟩ : ∃ E, T2.err = E := ⟨_, rfl⟩
  obtain ⟨F2, hF2⟩ : ∃ F, T2.rest.length = F := ⟨_, rfl⟩
  have d3 : decide ((q : Int) ≤ 2000) = true := by simp; omega
  have ho1 := ho1 h3
  go_enter Try.func5, Try.ntmps5
  go_wp2_with (first
    | ((with_reducible change wpList _ _ _ (Oper.mk (some 3) _ _ _ _ _ :: _) _ _); refine kBoxL _ _ _ rfl rfl rfl ?_; intro w1 hRA hz1 hB0; clear hz1; have hlv_1 := hlv.below hB0; have hbv_2 := hbv.below hB0; clear hlv hbv; go_frame)
    | ((with_reducible change wpList _ _ _ (Oper.mk (some 4) _ _ _ _ _ :: _) _ _); refine kBoxL _ _ _ rfl rfl rfl ?_; intro w2 hRB hz2 hBB; clear hz2; have hAB := Nat.ne_of_lt hRA.lt; have hlv_3 := hlv_1.below hBB; have hbv_4 := hbv_2.below hBB; have hRA_5 := hRA.below hBB hRA.lt; have hB_6 := hB0.trans (hBB.mono hB0.size); clear hlv_1 hbv_2 hRA hB0 hBB; go_frame)
    | (go_at_call 10; refine (coinAlive_any _).mono ?_; rintro e w3 ⟨rfl, hBB⟩; have hlv_7 := hlv_3.below hBB; have hbv_8 := hbv_4.below hBB; have hRA_9 := hRA_5.below hBB hRA_5.lt; have hRB_10 := hRB.below hBB hRB.lt; have hB_11 := hB_6.trans (hBB.mono hB_6.size); clear hlv_3 hbv_4 hRA_5 hRB hB_6 hBB; go_frame)
    | ((with_reducible change wpList _ _ _ (Oper.mk (some 14) _ _ _ _ _ :: _) _ _); refine kFld outCF1 _ _ 0 1 rfl rfl rfl rfl ?_; go_frame)
    | ((with_reducible change wpList _ _ _ (Oper.mk (some 15) _ _ _ _ _ :: _) _ _); refine kLd Try.underlying25 rfl _ _ 1 _ lv hRB_10 rfl rfl rfl rfl ?_; go_frame)
    | ((with_reducible change wpList _ _ _ (Oper.mk (some 16) _ _ _ _ _ :: _) _ _); refine kLenN _ _ _ lv _ q rfl rfl rfl hlv_7 (by rw [List.length_map, hq]) Try.underlying25 ?_; go_frame)
    | ((with_reducible change wpList _ _ _ (Oper.mk (some 17) _ _ _ _ _ :: _) _ _); refine kGtrI _ _ _ _ .i64 (q : Int) 2500 false rfl rfl rfl rfl d1 ?_; go_frame)
    | ((with_reducible change wpList _ _ _ (Oper.mk (some 20) _ _ _ _ _ :: _) _ _); refine kLenN _ _ _ bv _ k rfl rfl rfl hbv_8 (by rw [List.length_map, hk]) Try.underlying25 ?_; go_frame)
    | ((with_reducible change wpList _ _ _ (Oper.mk (some 21) _ _ _ _ _ :: _) _ _); refine kGtrI _ _ _ _ .i64 (k : Int) 2500 false rfl rfl rfl rfl d2 ?_; go_frame))
  refine region_mixD [(0, true), (2, true), (1, false), (3, false), (4, true), (5, true)] (fun w => (IsVals w lv (L.map VB)) ∧ (Row w W0.heap.size 43 (refC l n)) ∧ (Row w w1.heap.size 27 (outC m lv))) (by kernel_rfl) (by kernel_rfl) rfl ?_
  intro p0 hBd hsd
  clear hsd
  have hlv_12 := hlv_7.below hBd
  have hbv_13 := hbv_8.below hBd
  have hRA_14 := hRA_9.below hBd hRA_9.lt
  have hRB_15 := hRB_10.below hBd hRB_10.lt
  have hB_16 := hB_11.trans (hBd.mono hB_11.size)
  clear hlv_7 hbv_8 hRA_9 hRB_10 hB_11 hBd
  simp only [List.map_cons, List.map_nil]
  dsimp only [List.filterMap, List.getElem?_cons_zero, List.getElem?_cons_succ]
  have hS : (IsVals p0 lv (L.map VB)) ∧ (Row p0 W0.heap.size 43 (refC l n)) ∧ (Row p0 w1.heap.size 27 (outC m lv)) := ⟨hlv_12, hRA_14, hRB_15⟩
  refine dY _ hS (yLoadRowC Try.underlying43 rfl _ W0.heap.size (refC l n) (info_RefS _ _) (fun _ h => h.2.1) rfl rfl rfl) ?_; go_frame
  refine dY _ hS (yLoadRowC Try.underlying27 rfl _ w1.heap.size (outC m lv) info_OutC (fun _ h => h.2.2) rfl rfl rfl) ?_; go_frame
  refine dLoud ?_
  refine kCall1 16 _ _ _ rfl rfl (by kernel_rfl) rfl ?_
  refine (coRefBytes_any hl hn _).mono ?_
  rintro e p1 ⟨vx, rfl, hO, hBB⟩
  clear hS
  have hvx := hO.vals
  clear hO
  have hlv_17 := hlv_12.below hBB
  have hbv_18 := hbv_13.below hBB
  have hRA_19 := hRA_14.below hBB hRA_14.lt
  have hRB_20 := hRB_15.below hBB hRB_15.lt
  have hB_21 := hB_16.trans (hBB.mono hB_16.size)
  clear hlv_12 hbv_13 hRA_14 hRB_15 hB_16 hBB
  have hS : (IsVals p1 lv (L.map VB)) ∧ (Row p1 W0.heap.size 43 (refC l n)) ∧ (Row p1 w1.heap.size 27 (outC m lv)) ∧ (IsVals p1 vx ((refL l n).map VB)) := ⟨hlv_17, hRA_19, hRB_20, hvx⟩
  refine ⟨_, rfl, mixOn ⟨(fun w => (IsVals w lv (L.map VB)) ∧ (Row w W0.heap.size 43 (refC l n)) ∧ (Row w w1.heap.size 27 (outC m lv)) ∧ (IsVals w vx ((refL l n).map VB))), (fun _ h => ⟨h.1, h.2.1, h.2.2.1⟩), hS, ?_⟩⟩
  go_frame
  refine dLoud ?_
  refine kCall1 17 _ _ _ rfl rfl (by kernel_rfl) rfl ?_
  refine (coOutBytes_any _ hlv_17 (by omega)).mono ?_
  rintro e p2 ⟨vy, rfl, hO, hBB⟩
  clear hS
  have hvy := hO.vals
  clear hO
  have hlv_22 := hlv_17.below hBB
  have hbv_23 := hbv_18.below hBB
  have hRA_24 := hRA_19.below hBB hRA_19.lt
  have hRB_25 := hRB_20.below hBB hRB_20.lt
  have hvx_26 := hvx.below hBB
  have hB_27 := hB_21.trans (hBB.mono hB_21.size)
  clear hlv_17 hbv_18 hRA_19 hRB_20 hvx hB_21 hBB
  have hS : (IsVals p2 lv (L.map VB)) ∧ (Row p2 W0.heap.size 43 (refC l n)) ∧ (Row p2 w1.heap.size 27 (outC m lv)) ∧ (IsVals p2 vx ((refL l n).map VB)) ∧ (IsVals p2 vy ((outL m L).map VB)) := ⟨hlv_22, hRA_24, hRB_25, hvx_26, hvy⟩
  refine ⟨_, rfl, mixOn ⟨(fun w => (IsVals w lv (L.map VB)) ∧ (Row w W0.heap.size 43 (refC l n)) ∧ (Row w w1.heap.size 27 (outC m lv)) ∧ (IsVals w vx ((refL l n).map VB)) ∧ (IsVals w vy ((outL m L).map VB))), (fun _ h => ⟨h.1, h.2.1, h.2.2.1, h.2.2.2.1⟩), hS, ?_⟩⟩
  go_frame
  refine dY _ hS (yAssign _ vx rfl rfl rfl) ?_; go_frame
  refine dY _ hS (yAssign _ vy rfl rfl rfl) ?_; go_frame
  refine dDone ?_
  clear hS
  go_wp2_with fail
  refine region_mixD [(0, true), (1, true), (2, true), (3, false), (4, true), (5, true), (6, true), (7, true), (8, true), (9, true), (10, false), (11, true), (12, true), (13, true), (14, true), (15, true), (16, true), (17, false), (18, true), (19, true)] (fun w => (IsVals w lv (L.map VB)) ∧ (Row w W0.heap.size 43 (refC l n)) ∧ (Row w w1.heap.size 27 (outC m lv)) ∧ (IsVals w vx ((refL l n).map VB)) ∧ (IsVals w vy ((outL m L).map VB))) (by kernel_rfl) (by kernel_rfl) rfl ?_
  intro q0 hBd hsd
  clear hsd
  have hlv_28 := hlv_22.below hBd
  have hbv_29 := hbv_23.below hBd
  have hRA_30 := hRA_24.below hBd hRA_24.lt
  have hRB_31 := hRB_25.below hBd hRB_25.lt
  have hvx_32 := hvx_26.below hBd
  have hvy_33 := hvy.below hBd
  have hB_34 := hB_27.trans (hBd.mono hB_27.size)
  clear hlv_22 hbv_23 hRA_24 hRB_25 hvx_26 hvy hB_27 hBd
  simp only [List.map_cons, List.map_nil]
  dsimp only [List.filterMap, List.getElem?_cons_zero, List.getElem?_cons_succ]
  have hS : (IsVals q0 lv (L.map VB)) ∧ (Row q0 W0.heap.size 43 (refC l n)) ∧ (Row q0 w1.heap.size 27 (outC m lv)) ∧ (IsVals q0 vx ((refL l n).map VB)) ∧ (IsVals q0 vy ((outL m L).map VB)) := ⟨hlv_28, hRA_30, hRB_31, hvx_32, hvy_33⟩
  refine dY _ hS (yMove _ (vx) rfl rfl rfl) ?_; go_frame
  refine dY _ hS (yStr _ _ _ _ vx (refL l n) rfl rfl rfl (fun _ h => h.2.2.2.1) Try.underlying25 Try.underlying5 Try.underlying9) ?_; go_frame
  refine dY _ hS (yLoadRowC Try.underlying43 rfl _ W0.heap.size (refC l n) (info_RefS _ _) (fun _ h => h.2.1) rfl rfl rfl) ?_; go_frame
  refine dLoud ?_
  refine kCall1 18 _ _ _ rfl rfl (by kernel_rfl) rfl ?_
  refine (zRefBytes_any hl hn _).mono ?_
  rintro e q1 ⟨v30, rfl, hO, hBB⟩
  clear hS
  have hv30 := hO.vals
  clear hO
  have hlv_35 := hlv_28.below hBB
  have hbv_36 := hbv_29.below hBB
  have hRA_37 := hRA_30.below hBB hRA_30.lt
  have hRB_38 := hRB_31.below hBB hRB_31.lt
  have hvx_39 := hvx_32.below hBB
  have hvy_40 := hvy_33.below hBB
  have hB_41 := hB_34.trans (hBB.mono hB_34.size)
  clear hlv_28 hbv_29 hRA_30 hRB_31 hvx_32 hvy_33 hB_34 hBB
  have hS : (IsVals q1 lv (L.map VB)) ∧ (Row q1 W0.heap.size 43 (refC l n)) ∧ (Row q1 w1.heap.size 27 (outC m lv)) ∧ (IsVals q1 vx ((refL l n).map VB)) ∧ (IsVals q1 vy ((outL m L).map VB)) ∧ (IsVals q1 v30 ((refL l n).map VB)) := ⟨hlv_35, hRA_37, hRB_38, hvx_39, hvy_40, hv30⟩
  refine ⟨_, rfl, mixOn ⟨(fun w => (IsVals w lv (L.map VB)) ∧ (Row w W0.heap.size 43 (refC l n)) ∧ (Row w w1.heap.size 27 (outC m lv)) ∧ (IsVals w vx ((refL l n).map VB)) ∧ (IsVals w vy ((outL m L).map VB)) ∧ (IsVals w v30 ((refL l n).map VB))), (fun _ h => ⟨h.1, h.2.1, h.2.2.1, h.2.2.2.1, h.2.2.2.2.1⟩), hS, ?_⟩⟩
  go_frame
  refine dY _ hS (yStr _ _ _ _ v30 (refL l n) rfl rfl rfl (fun _ h => h.2.2.2.2.2) Try.underlying25 Try.underlying5 Try.underlying9) ?_; go_frame
  refine dY _ hS (yNeqStr _ _ _ _ (refL l n) (refL l n) false rfl rfl rfl rfl (by simp)) ?_; go_frame
  refine dY _ hS (yMove _ (.bool false) rfl rfl rfl) ?_; go_frame
  refine dY _ hS (yMove _ (vy) rfl rfl rfl) ?_; go_frame
  refine dY _ hS (yStr _ _ _ _ vy (outL m L) rfl rfl rfl (fun _ h => h.2.2.2.2.1) Try.underlying25 Try.underlying5 Try.underlying9) ?_; go_frame
  refine dY _ hS (yLoadRowC Try.underlying27 rfl _ w1.heap.size (outC m lv) info_OutC (fun _ h => h.2.2.1) rfl rfl rfl) ?_; go_frame
  refine dLoud ?_
  refine kCall1 19 _ _ _ rfl rfl (by kernel_rfl) rfl ?_
  refine (zOutBytes_any _ hlv_35 (by omega)).mono ?_
  rintro e q2 ⟨v37, rfl, hO, hBB⟩
  clear hS
  have hv37 := hO.vals
  clear hO
  have hlv_42 := hlv_35.below hBB
  have hbv_43 := hbv_36.below hBB
  have hRA_44 := hRA_37.below hBB hRA_37.lt
  have hRB_45 := hRB_38.below hBB hRB_38.lt
  have hvx_46 := hvx_39.below hBB
  have hvy_47 := hvy_40.below hBB
  have hv30_48 := hv30.below hBB
  have hB_49 := hB_41.trans (hBB.mono hB_41.size)
  clear hlv_35 hbv_36 hRA_37 hRB_38 hvx_39 hvy_40 hv30 hB_41 hBB
  have hS : (IsVals q2 lv (L.map VB)) ∧ (Row q2 W0.heap.size 43 (refC l n)) ∧ (Row q2 w1.heap.size 27 (outC m lv)) ∧ (IsVals q2 vx ((refL l n).map VB)) ∧ (IsVals q2 vy ((outL m L).map VB)) ∧ (IsVals q2 v30 ((refL l n).map VB)) ∧ (IsVals q2 v37 ((outL m L).map VB)) := ⟨hlv_42, hRA_44, hRB_45, hvx_46, hvy_47, hv30_48, hv37⟩
  refine ⟨_, rfl, mixOn ⟨(fun w => (IsVals w lv (L.map VB)) ∧ (Row w W0.heap.size 43 (refC l n)) ∧ (Row w w1.heap.size 27 (outC m lv)) ∧ (IsVals w vx ((refL l n).map VB)) ∧ (IsVals w vy ((outL m L).map VB)) ∧ (IsVals w v30 ((refL l n).map VB)) ∧ (IsVals w v37 ((outL m L).map VB))), (fun _ h => ⟨h.1, h.2.1, h.2.2.1, h.2.2.2.1, h.2.2.2.2.1, h.2.2.2.2.2.1⟩), hS, ?_⟩⟩
  go_frame
  refine dY _ hS (yStr _ _ _ _ v37 (outL m L) rfl rfl rfl (fun _ h => h.2.2.2.2.2.2) Try.underlying25 Try.underlying5 Try.underlying9) ?_; go_frame
  refine dY _ hS (yNeqStr _ _ _ _ (outL m L) (outL m L) false rfl rfl rfl rfl (by simp)) ?_; go_frame
  refine dY _ hS (yPick _ _ _ false (.bool false) rfl rfl rfl rfl) ?_; go_frame
  refine dY _ hS (yMove _ (.bool false) rfl rfl rfl) ?_; go_frame
  refine dY _ hS (yLoadRowC Try.underlying27 rfl _ w1.heap.size (outC m lv) info_OutC (fun _ h => h.2.2.1) rfl rfl rfl) ?_; go_frame
  refine dY _ hS (yLoadRowC Try.underlying27 rfl _ w1.heap.size (outC m lv) info_OutC (fun _ h => h.2.2.1) rfl rfl rfl) ?_; go_frame
  refine dLoud ?_
  refine kCall2 20 _ _ _ _ _ rfl rfl (by kernel_rfl) rfl rfl ?_
  refine (coSame_any (n := m) (m := m) _ hlv_42 hlv_42).mono ?_
  rintro e q3 ⟨rfl, hBB⟩
  clear hS
  rw [sameO_refl]
  have hlv_50 := hlv_42.below hBB
  have hbv_51 := hbv_43.below hBB
  have hRA_52 := hRA_44.below hBB hRA_44.lt
  have hRB_53 := hRB_45.below hBB hRB_45.lt
  have hvx_54 := hvx_46.below hBB
  have hvy_55 := hvy_47.below hBB
  have hv30_56 := hv30_48.below hBB
  have hv37_57 := hv37.below hBB
  have hB_58 := hB_49.trans (hBB.mono hB_49.size)
  clear hlv_42 hbv_43 hRA_44 hRB_45 hvx_46 hvy_47 hv30_48 hv37 hB_49 hBB
  have hS : (IsVals q3 lv (L.map VB)) ∧ (Row q3 W0.heap.size 43 (refC l n)) ∧ (Row q3 w1.heap.size 27 (outC m lv)) ∧ (IsVals q3 vx ((refL l n).map VB)) ∧ (IsVals q3 vy ((outL m L).map VB)) ∧ (IsVals q3 v30 ((refL l n).map VB)) ∧ (IsVals q3 v37 ((outL m L).map VB)) := ⟨hlv_50, hRA_52, hRB_53, hvx_54, hvy_55, hv30_56, hv37_57⟩
  refine ⟨_, rfl, mixOn ⟨(fun w => (IsVals w lv (L.map VB)) ∧ (Row w W0.heap.size 43 (refC l n)) ∧ (Row w w1.heap.size 27 (outC m lv)) ∧ (IsVals w vx ((refL l n).map VB)) ∧ (IsVals w vy ((outL m L).map VB)) ∧ (IsVals w v30 ((refL l n).map VB)) ∧ (IsVals w v37 ((outL m L).map VB))), (fun _ h => ⟨h.1, h.2.1, h.2.2.1, h.2.2.2.1, h.2.2.2.2.1, h.2.2.2.2.2.1, h.2.2.2.2.2.2⟩), hS, ?_⟩⟩
  go_frame
  refine dY _ hS (yNotC _ _ true rfl rfl rfl) ?_; go_frame
  refine dY _ hS (yPick _ _ _ false (.bool false) rfl rfl rfl rfl) ?_; go_frame
  refine dDone ?_
  clear hS
  go_wp2_with (first
    | ((with_reducible change wpList _ _ _ (Oper.mk (some 47) _ _ _ _ _ :: _) _ _); refine kBuildSlice0 _ _ rfl rfl Try.underlying25 i hi ?_; intro wb hRr hzz hC1; clear hzz; have hE := (own_empty (Nat.le_refl _) hRr : OwnB wb q3.heap.size _ []); clear hRr; have hx1 := hvx_54.below hC1; go_frame)
    | ((with_reducible change wpList _ _ _ (Oper.mk (some 49) _ _ _ _ _ :: _) _ _); refine kAppB _ _ rfl rfl q3.heap.size _ _ [] (refL l n) hE hx1 rfl rfl (by rw [hXl]; simp) hC1.size ?_; intro v49 w49 hE2 hC2; rw [List.nil_append] at hE2; have hC3 := hC1.trans hC2; have hy3 := hvy_55.below hC3; clear hE hx1 hC1 hC2; go_frame)
    | ((with_reducible change wpList _ _ _ (Oper.mk (some 51) _ _ _ _ _ :: _) _ _); refine kAppB _ _ rfl rfl q3.heap.size _ _ (refL l n) (outL m L) hE2 hy3 rfl rfl (by omega) hC3.size ?_; intro v51 w51 hE4 hC4; have hCC := hC3.trans hC4; have hs := hE4.vals; clear hE2 hy3 hC3 hC4 hE4; have hlv_59 := hlv_50.below hCC; have hbv_60 := hbv_51.below hCC; have hRA_61 := hRA_52.below hCC hRA_52.lt; have hRB_62 := hRB_53.below hCC hRB_53.lt; have hB_63 := hB_58.trans (hCC.mono hB_58.size); clear hlv_50 hbv_51 hRA_52 hRB_53 hB_58 hCC; go_frame)
    | (go_at_call 21; refine (pcNew_any _ hs (by rw [List.length_append]; omega)).mono ?_; rintro e w52 ⟨gp, rfl, hgp, hP, hBB⟩; have hnA : W0.heap.size ≠ gp := (by have := hRA_61.lt; omega); have hnB : w1.heap.size ≠ gp := (by have := hRB_62.lt; omega); have hgeP : W0.heap.size ≤ gp := (by have := hB_63.size; omega); clear hgp hs; have hLP := Nat.le_refl w52.heap.size; have hlv_64 := hlv_59.below hBB; have hbv_65 := hbv_60.below hBB; have hRA_66 := hRA_61.below hBB hRA_61.lt; have hRB_67 := hRB_62.below hBB hRB_62.lt; have hB_68 := hB_63.trans (hBB.mono hB_63.size); clear hlv_59 hbv_60 hRA_61 hRB_62 hB_63 hBB; go_frame)
    | ((with_reducible change wpList _ _ _ (Oper.mk (some 54) _ _ _ _ _ :: _) _ _); refine kBuildScanC _ bv hbv_65 rfl rfl rfl ?_; go_frame)
    | ((with_reducible change wpList _ _ _ (Oper.mk (some 55) _ _ _ _ _ :: _) _ _); refine kBoxL _ _ _ rfl rfl rfl ?_; intro w55 hRS hzS hBB; clear hzS; have hmA : W0.heap.size ≠ w52.heap.size := (by have := hRA_66.lt; omega); have hmB : w1.heap.size ≠ w52.heap.size := (by have := hRB_67.lt; omega); have hPQ : gp ≠ w52.heap.size := (by have := hP.lt; omega); have hgeQ := hB_68.size; have hb0 := hbv_65; have hLP_69 := Nat.le_trans hLP (hBB).size; clear hLP; have hlv_70 := hlv_64.below hBB; have hbv_71 := hbv_65.below hBB; have hRA_72 := hRA_66.below hBB hRA_66.lt; have hRB_73 := hRB_67.below hBB hRB_67.lt; have hP_74 := hP.below hBB; have hB_75 := hB_68.trans (hBB.mono hB_68.size); clear hlv_64 hbv_65 hRA_66 hRB_67 hP hB_68 hBB; have hQ : Rd W0.heap.size 51 w55 w52.heap.size ⟨b, 0⟩ := ⟨bv, hRS, hbv_71, limR_vals hbv0⟩; clear hRS hb0; go_frame))
  refine region_mixD [(0, true), (2, true), (1, false), (3, true), (4, true), (5, true), (6, true), (7, true), (8, true), (9, true), (10, true), (12, true), (11, false), (13, false), (14, true), (15, true), (16, true), (17, false), (18, true), (19, true), (20, true), (21, true), (22, false), (23, true), (24, true), (25, true), (26, true)] (fun w => (IsVals w lv (L.map VB)) ∧ (Row w W0.heap.size 43 (refC l n)) ∧ (Row w w1.heap.size 27 (outC m lv))) (by kernel_rfl) (by kernel_rfl) rfl ?_
  intro r0 hBd hsd
  clear hsd
  have hLP_76 := Nat.le_trans hLP_69 (hBd).size
  clear hLP_69
  have hlv_77 := hlv_70.below hBd
  have hbv_78 := hbv_71.below hBd
  have hRA_79 := hRA_72.below hBd hRA_72.lt
  have hRB_80 := hRB_73.below hBd hRB_73.lt
  have hP_81 := hP_74.below hBd
  have hQ_82 := hQ.below hBd
  have hB_83 := hB_75.trans (hBd.mono hB_75.size)
  clear hlv_70 hbv_71 hRA_72 hRB_73 hP_74 hQ hB_75 hBd
  simp only [List.map_cons, List.map_nil]
  dsimp only [List.filterMap, List.getElem?_cons_zero, List.getElem?_cons_succ]
  have hS : (IsVals r0 lv (L.map VB)) ∧ (Row r0 W0.heap.size 43 (refC l n)) ∧ (Row r0 w1.heap.size 27 (outC m lv)) := ⟨hlv_77, hRA_79, hRB_80⟩
  refine dY _ hS (yMove _ (.pointer (some ⟨gp, 0, none⟩)) rfl rfl rfl) ?_; go_frame
  refine dY _ hS (yLoadRowC Try.underlying43 rfl _ W0.heap.size (refC l n) (info_RefS _ _) (fun _ h => h.2.1) rfl rfl rfl) ?_; go_frame
  refine dLoud ?_
  refine kCall1 22 _ _ _ rfl rfl (by kernel_rfl) rfl ?_
  refine (hr1 _ _ _ hP_81 hLP_76).mono ?_
  rintro e r1 ⟨rfl, hP2, hX⟩
  clear hS
  have hLP_84 := Nat.le_trans hLP_76 hX.size
  clear hLP_76
  have hlv_85 := hX.vals hP_81 hlv_77
  have hbv_86 := hX.vals hP_81 hbv_78
  have hRA_87 := hX.row hRA_79 hnA
  have hRB_88 := hX.row hRB_80 hnB
  have hQ_89 := hX.rd hP_81 hQ_82 (Ne.symm hPQ)
  have hB_90 := hB_83.trans (hX.below hgeP hB_83.size)
  clear hlv_77 hbv_78 hRA_79 hRB_80 hQ_82 hB_83 hP_81 hX
  have hS : (IsVals r1 lv (L.map VB)) ∧ (Row r1 W0.heap.size 43 (refC l n)) ∧ (Row r1 w1.heap.size 27 (outC m lv)) := ⟨hlv_85, hRA_87, hRB_88⟩
  refine ⟨_, rfl, mixOn ⟨(fun w => (IsVals w lv (L.map VB)) ∧ (Row w W0.heap.size 43 (refC l n)) ∧ (Row w w1.heap.size 27 (outC m lv))), (fun _ h => ⟨h.1, h.2.1, h.2.2⟩), hS, ?_⟩⟩
  go_frame
  refine dY _ hS (yNeqSt _ _ _ true eqGuard_RefC (fun w => run_sameRefC hl n w) rfl rfl rfl rfl) ?_; go_frame
  refine dY _ hS (yMove _ (.bool false) rfl rfl rfl) ?_; go_frame
  refine dY _ hS (yFld outCF1 _ _ 0 1 rfl rfl rfl rfl) ?_; go_frame
  refine dY _ hS (yLoad1 _ _ _ _ 1 _ (lv) _ rfl rfl rfl (fun _ h => h.2.2) Try.underlying25 rfl rfl) ?_; go_frame
  refine dY _ hS (yLen _ _ _ lv _ q rfl rfl rfl (fun _ h => h.1) (by rw [List.length_map, hq]) Try.underlying25) ?_; go_frame
  refine dY _ hS (yLeqI _ _ _ _ .i64 (q : Int) 2000 true rfl rfl rfl rfl d3) ?_; go_frame
  refine dY _ hS (yMove _ (.bool true) rfl rfl rfl) ?_; go_frame
  refine dY _ hS (yMove _ (.pointer (some ⟨gp, 0, none⟩)) rfl rfl rfl) ?_; go_frame
  refine dY _ hS (yLoadRowC Try.underlying27 rfl _ w1.heap.size (outC m lv) info_OutC (fun _ h => h.2.2) rfl rfl rfl) ?_; go_frame
  refine dLoud ?_
  refine kCall1 23 _ _ _ rfl rfl (by kernel_rfl) rfl ?_
  refine (ho1 _ _ _ hP2).mono ?_
  rintro e r2 ⟨v67, rfl, hO, hP3, hX⟩
  clear hS
  have hv67 := hO.vals
  clear hO
  have hLP_91 := Nat.le_trans hLP_84 hX.size
  clear hLP_84
  have hlv_92 := hX.vals hP2 hlv_85
  have hbv_93 := hX.vals hP2 hbv_86
  have hRA_94 := hX.row hRA_87 hnA
  have hRB_95 := hX.row hRB_88 hnB
  have hQ_96 := hX.rd hP2 hQ_89 (Ne.symm hPQ)
  have hB_97 := hB_90.trans (hX.below hgeP hB_90.size)
  clear hlv_85 hbv_86 hRA_87 hRB_88 hQ_89 hB_90 hP2 hX
  have hS : (IsVals r2 lv (L.map VB)) ∧ (Row r2 W0.heap.size 43 (refC l n)) ∧ (Row r2 w1.heap.size 27 (outC m lv)) ∧ (IsVals r2 v67 (L.map VB)) := ⟨hlv_92, hRA_94, hRB_95, hv67⟩
  refine ⟨_, rfl, mixOn ⟨(fun w => (IsVals w lv (L.map VB)) ∧ (Row w W0.heap.size 43 (refC l n)) ∧ (Row w w1.heap.size 27 (outC m lv)) ∧ (IsVals w v67 (L.map VB))), (fun _ h => ⟨h.1, h.2.1, h.2.2.1⟩), hS, ?_⟩⟩
  go_frame
  refine dLoud ?_
  refine kCall2 20 _ _ _ _ _ rfl rfl (by kernel_rfl) rfl rfl ?_
  refine (coSame_any (n := m) (m := m) _ hv67 hlv_92).mono ?_
  rintro e r3 ⟨rfl, hBB⟩
  clear hS
  rw [sameO_refl]
  have hLP_98 := Nat.le_trans hLP_91 (hBB).size
  clear hLP_91
  have hlv_99 := hlv_92.below hBB
  have hbv_100 := hbv_93.below hBB
  have hRA_101 := hRA_94.below hBB hRA_94.lt
  have hRB_102 := hRB_95.below hBB hRB_95.lt
  have hP_103 := hP3.below hBB
  have hQ_104 := hQ_96.below hBB
  have hv67_105 := hv67.below hBB
  have hB_106 := hB_97.trans (hBB.mono hB_97.size)
  clear hlv_92 hbv_93 hRA_94 hRB_95 hP3 hQ_96 hv67 hB_97 hBB
  have hS : (IsVals r3 lv (L.map VB)) ∧ (Row r3 W0.heap.size 43 (refC l n)) ∧ (Row r3 w1.heap.size 27 (outC m lv)) ∧ (IsVals r3 v67 (L.map VB)) := ⟨hlv_99, hRA_101, hRB_102, hv67_105⟩
  refine ⟨_, rfl, mixOn ⟨(fun w => (IsVals w lv (L.map VB)) ∧ (Row w W0.heap.size 43 (refC l n)) ∧ (Row w w1.heap.size 27 (outC m lv)) ∧ (IsVals w v67 (L.map VB))), (fun _ h => ⟨h.1, h.2.1, h.2.2.1, h.2.2.2⟩), hS, ?_⟩⟩
  go_frame
  refine dY _ hS (yNotC _ _ true rfl rfl rfl) ?_; go_frame
  refine dY _ hS (yMove _ (.bool false) rfl rfl rfl) ?_; go_frame
  refine dY _ hS (yMove _ (.pointer (some ⟨gp, 0, none⟩)) rfl rfl rfl) ?_; go_frame
  refine dLoud ?_
  refine kCall1 24 _ _ _ rfl rfl (by kernel_rfl) rfl ?_
  refine (rdLeft_any (n := 0) _ hP_103 rfl).mono ?_
  rintro e r4 ⟨rfl, rfl⟩
  refine ⟨_, rfl, mixOn ⟨_, (fun _ h => h), hS, ?_⟩⟩
  go_frame
  refine dY _ hS (yNeqI _ _ _ _ .i64 ((0 : Nat) : Int) 0 false rfl rfl rfl rfl (by decide)) ?_; go_frame
  refine dY _ hS (yPick _ _ _ false (.bool false) rfl rfl rfl rfl) ?_; go_frame
  refine dY _ hS (yMove _ (.bool false) rfl rfl rfl) ?_; go_frame
  refine dY _ hS (yMove _ (.pointer (some ⟨gp, 0, none⟩)) rfl rfl rfl) ?_; go_frame
  refine dLoud ?_
  refine kCall1 25 _ _ _ rfl rfl (by kernel_rfl) rfl ?_
  refine (rdErr_any (n := 0) _ hP_103 rfl).mono ?_
  rintro e r5 ⟨rfl, rfl⟩
  refine ⟨_, rfl, mixOn ⟨_, (fun _ h => h), hS, ?_⟩⟩
  go_frame
  refine dY _ hS (yNeqI _ _ _ _ .i64 ((0 : Nat) : Int) 0 false rfl rfl rfl rfl (by decide)) ?_; go_frame
  refine dY _ hS (yPick _ _ _ false (.bool false) rfl rfl rfl rfl) ?_; go_frame
  refine dY _ hS (yPick _ _ _ true (.bool false) rfl rfl rfl rfl) ?_; go_frame
  refine dY _ hS (yPick _ _ _ false (.bool false) rfl rfl rfl rfl) ?_; go_frame
  refine dDone ?_
  clear hS
  go_wp2_with (first
    | (go_at_call 21; refine (pcNew_any _ hbv_100 (by omega)).mono ?_; rintro e w84 ⟨gz, rfl, hgz, hZ, hBB⟩; have hgeZ : W0.heap.size ≤ gz := (by have := hB_106.size; omega); have hZQ : gz ≠ w52.heap.size := (by have := hQ_104.lt; omega); clear hgz; have hLZ := Nat.le_refl w84.heap.size; have hbv_107 := hbv_100.below hBB; have hQ_108 := hQ_104.below hBB; have hB_109 := hB_106.trans (hBB.mono hB_106.size); clear hbv_100 hQ_104 hB_106 hBB; go_frame))
  refine region_mixD [(0, true), (2, true), (1, false), (3, false), (4, true), (5, true), (6, true), (8, true), (9, true), (10, true), (11, true), (7, false), (12, true), (13, true), (14, true), (15, true), (17, true), (18, true), (19, true), (20, true), (21, true), (16, false), (22, true), (23, true)] (fun w => True) (by kernel_rfl) (by kernel_rfl) rfl ?_
  intro s0 hBd hsd
  clear hsd
  have hLZ_110 := Nat.le_trans hLZ (hBd).size
  clear hLZ
  have hQ_111 := hQ_108.below hBd
  have hZ_112 := hZ.below hBd
  have hB_113 := hB_109.trans (hBd.mono hB_109.size)
  clear hQ_108 hZ hB_109 hBd
  simp only [List.map_cons, List.map_nil]
  dsimp only [List.filterMap, List.getElem?_cons_zero, List.getElem?_cons_succ]
  have hS : True := trivial
  refine dY _ hS (yMove _ (.pointer (some ⟨gz, 0, none⟩)) rfl rfl rfl) ?_; go_frame
  refine dY _ hS (yMove _ (.pointer (some ⟨w52.heap.size, 0, none⟩)) rfl rfl rfl) ?_; go_frame
  refine dLoud ?_
  refine kCall1 22 _ _ _ rfl rfl (by kernel_rfl) rfl ?_
  refine (hr2 _ _ _ hZ_112 hLZ_110).mono ?_
  rintro e s1 ⟨rfl, hZ2, hX⟩
  clear hS
  have hLZ_114 := Nat.le_trans hLZ_110 hX.size
  clear hLZ_110
  have hQ_115 := hX.rd hZ_112 hQ_111 (Ne.symm hZQ)
  have hB_116 := hB_113.trans (hX.below hgeZ hB_113.size)
  clear hQ_111 hB_113 hZ_112 hX
  have hS : True := trivial
  refine ⟨_, rfl, mixOn ⟨(fun w => True), (fun _ h => trivial), hS, ?_⟩⟩
  go_frame
  refine dLoud ?_
  refine kCall1 26 _ _ _ rfl rfl (by kernel_rfl) rfl ?_
  refine (hz2 _ _ _ hQ_115 hB_116.size).mono ?_
  rintro e s2 ⟨rfl, hQ2, hX⟩
  clear hS
  have hLZ_117 := Nat.le_trans hLZ_114 hX.size
  clear hLZ_114
  have hZ_118 := hX.rd hQ_115 hZ2 hZQ
  have hB_119 := hB_116.trans (hX.below hgeQ hB_116.size)
  clear hZ2 hB_116 hQ_115 hX
  obtain ⟨vS1, hRS1, hVS1, hLS1⟩ := id hQ2
  rw [hE1] at hRS1
  clear hLS1
  have hS : (Row s2 w52.heap.size 51 #[vS1, .int .i64 (E1 : Int)]) ∧ (IsVals s2 vS1 (T1.rest.map VB)) := ⟨hRS1, hVS1⟩
  refine ⟨_, rfl, mixOn ⟨(fun w => (Row w w52.heap.size 51 #[vS1, .int .i64 (E1 : Int)]) ∧ (IsVals w vS1 (T1.rest.map VB))), (fun _ h => trivial), hS, ?_⟩⟩
  go_frame
  refine dY _ hS (yNeqSt _ _ _ true eqGuard_RefC (fun w => run_sameRefC hrl rn w) rfl rfl rfl rfl) ?_; go_frame
  refine dY _ hS (yMove _ (.bool false) rfl rfl rfl) ?_; go_frame
  refine dY _ hS (yMove _ (.pointer (some ⟨gz, 0, none⟩)) rfl rfl rfl) ?_; go_frame
  refine dY _ hS (yMove _ (.pointer (some ⟨w52.heap.size, 0, none⟩)) rfl rfl rfl) ?_; go_frame
  refine dY _ hS (yNil _ ⟨w52.heap.size, 0, none⟩ rfl rfl rfl) ?_; go_frame
  refine dY _ hS (yFld scanF1 _ _ 0 1 rfl rfl rfl rfl) ?_; go_frame
  refine dY _ hS (yLoad1 _ _ _ _ 1 _ (.int .i64 (E1 : Int)) _ rfl rfl rfl (fun _ h => h.1) Try.underlying3 rfl rfl) ?_; go_frame
  refine dLoud ?_
  refine kCall1 25 _ _ _ rfl rfl (by kernel_rfl) rfl ?_
  refine (rdErr_any (n := E1) _ hZ_118 hE1).mono ?_
  rintro e s3 ⟨rfl, rfl⟩
  refine ⟨_, rfl, mixOn ⟨_, (fun _ h => h), hS, ?_⟩⟩
  go_frame
  refine dY _ hS (yNeqI _ _ _ _ .i64 (E1 : Int) (E1 : Int) false rfl rfl rfl rfl (by simp)) ?_; go_frame
  refine dY _ hS (yPick _ _ _ false (.bool false) rfl rfl rfl rfl) ?_; go_frame
  refine dY _ hS (yMove _ (.bool false) rfl rfl rfl) ?_; go_frame
  refine dY _ hS (yMove _ (.pointer (some ⟨gz, 0, none⟩)) rfl rfl rfl) ?_; go_frame
  refine dY _ hS (yMove _ (.pointer (some ⟨w52.heap.size, 0, none⟩)) rfl rfl rfl) ?_; go_frame
  refine dY _ hS (yNil _ ⟨w52.heap.size, 0, none⟩ rfl rfl rfl) ?_; go_frame
  refine dY _ hS (yFld scanF0 _ _ 0 0 rfl rfl rfl rfl) ?_; go_frame
  refine dY _ hS (yLoad1 _ _ _ _ 0 _ (vS1) _ rfl rfl rfl (fun _ h => h.1) Try.underlying25 rfl rfl) ?_; go_frame
  refine dY _ hS (yLen _ _ _ vS1 _ F1 rfl rfl rfl (fun _ h => h.2) (by rw [List.length_map, hF1]) Try.underlying25) ?_; go_frame
  refine dLoud ?_
  refine kCall1 24 _ _ _ rfl rfl (by kernel_rfl) rfl ?_
  refine (rdLeft_any (n := F1) _ hZ_118 hF1).mono ?_
  rintro e s4 ⟨rfl, rfl⟩
  refine ⟨_, rfl, mixOn ⟨_, (fun _ h => h), hS, ?_⟩⟩
  go_frame
  refine dY _ hS (yNeqI _ _ _ _ .i64 (F1 : Int) (F1 : Int) false rfl rfl rfl rfl (by simp)) ?_; go_frame
  refine dY _ hS (yPick _ _ _ false (.bool false) rfl rfl rfl rfl) ?_; go_frame
  refine dDone ?_
  clear hS
  go_wp2_with fail
  refine region_mixD [(0, true), (2, true), (1, false), (3, false), (4, false), (5, true), (6, true), (8, true), (9, true), (10, true), (11, true), (7, false), (12, true), (13, true), (14, true), (15, true), (17, true), (18, true), (19, true), (20, true), (21, true), (16, false), (22, true), (23, true), (24, true)] (fun w => True) (by kernel_rfl) (by kernel_rfl) rfl ?_
  intro u0 hBd hsd
  clear hsd
  have hQ_120 := hQ2.below hBd
  have hZ_121 := hZ_118.below hBd
  have hB_122 := hB_119.trans (hBd.mono hB_119.size)
  clear hQ2 hZ_118 hB_119 hBd
  simp only [List.map_cons, List.map_nil]
  dsimp only [List.filterMap, List.getElem?_cons_zero, List.getElem?_cons_succ]
  have hS : True := trivial
  refine dY _ hS (yMove _ (.pointer (some ⟨gz, 0, none⟩)) rfl rfl rfl) ?_; go_frame
  refine dY _ hS (yMove _ (.pointer (some ⟨w52.heap.size, 0, none⟩)) rfl rfl rfl) ?_; go_frame
  refine dLoud ?_
  refine kCall1 23 _ _ _ rfl rfl (by kernel_rfl) rfl ?_
  refine (ho2 _ _ _ hZ_121).mono ?_
  rintro e u1 ⟨v110, rfl, hO, hZ3, hX⟩
  clear hS
  have hva := hO.vals
  clear hO
  have hQ_123 := hX.rd hZ_121 hQ_120 (Ne.symm hZQ)
  have hB_124 := hB_122.trans (hX.below hgeZ hB_122.size)
  clear hQ_120 hB_122 hZ_121 hX
  have hS : (IsVals u1 v110 (OL.map VB)) := hva
  refine ⟨_, rfl, mixOn ⟨(fun w => (IsVals w v110 (OL.map VB))), (fun _ h => trivial), hS, ?_⟩⟩
  go_frame
  refine dLoud ?_
  refine kCall1 28 _ _ _ rfl rfl (by kernel_rfl) rfl ?_
  refine (hy2 _ _ _ hQ_123).mono ?_
  rintro e u2 ⟨v112, rfl, hO, hQ3, hX⟩
  clear hS
  have hvb := hO.vals
  clear hO
  have hZ_125 := hX.rd hQ_123 hZ3 hZQ
  have hva_126 := hX.vals hQ_123 hva
  have hB_127 := hB_124.trans (hX.below hgeQ hB_124.size)
  clear hZ3 hva hB_124 hQ_123 hX
  have hS : (IsVals u2 v110 (OL.map VB)) ∧ (IsVals u2 v112 (OL.map VB)) := ⟨hva_126, hvb⟩
  refine ⟨_, rfl, mixOn ⟨(fun w => (IsVals w v110 (OL.map VB)) ∧ (IsVals w v112 (OL.map VB))), (fun _ h => h.1), hS, ?_⟩⟩
  go_frame
  refine dLoud ?_
  refine kCall2 27 _ _ _ _ _ rfl rfl (by kernel_rfl) rfl rfl ?_
  refine (zSame_any (n := ON) (m := ON) _ hva_126 hvb).mono ?_
  rintro e u5 ⟨rfl, hBB⟩
  clear hS
  rw [sameO_refl]
  have hQ_128 := hQ3.below hBB
  have hZ_129 := hZ_125.below hBB
  have hva_130 := hva_126.below hBB
  have hvb_131 := hvb.below hBB
  have hB_132 := hB_127.trans (hBB.mono hB_127.size)
  clear hQ3 hZ_125 hva_126 hvb hB_127 hBB
  obtain ⟨vS2, hRS2, hVS2, hLS2⟩ := id hQ_128
  rw [hE2] at hRS2
  clear hLS2
  have hS : (IsVals u5 v110 (OL.map VB)) ∧ (IsVals u5 v112 (OL.map VB)) ∧ (Row u5 w52.heap.size 51 #[vS2, .int .i64 (E2 : Int)]) ∧ (IsVals u5 vS2 (T2.rest.map VB)) := ⟨hva_130, hvb_131, hRS2, hVS2⟩
  refine ⟨_, rfl, mixOn ⟨(fun w => (IsVals w v110 (OL.map VB)) ∧ (IsVals w v112 (OL.map VB)) ∧ (Row w w52.heap.size 51 #[vS2, .int .i64 (E2 : Int)]) ∧ (IsVals w vS2 (T2.rest.map VB))), (fun _ h => ⟨h.1, h.2.1⟩), hS, ?_⟩⟩
  go_frame
  refine dY _ hS (yMove _ (.bool true) rfl rfl rfl) ?_; go_frame
  refine dY _ hS (yMove _ (.pointer (some ⟨gz, 0, none⟩)) rfl rfl rfl) ?_; go_frame
  refine dY _ hS (yMove _ (.pointer (some ⟨w52.heap.size, 0, none⟩)) rfl rfl rfl) ?_; go_frame
  refine dY _ hS (yNil _ ⟨w52.heap.size, 0, none⟩ rfl rfl rfl) ?_; go_frame
  refine dY _ hS (yFld scanF1 _ _ 0 1 rfl rfl rfl rfl) ?_; go_frame
  refine dY _ hS (yLoad1 _ _ _ _ 1 _ (.int .i64 (E2 : Int)) _ rfl rfl rfl (fun _ h => h.2.2.1) Try.underlying3 rfl rfl) ?_; go_frame
  refine dLoud ?_
  refine kCall1 25 _ _ _ rfl rfl (by kernel_rfl) rfl ?_
  refine (rdErr_any (n := E2) _ hZ_129 hE2).mono ?_
  rintro e u3 ⟨rfl, rfl⟩
  refine ⟨_, rfl, mixOn ⟨_, (fun _ h => h), hS, ?_⟩⟩
  go_frame
  refine dY _ hS (yEqlIC _ _ _ _ .i64 (E2 : Int) (E2 : Int) true rfl rfl rfl rfl (by simp)) ?_; go_frame
  refine dY _ hS (yPick _ _ _ true (.bool true) rfl rfl rfl rfl) ?_; go_frame
  refine dY _ hS (yMove _ (.bool true) rfl rfl rfl) ?_; go_frame
  refine dY _ hS (yMove _ (.pointer (some ⟨gz, 0, none⟩)) rfl rfl rfl) ?_; go_frame
  refine dY _ hS (yMove _ (.pointer (some ⟨w52.heap.size, 0, none⟩)) rfl rfl rfl) ?_; go_frame
  refine dY _ hS (yNil _ ⟨w52.heap.size, 0, none⟩ rfl rfl rfl) ?_; go_frame
  refine dY _ hS (yFld scanF0 _ _ 0 0 rfl rfl rfl rfl) ?_; go_frame
  refine dY _ hS (yLoad1 _ _ _ _ 0 _ (vS2) _ rfl rfl rfl (fun _ h => h.2.2.1) Try.underlying25 rfl rfl) ?_; go_frame
  refine dY _ hS (yLen _ _ _ vS2 _ F2 rfl rfl rfl (fun _ h => h.2.2.2) (by rw [List.length_map, hF2]) Try.underlying25) ?_; go_frame
  refine dLoud ?_
  refine kCall1 24 _ _ _ rfl rfl (by kernel_rfl) rfl ?_
  refine (rdLeft_any (n := F2) _ hZ_129 hF2).mono ?_
  rintro e u4 ⟨rfl, rfl⟩
  refine ⟨_, rfl, mixOn ⟨_, (fun _ h => h), hS, ?_⟩⟩
  go_frame
  refine dY _ hS (yEqlIC _ _ _ _ .i64 (F2 : Int) (F2 : Int) true rfl rfl rfl rfl (by simp)) ?_; go_frame
  refine dY _ hS (yPick _ _ _ true (.bool true) rfl rfl rfl rfl) ?_; go_frame
  refine dY _ hS (yAssign _ (.bool true) rfl rfl rfl) ?_; go_frame
  refine dDone ?_
  clear hS
  go_wp2
  go_ret
  exact ⟨rfl, hB_132⟩
set_option maxRecDepth 100000 in
set_option maxHeartbeats 8000000 in
theorem coinRefs_long {l L b : List UInt8} {n : Nat} {m : Int} {lv bv : Value} (hl : l.length = 32) (hn : n < 4294967296) (hm1 : -9223372036854775808 ≤ m) (hm2 : m < 9223372036854775808) (W0 : World) (hlv : IsVals W0 lv (L.map VB)) (hbv : IsVals W0 bv (b.map VB)) (h1 : L.length ≤ 2500) (h2 : b.length ≤ 2500) (h3 : 2000 < L.length) : Calls Try.prog 5 #[.agg (refC l n), .agg (outC m lv), bv] W0 (AlivePost W0) := by
  obtain ⟨i, hi, hz, hs1, hby⟩ := b8Info
  obtain ⟨q, hq⟩ : ∃ q, L.length = q := ⟨_, rfl⟩
  obtain ⟨k, hk⟩ : ∃ k, b.length = k := ⟨_, rfl⟩
  have d1 : decide ((q : Int) > 2500) = false := by simp; omega
  have d2 : decide ((k : Int) > 2500) = false := by simp; omega
  have hXl := ref_len hl n
  have hYl := outL_le (n := m) (l := L) (m := 2500) (by omega)
  have hbv0 := hbv
  have hr1 : ∀ (Lm : Nat) (w : World) (g : Nat), Rd Lm 73 w g ⟨refL l n ++ outL m L, 0⟩ → Lm ≤ w.heap.size → Calls Try.prog 22 #[.pointer (some ⟨g, 0, none⟩)] w (RefPost Lm 73 g w ((l, n), ⟨outL m L, 0⟩)) := fun Lm w g h hL => by
    rw [← ref_back hl hn (outL m L)]
    exact coRefRead_any w h (by dsimp only; rw [List.length_append]; omega) hL
  have ho1 : L.length ≤ 2000 → ∀ (Lm : Nat) (w : World) (g : Nat), Rd Lm 73 w g ⟨outL m L, 0⟩ → Calls Try.prog 23 #[.pointer (some ⟨g, 0, none⟩)] w (OutPost Lm 73 g w ((m, L), ⟨[], 0⟩)) := fun h0 Lm w g h => by
    have e := out_back hm1 hm2 h0 []
    rw [List.append_nil] at e
    rw [← e]
    exact coOutRead_any w h (by dsimp only; omega)
  obtain ⟨p1, hp1⟩ : ∃ p, refS ⟨b, 0⟩ = p := ⟨_, rfl⟩
  have hr2 : ∀ (Lm : Nat) (w : World) (g : Nat), Rd Lm 73 w g ⟨b, 0⟩ → Lm ≤ w.heap.size → Calls Try.prog 22 #[.pointer (some ⟨g, 0, none⟩)] w (RefPost Lm 73 g w p1) := fun Lm w g h hL => by rw [← hp1]; exact coRefRead_any w h (by dsimp only; omega) hL
  have hz2 : ∀ (Lm : Nat) (w : World) (g : Nat), Rd Lm 51 w g ⟨b, 0⟩ → Lm ≤ w.heap.size → Calls Try.prog 26 #[.pointer (some ⟨g, 0, none⟩)] w (RefPost Lm 51 g w p1) := fun Lm w g h hL => by rw [← hp1]; exact zRefRead_any w h (by dsimp only; omega) hL
  have hrl : p1.1.1.length = 32 := by rw [← hp1]; exact refS_len _
  have hT1 : p1.2.rest.length ≤ 2500 := by rw [← hp1]; exact Nat.le_trans (ref_restLe _) (by dsimp only; omega)
  clear hp1
  obtain ⟨⟨rl, rn⟩, T1⟩ := p1
  dsimp only at hrl hT1
  obtain ⟨p2, hp2⟩ : ∃ p, outS T1 = p := ⟨_, rfl⟩
  have ho2 : ∀ (Lm : Nat) (w : World) (g : Nat), Rd Lm 73 w g T1 → Calls Try.prog 23 #[.pointer (some ⟨g, 0, none⟩)] w (OutPost Lm 73 g w p2) := fun Lm w g h => by rw [← hp2]; exact coOutRead_any w h (by omega)
  have hy2 : ∀ (Lm : Nat) (w : World) (g : Nat), Rd Lm 51 w g T1 → Calls Try.prog 28 #[.pointer (some ⟨g, 0, none⟩)] w (OutPost Lm 51 g w p2) := fun Lm w g h => by rw [← hp2]; exact zOutRead_any w h (by omega)
  clear hp2
  obtain ⟨⟨ON, OL⟩, T2⟩ := p2
  obtain ⟨E1, hE1⟩ : ∃ E, T1.err = E := ⟨_, rfl⟩
  obtain ⟨F1, hF1⟩ : ∃ F, T1.rest.length = F := ⟨_, rfl⟩
  obtain ⟨E2, hE2⟩ : ∃ E, T2.err = E := ⟨_, rfl⟩
  obtain ⟨F2, hF2⟩ : ∃ F, T2.rest.length = F := ⟨_, rfl⟩
  have d3 : decide ((q : Int) ≤ 2000) = false := by simp; omega
  clear ho1
  go_enter Try.func5, Try.ntmps5
  go_wp2_with (first
    | ((with_reducible change wpList _ _ _ (Oper.mk (some 3) _ _ _ _ _ :: _) _ _); refine kBoxL _ _ _ rfl rfl rfl ?_; intro w1 hRA hz1 hB0; clear hz1; have hlv_1 := hlv.below hB0; have hbv_2 := hbv.below hB0; clear hlv hbv; go_frame)
    | ((with_reducible change wpList _ _ _ (Oper.mk (some 4) _ _ _ _ _ :: _) _ _); refine kBoxL _ _ _ rfl rfl rfl ?_; intro w2 hRB hz2 hBB; clear hz2; have hAB := Nat.ne_of_lt hRA.lt; have hlv_3 := hlv_1.below hBB; have hbv_4 := hbv_2.below hBB; have hRA_5 := hRA.below hBB hRA.lt; have hB_6 := hB0.trans (hBB.mono hB0.size); clear hlv_1 hbv_2 hRA hB0 hBB; go_frame)
    | (go_at_call 10; refine (coinAlive_any _).mono ?_; rintro e w3 ⟨rfl, hBB⟩; have hlv_7 := hlv_3.below hBB; have hbv_8 := hbv_4.below hBB; have hRA_9 := hRA_5.below hBB hRA_5.lt; have hRB_10 := hRB.below hBB hRB.lt; have hB_11 := hB_6.trans (hBB.mono hB_6.size); clear hlv_3 hbv_4 hRA_5 hRB hB_6 hBB; go_frame)
    | ((with_reducible change wpList _ _ _ (Oper.mk (some 14) _ _ _ _ _ :: _) _ _); refine kFld outCF1 _ _ 0 1 rfl rfl rfl rfl ?_; go_frame)
    | ((with_reducible change wpList _ _ _ (Oper.mk (some 15) _ _ _ _ _ :: _) _ _); refine kLd Try.underlying25 rfl _ _ 1 _ lv hRB_10 rfl rfl rfl rfl ?_; go_frame)
    | ((with_reducible change wpList _ _ _ (Oper.mk (some 16) _ _ _ _ _ :: _) _ _); refine kLenN _ _ _ lv _ q rfl rfl rfl hlv_7 (by rw [List.length_map, hq]) Try.underlying25 ?_; go_frame)
    | ((with_reducible change wpList _ _ _ (Oper.mk (some 17) _ _ _ _ _ :: _) _ _); refine kGtrI _ _ _ _ .i64 (q : Int) 2500 false rfl rfl rfl rfl d1 ?_; go_frame)
    | ((with_reducible change wpList _ _ _ (Oper.mk (some 20) _ _ _ _ _ :: _) _ _); refine kLenN _ _ _ bv _ k rfl rfl rfl hbv_8 (by rw [List.length_map, hk]) Try.underlying25 ?_; go_frame)
    | ((with_reducible change wpList _ _ _ (Oper.mk (some 21) _ _ _ _ _ :: _) _ _); refine kGtrI _ _ _ _ .i64 (k : Int) 2500 false rfl rfl rfl rfl d2 ?_; go_frame))
  refine region_mixD [(0, true), (2, true), (1, false), (3, false), (4, true), (5, true)] (fun w => (IsVals w lv (L.map VB)) ∧ (Row w W0.heap.size 43 (refC l n)) ∧ (Row w w1.heap.size 27 (outC m lv))) (by kernel_rfl) (by kernel_rfl) rfl ?_
  intro p0 hBd hsd
  clear hsd
  have hlv_12 := hlv_7.below hBd
  have hbv_13 := hbv_8.below hBd
  have hRA_14 := hRA_9.below hBd hRA_9.lt
  have hRB_15 := hRB_10.below hBd hRB_10.lt
  have hB_16 := hB_11.trans (hBd.mono hB_11.size)
  clear hlv_7 hbv_8 hRA_9 hRB_10 hB_11 hBd
  simp only [List.map_cons, List.map_nil]
  dsimp only [List.filterMap, List.getElem?_cons_zero, List.getElem?_cons_succ]
  have hS : (IsVals p0 lv (L.map VB)) ∧ (Row p0 W0.heap.size 43 (refC l n)) ∧ (Row p0 w1.heap.size 27 (outC m lv)) := ⟨hlv_12, hRA_14, hRB_15⟩
  refine dY _ hS (yLoadRowC Try.underlying43 rfl _ W0.heap.size (refC l n) (info_RefS _ _) (fun _ h => h.2.1) rfl rfl rfl) ?_; go_frame
  refine dY _ hS (yLoadRowC Try.underlying27 rfl _ w1.heap.size (outC m lv) info_OutC (fun _ h => h.2.2) rfl rfl rfl) ?_; go_frame
  refine dLoud ?_
  refine kCall1 16 _ _ _ rfl rfl (by kernel_rfl) rfl ?_
  refine (coRefBytes_any hl hn _).mono ?_
  rintro e p1 ⟨vx, rfl, hO, hBB⟩
  clear hS
  have hvx := hO.vals
  clear hO
  have hlv_17 := hlv_12.below hBB
  have hbv_18 := hbv_13.below hBB
  have hRA_19 := hRA_14.below hBB hRA_14.lt
  have hRB_20 := hRB_15.below hBB hRB_15.lt
  have hB_21 := hB_16.trans (hBB.mono hB_16.size)
  clear hlv_12 hbv_13 hRA_14 hRB_15 hB_16 hBB
  have hS : (IsVals p1 lv (L.map VB)) ∧ (Row p1 W0.heap.size 43 (refC l n)) ∧ (Row p1 w1.heap.size 27 (outC m lv)) ∧ (IsVals p1 vx ((refL l n).map VB)) := ⟨hlv_17, hRA_19, hRB_20, hvx⟩
  refine ⟨_, rfl, mixOn ⟨(fun w => (IsVals w lv (L.map VB)) ∧ (Row w W0.heap.size 43 (refC l n)) ∧ (Row w w1.heap.size 27 (outC m lv)) ∧ (IsVals w vx ((refL l n).map VB))), (fun _ h => ⟨h.1, h.2.1, h.2.2.1⟩), hS, ?_⟩⟩
  go_frame
  refine dLoud ?_
  refine kCall1 17 _ _ _ rfl rfl (by kernel_rfl) rfl ?_
  refine (coOutBytes_any _ hlv_17 (by omega)).mono ?_
  rintro e p2 ⟨vy, rfl, hO, hBB⟩
  clear hS
  have hvy := hO.vals
  clear hO
  have hlv_22 := hlv_17.below hBB
  have hbv_23 := hbv_18.below hBB
  have hRA_24 := hRA_19.below hBB hRA_19.lt
  have hRB_25 := hRB_20.below hBB hRB_20.lt
  have hvx_26 := hvx.below hBB
  have hB_27 := hB_21.trans (hBB.mono hB_21.size)
  clear hlv_17 hbv_18 hRA_19 hRB_20 hvx hB_21 hBB
  have hS : (IsVals p2 lv (L.map VB)) ∧ (Row p2 W0.heap.size 43 (refC l n)) ∧ (Row p2 w1.heap.size 27 (outC m lv)) ∧ (IsVals p2 vx ((refL l n).map VB)) ∧ (IsVals p2 vy ((outL m L).map VB)) := ⟨hlv_22, hRA_24, hRB_25, hvx_26, hvy⟩
  refine ⟨_, rfl, mixOn ⟨(fun w => (IsVals w lv (L.map VB)) ∧ (Row w W0.heap.size 43 (refC l n)) ∧ (Row w w1.heap.size 27 (outC m lv)) ∧ (IsVals w vx ((refL l n).map VB)) ∧ (IsVals w vy ((outL m L).map VB))), (fun _ h => ⟨h.1, h.2.1, h.2.2.1, h.2.2.2.1⟩), hS, ?_⟩⟩
  go_frame
  refine dY _ hS (yAssign _ vx rfl rfl rfl) ?_; go_frame
  refine dY _ hS (yAssign _ vy rfl rfl rfl) ?_; go_frame
  refine dDone ?_
  clear hS
  go_wp2_with fail
  refine region_mixD [(0, true), (1, true), (2, true), (3, false), (4, true), (5, true), (6, true), (7, true), (8, true), (9, true), (10, false), (11, true), (12, true), (13, true), (14, true), (15, true), (16, true), (17, false), (18, true), (19, true)] (fun w => (IsVals w lv (L.map VB)) ∧ (Row w W0.heap.size 43 (refC l n)) ∧ (Row w w1.heap.size 27 (outC m lv)) ∧ (IsVals w vx ((refL l n).map VB)) ∧ (IsVals w vy ((outL m L).map VB))) (by kernel_rfl) (by kernel_rfl) rfl ?_
  intro q0 hBd hsd
  clear hsd
  have hlv_28 := hlv_22.below hBd
  have hbv_29 := hbv_23.below hBd
  have hRA_30 := hRA_24.below hBd hRA_24.lt
  have hRB_31 := hRB_25.below hBd hRB_25.lt
  have hvx_32 := hvx_26.below hBd
  have hvy_33 := hvy.below hBd
  have hB_34 := hB_27.trans (hBd.mono hB_27.size)
  clear hlv_22 hbv_23 hRA_24 hRB_25 hvx_26 hvy hB_27 hBd
  simp only [List.map_cons, List.map_nil]
  dsimp only [List.filterMap, List.getElem?_cons_zero, List.getElem?_cons_succ]
  have hS : (IsVals q0 lv (L.map VB)) ∧ (Row q0 W0.heap.size 43 (refC l n)) ∧ (Row q0 w1.heap.size 27 (outC m lv)) ∧ (IsVals q0 vx ((refL l n).map VB)) ∧ (IsVals q0 vy ((outL m L).map VB)) := ⟨hlv_28, hRA_30, hRB_31, hvx_32, hvy_33⟩
  refine dY _ hS (yMove _ (vx) rfl rfl rfl) ?_; go_frame
  refine dY _ hS (yStr _ _ _ _ vx (refL l n) rfl rfl rfl (fun _ h => h.2.2.2.1) Try.underlying25 Try.underlying5 Try.underlying9) ?_; go_frame
  refine dY _ hS (yLoadRowC Try.underlying43 rfl _ W0.heap.size (refC l n) (info_RefS _ _) (fun _ h => h.2.1) rfl rfl rfl) ?_; go_frame
  refine dLoud ?_
  refine kCall1 18 _ _ _ rfl rfl (by kernel_rfl) rfl ?_
  refine (zRefBytes_any hl hn _).mono ?_
  rintro e q1 ⟨v30, rfl, hO, hBB⟩
  clear hS
  have hv30 := hO.vals
  clear hO
  have hlv_35 := hlv_28.below hBB
  have hbv_36 := hbv_29.below hBB
  have hRA_37 := hRA_30.below hBB hRA_30.lt
  have hRB_38 := hRB_31.below hBB hRB_31.lt
  have hvx_39 := hvx_32.below hBB
  have hvy_40 := hvy_33.below hBB
  have hB_41 := hB_34.trans (hBB.mono hB_34.size)
  clear hlv_28 hbv_29 hRA_30 hRB_31 hvx_32 hvy_33 hB_34 hBB
  have hS : (IsVals q1 lv (L.map VB)) ∧ (Row q1 W0.heap.size 43 (refC l n)) ∧ (Row q1 w1.heap.size 27 (outC m lv)) ∧ (IsVals q1 vx ((refL l n).map VB)) ∧ (IsVals q1 vy ((outL m L).map VB)) ∧ (IsVals q1 v30 ((refL l n).map VB)) := ⟨hlv_35, hRA_37, hRB_38, hvx_39, hvy_40, hv30⟩
  refine ⟨_, rfl, mixOn ⟨(fun w => (IsVals w lv (L.map VB)) ∧ (Row w W0.heap.size 43 (refC l n)) ∧ (Row w w1.heap.size 27 (outC m lv)) ∧ (IsVals w vx ((refL l n).map VB)) ∧ (IsVals w vy ((outL m L).map VB)) ∧ (IsVals w v30 ((refL l n).map VB))), (fun _ h => ⟨h.1, h.2.1, h.2.2.1, h.2.2.2.1, h.2.2.2.2.1⟩), hS, ?_⟩⟩
  go_frame
  refine dY _ hS (yStr _ _ _ _ v30 (refL l n) rfl rfl rfl (fun _ h => h.2.2.2.2.2) Try.underlying25 Try.underlying5 Try.underlying9) ?_; go_frame
  refine dY _ hS (yNeqStr _ _ _ _ (refL l n) (refL l n) false rfl rfl rfl rfl (by simp)) ?_; go_frame
  refine dY _ hS (yMove _ (.bool false) rfl rfl rfl) ?_; go_frame
  refine dY _ hS (yMove _ (vy) rfl rfl rfl) ?_; go_frame
  refine dY _ hS (yStr _ _ _ _ vy (outL m L) rfl rfl rfl (fun _ h => h.2.2.2.2.1) Try.underlying25 Try.underlying5 Try.underlying9) ?_; go_frame
  refine dY _ hS (yLoadRowC Try.underlying27 rfl _ w1.heap.size (outC m lv) info_OutC (fun _ h => h.2.2.1) rfl rfl rfl) ?_; go_frame
  refine dLoud ?_
  refine kCall1 19 _ _ _ rfl rfl (by kernel_rfl) rfl ?_
  refine (zOutBytes_any _ hlv_35 (by omega)).mono ?_
  rintro e q2 ⟨v37, rfl, hO, hBB⟩
  clear hS
  have hv37 := hO.vals
  clear hO
  have hlv_42 := hlv_35.below hBB
  have hbv_43 := hbv_36.below hBB
  have hRA_44 := hRA_37.below hBB hRA_37.lt
  have hRB_45 := hRB_38.below hBB hRB_38.lt
  have hvx_46 := hvx_39.below hBB
  have hvy_47 := hvy_40.below hBB
  have hv30_48 := hv30.below hBB
  have hB_49 := hB_41.trans (hBB.mono hB_41.size)
  clear hlv_35 hbv_36 hRA_37 hRB_38 hvx_39 hvy_40 hv30 hB_41 hBB
  have hS : (IsVals q2 lv (L.map VB)) ∧ (Row q2 W0.heap.size 43 (refC l n)) ∧ (Row q2 w1.heap.size 27 (outC m lv)) ∧ (IsVals q2 vx ((refL l n).map VB)) ∧ (IsVals q2 vy ((outL m L).map VB)) ∧ (IsVals q2 v30 ((refL l n).map VB)) ∧ (IsVals q2 v37 ((outL m L).map VB)) := ⟨hlv_42, hRA_44, hRB_45, hvx_46, hvy_47, hv30_48, hv37⟩
  refine ⟨_, rfl, mixOn ⟨(fun w => (IsVals w lv (L.map VB)) ∧ (Row w W0.heap.size 43 (refC l n)) ∧ (Row w w1.heap.size 27 (outC m lv)) ∧ (IsVals w vx ((refL l n).map VB)) ∧ (IsVals w vy ((outL m L).map VB)) ∧ (IsVals w v30 ((refL l n).map VB)) ∧ (IsVals w v37 ((outL m L).map VB))), (fun _ h => ⟨h.1, h.2.1, h.2.2.1, h.2.2.2.1, h.2.2.2.2.1, h.2.2.2.2.2.1⟩), hS, ?_⟩⟩
  go_frame
  refine dY _ hS (yStr _ _ _ _ v37 (outL m L) rfl rfl rfl (fun _ h => h.2.2.2.2.2.2) Try.underlying25 Try.underlying5 Try.underlying9) ?_; go_frame
  refine dY _ hS (yNeqStr _ _ _ _ (outL m L) (outL m L) false rfl rfl rfl rfl (by simp)) ?_; go_frame
  refine dY _ hS (yPick _ _ _ false (.bool false) rfl rfl rfl rfl) ?_; go_frame
  refine dY _ hS (yMove _ (.bool false) rfl rfl rfl) ?_; go_frame
  refine dY _ hS (yLoadRowC Try.underlying27 rfl _ w1.heap.size (outC m lv) info_OutC (fun _ h => h.2.2.1) rfl rfl rfl) ?_; go_frame
  refine dY _ hS (yLoadRowC Try.underlying27 rfl _ w1.heap.size (outC m lv) info_OutC (fun _ h => h.2.2.1) rfl rfl rfl) ?_; go_frame
  refine dLoud ?_
  refine kCall2 20 _ _ _ _ _ rfl rfl (by kernel_rfl) rfl rfl ?_
  refine (coSame_any (n := m) (m := m) _ hlv_42 hlv_42).mono ?_
  rintro e q3 ⟨rfl, hBB⟩
  clear hS
  rw [sameO_refl]
  have hlv_50 := hlv_42.below hBB
  have hbv_51 := hbv_43.below hBB
  have hRA_52 := hRA_44.below hBB hRA_44.lt
  have hRB_53 := hRB_45.below hBB hRB_45.lt
  have hvx_54 := hvx_46.below hBB
  have hvy_55 := hvy_47.below hBB
  have hv30_56 := hv30_48.below hBB
  have hv37_57 := hv37.below hBB
  have hB_58 := hB_49.trans (hBB.mono hB_49.size)
  clear hlv_42 hbv_43 hRA_44 hRB_45 hvx_46 hvy_47 hv30_48 hv37 hB_49 hBB
  have hS : (IsVals q3 lv (L.map VB)) ∧ (Row q3 W0.heap.size 43 (refC l n)) ∧ (Row q3 w1.heap.size 27 (outC m lv)) ∧ (IsVals q3 vx ((refL l n).map VB)) ∧ (IsVals q3 vy ((outL m L).map VB)) ∧ (IsVals q3 v30 ((refL l n).map VB)) ∧ (IsVals q3 v37 ((outL m L).map VB)) := ⟨hlv_50, hRA_52, hRB_53, hvx_54, hvy_55, hv30_56, hv37_57⟩
  refine ⟨_, rfl, mixOn ⟨(fun w => (IsVals w lv (L.map VB)) ∧ (Row w W0.heap.size 43 (refC l n)) ∧ (Row w w1.heap.size 27 (outC m lv)) ∧ (IsVals w vx ((refL l n).map VB)) ∧ (IsVals w vy ((outL m L).map VB)) ∧ (IsVals w v30 ((refL l n).map VB)) ∧ (IsVals w v37 ((outL m L).map VB))), (fun _ h => ⟨h.1, h.2.1, h.2.2.1, h.2.2.2.1, h.2.2.2.2.1, h.2.2.2.2.2.1, h.2.2.2.2.2.2⟩), hS, ?_⟩⟩
  go_frame
  refine dY _ hS (yNotC _ _ true rfl rfl rfl) ?_; go_frame
  refine dY _ hS (yPick _ _ _ false (.bool false) rfl rfl rfl rfl) ?_; go_frame
  refine dDone ?_
  clear hS
  go_wp2_with (first
    | ((with_reducible change wpList _ _ _ (Oper.mk (some 47) _ _ _ _ _ :: _) _ _); refine kBuildSlice0 _ _ rfl rfl Try.underlying25 i hi ?_; intro wb hRr hzz hC1; clear hzz; have hE := (own_empty (Nat.le_refl _) hRr : OwnB wb q3.heap.size _ []); clear hRr; have hx1 := hvx_54.below hC1; go_frame)
    | ((with_reducible change wpList _ _ _ (Oper.mk (some 49) _ _ _ _ _ :: _) _ _); refine kAppB _ _ rfl rfl q3.heap.size _ _ [] (refL l n) hE hx1 rfl rfl (by rw [hXl]; simp) hC1.size ?_; intro v49 w49 hE2 hC2; rw [List.nil_append] at hE2; have hC3 := hC1.trans hC2; have hy3 := hvy_55.below hC3; clear hE hx1 hC1 hC2; go_frame)
    | ((with_reducible change wpList _ _ _ (Oper.mk (some 51) _ _ _ _ _ :: _) _ _); refine kAppB _ _ rfl rfl q3.heap.size _ _ (refL l n) (outL m L) hE2 hy3 rfl rfl (by omega) hC3.size ?_; intro v51 w51 hE4 hC4; have hCC := hC3.trans hC4; have hs := hE4.vals; clear hE2 hy3 hC3 hC4 hE4; have hlv_59 := hlv_50.below hCC; have hbv_60 := hbv_51.below hCC; have hRA_61 := hRA_52.below hCC hRA_52.lt; have hRB_62 := hRB_53.below hCC hRB_53.lt; have hB_63 := hB_58.trans (hCC.mono hB_58.size); clear hlv_50 hbv_51 hRA_52 hRB_53 hB_58 hCC; go_frame)
    | (go_at_call 21; refine (pcNew_any _ hs (by rw [List.length_append]; omega)).mono ?_; rintro e w52 ⟨gp, rfl, hgp, hP, hBB⟩; have hnA : W0.heap.size ≠ gp := (by have := hRA_61.lt; omega); have hnB : w1.heap.size ≠ gp := (by have := hRB_62.lt; omega); have hgeP : W0.heap.size ≤ gp := (by have := hB_63.size; omega); clear hgp hs; have hLP := Nat.le_refl w52.heap.size; have hlv_64 := hlv_59.below hBB; have hbv_65 := hbv_60.below hBB; have hRA_66 := hRA_61.below hBB hRA_61.lt; have hRB_67 := hRB_62.below hBB hRB_62.lt; have hB_68 := hB_63.trans (hBB.mono hB_63.size); clear hlv_59 hbv_60 hRA_61 hRB_62 hB_63 hBB; go_frame)
    | ((with_reducible change wpList _ _ _ (Oper.mk (some 54) _ _ _ _ _ :: _) _ _); refine kBuildScanC _ bv hbv_65 rfl rfl rfl ?_; go_frame)
    | ((with_reducible change wpList _ _ _ (Oper.mk (some 55) _ _ _ _ _ :: _) _ _); refine kBoxL _ _ _ rfl rfl rfl ?_; intro w55 hRS hzS hBB; clear hzS; have hmA : W0.heap.size ≠ w52.heap.size := (by have := hRA_66.lt; omega); have hmB : w1.heap.size ≠ w52.heap.size := (by have := hRB_67.lt; omega); have hPQ : gp ≠ w52.heap.size := (by have := hP.lt; omega); have hgeQ := hB_68.size; have hb0 := hbv_65; have hLP_69 := Nat.le_trans hLP (hBB).size; clear hLP; have hlv_70 := hlv_64.below hBB; have hbv_71 := hbv_65.below hBB; have hRA_72 := hRA_66.below hBB hRA_66.lt; have hRB_73 := hRB_67.below hBB hRB_67.lt; have hP_74 := hP.below hBB; have hB_75 := hB_68.trans (hBB.mono hB_68.size); clear hlv_64 hbv_65 hRA_66 hRB_67 hP hB_68 hBB; have hQ : Rd W0.heap.size 51 w55 w52.heap.size ⟨b, 0⟩ := ⟨bv, hRS, hbv_71, limR_vals hbv0⟩; clear hRS hb0; go_frame))
  refine region_mixD [(0, true), (2, true), (1, false), (3, true), (4, true), (5, true), (6, true), (7, true), (8, true), (9, true), (10, true), (11, true), (12, true), (13, true), (14, true), (15, true), (16, true), (17, true), (18, true), (19, true), (20, true), (21, true), (22, true), (23, true), (24, true), (25, true), (26, true)] (fun w => (IsVals w lv (L.map VB)) ∧ (Row w W0.heap.size 43 (refC l n)) ∧ (Row w w1.heap.size 27 (outC m lv))) (by kernel_rfl) (by kernel_rfl) rfl ?_
  intro r0 hBd hsd
  clear hsd
  have hLP_76 := Nat.le_trans hLP_69 (hBd).size
  clear hLP_69
  have hlv_77 := hlv_70.below hBd
  have hbv_78 := hbv_71.below hBd
  have hRA_79 := hRA_72.below hBd hRA_72.lt
  have hRB_80 := hRB_73.below hBd hRB_73.lt
  have hP_81 := hP_74.below hBd
  have hQ_82 := hQ.below hBd
  have hB_83 := hB_75.trans (hBd.mono hB_75.size)
  clear hlv_70 hbv_71 hRA_72 hRB_73 hP_74 hQ hB_75 hBd
  simp only [List.map_cons, List.map_nil]
  dsimp only [List.filterMap, List.getElem?_cons_zero, List.getElem?_cons_succ]
  have hS : (IsVals r0 lv (L.map VB)) ∧ (Row r0 W0.heap.size 43 (refC l n)) ∧ (Row r0 w1.heap.size 27 (outC m lv)) := ⟨hlv_77, hRA_79, hRB_80⟩
  refine dY _ hS (yMove _ (.pointer (some ⟨gp, 0, none⟩)) rfl rfl rfl) ?_; go_frame
  refine dY _ hS (yLoadRowC Try.underlying43 rfl _ W0.heap.size (refC l n) (info_RefS _ _) (fun _ h => h.2.1) rfl rfl rfl) ?_; go_frame
  refine dLoud ?_
  refine kCall1 22 _ _ _ rfl rfl (by kernel_rfl) rfl ?_
  refine (hr1 _ _ _ hP_81 hLP_76).mono ?_
  rintro e r1 ⟨rfl, hP2, hX⟩
  clear hS
  have hLP_84 := Nat.le_trans hLP_76 hX.size
  clear hLP_76
  have hlv_85 := hX.vals hP_81 hlv_77
  have hbv_86 := hX.vals hP_81 hbv_78
  have hRA_87 := hX.row hRA_79 hnA
  have hRB_88 := hX.row hRB_80 hnB
  have hQ_89 := hX.rd hP_81 hQ_82 (Ne.symm hPQ)
  have hB_90 := hB_83.trans (hX.below hgeP hB_83.size)
  clear hlv_77 hbv_78 hRA_79 hRB_80 hQ_82 hB_83 hP_81 hX
  have hS : (IsVals r1 lv (L.map VB)) ∧ (Row r1 W0.heap.size 43 (refC l n)) ∧ (Row r1 w1.heap.size 27 (outC m lv)) := ⟨hlv_85, hRA_87, hRB_88⟩
  refine ⟨_, rfl, mixOn ⟨(fun w => (IsVals w lv (L.map VB)) ∧ (Row w W0.heap.size 43 (refC l n)) ∧ (Row w w1.heap.size 27 (outC m lv))), (fun _ h => ⟨h.1, h.2.1, h.2.2⟩), hS, ?_⟩⟩
  go_frame
  refine dY _ hS (yNeqSt _ _ _ true eqGuard_RefC (fun w => run_sameRefC hl n w) rfl rfl rfl rfl) ?_; go_frame
  refine dY _ hS (yMove _ (.bool false) rfl rfl rfl) ?_; go_frame
  refine dY _ hS (yFld outCF1 _ _ 0 1 rfl rfl rfl rfl) ?_; go_frame
  refine dY _ hS (yLoad1 _ _ _ _ 1 _ (lv) _ rfl rfl rfl (fun _ h => h.2.2) Try.underlying25 rfl rfl) ?_; go_frame
  refine dY _ hS (yLen _ _ _ lv _ q rfl rfl rfl (fun _ h => h.1) (by rw [List.length_map, hq]) Try.underlying25) ?_; go_frame
  refine dY _ hS (yLeqI _ _ _ _ .i64 (q : Int) 2000 false rfl rfl rfl rfl d3) ?_; go_frame
  refine dY _ hS (yMove _ (.bool false) rfl rfl rfl) ?_; go_frame
  refine dY _ hS (ySkip rfl) ?_; go_frame
  refine dY _ hS (ySkip rfl) ?_; go_frame
  refine dY _ hS (ySkip rfl) ?_; go_frame
  refine dY _ hS (ySkip rfl) ?_; go_frame
  refine dY _ hS (ySkip rfl) ?_; go_frame
  refine dY _ hS (ySkip rfl) ?_; go_frame
  refine dY _ hS (ySkip rfl) ?_; go_frame
  refine dY _ hS (ySkip rfl) ?_; go_frame
  refine dY _ hS (ySkip rfl) ?_; go_frame
  refine dY _ hS (ySkip rfl) ?_; go_frame
  refine dY _ hS (ySkip rfl) ?_; go_frame
  refine dY _ hS (ySkip rfl) ?_; go_frame
  refine dY _ hS (ySkip rfl) ?_; go_frame
  refine dY _ hS (ySkip rfl) ?_; go_frame
  refine dY _ hS (ySkip rfl) ?_; go_frame
  refine dY _ hS (yPick _ _ _ false (.bool false) rfl rfl rfl rfl) ?_; go_frame
  refine dY _ hS (yPick _ _ _ false (.bool false) rfl rfl rfl rfl) ?_; go_frame
  refine dDone ?_
  clear hS
  go_wp2_with (first
    | (go_at_call 21; refine (pcNew_any _ hbv_86 (by omega)).mono ?_; rintro e w84 ⟨gz, rfl, hgz, hZ, hBB⟩; have hgeZ : W0.heap.size ≤ gz := (by have := hB_90.size; omega); have hZQ : gz ≠ w52.heap.size := (by have := hQ_89.lt; omega); clear hgz; have hLZ := Nat.le_refl w84.heap.size; have hbv_91 := hbv_86.below hBB; have hQ_92 := hQ_89.below hBB; have hB_93 := hB_90.trans (hBB.mono hB_90.size); clear hbv_86 hQ_89 hB_90 hBB; go_frame))
  refine region_mixD [(0, true), (2, true), (1, false), (3, false), (4, true), (5, true), (6, true), (8, true), (9, true), (10, true), (11, true), (7, false), (12, true), (13, true), (14, true), (15, true), (17, true), (18, true), (19, true), (20, true), (21, true), (16, false), (22, true), (23, true)] (fun w => True) (by kernel_rfl) (by kernel_rfl) rfl ?_
  intro s0 hBd hsd
  clear hsd
  have hLZ_94 := Nat.le_trans hLZ (hBd).size
  clear hLZ
  have hQ_95 := hQ_92.below hBd
  have hZ_96 := hZ.below hBd
  have hB_97 := hB_93.trans (hBd.mono hB_93.size)
  clear hQ_92 hZ hB_93 hBd
  simp only [List.map_cons, List.map_nil]
  dsimp only [List.filterMap, List.getElem?_cons_zero, List.getElem?_cons_succ]
  have hS : True := trivial
  refine dY _ hS (yMove _ (.pointer (some ⟨gz, 0, none⟩)) rfl rfl rfl) ?_; go_frame
  refine dY _ hS (yMove _ (.pointer (some ⟨w52.heap.size, 0, none⟩)) rfl rfl rfl) ?_; go_frame
  refine dLoud ?_
  refine kCall1 22 _ _ _ rfl rfl (by kernel_rfl) rfl ?_
  refine (hr2 _ _ _ hZ_96 hLZ_94).mono ?_
  rintro e s1 ⟨rfl, hZ2, hX⟩
  clear hS
  have hLZ_98 := Nat.le_trans hLZ_94 hX.size
  clear hLZ_94
  have hQ_99 := hX.rd hZ_96 hQ_95 (Ne.symm hZQ)
  have hB_100 := hB_97.trans (hX.below hgeZ hB_97.size)
  clear hQ_95 hB_97 hZ_96 hX
  have hS : True := trivial
  refine ⟨_, rfl, mixOn ⟨(fun w => True), (fun _ h => trivial), hS, ?_⟩⟩
  go_frame
  refine dLoud ?_
  refine kCall1 26 _ _ _ rfl rfl (by kernel_rfl) rfl ?_
  refine (hz2 _ _ _ hQ_99 hB_100.size).mono ?_
  rintro e s2 ⟨rfl, hQ2, hX⟩
  clear hS
  have hLZ_101 := Nat.le_trans hLZ_98 hX.size
  clear hLZ_98
  have hZ_102 := hX.rd hQ_99 hZ2 hZQ
  have hB_103 := hB_100.trans (hX.below hgeQ hB_100.size)
  clear hZ2 hB_100 hQ_99 hX
  obtain ⟨vS1, hRS1, hVS1, hLS1⟩ := id hQ2
  rw [hE1] at hRS1
  clear hLS1
  have hS : (Row s2 w52.heap.size 51 #[vS1, .int .i64 (E1 : Int)]) ∧ (IsVals s2 vS1 (T1.rest.map VB)) := ⟨hRS1, hVS1⟩
  refine ⟨_, rfl, mixOn ⟨(fun w => (Row w w52.heap.size 51 #[vS1, .int .i64 (E1 : Int)]) ∧ (IsVals w vS1 (T1.rest.map VB))), (fun _ h => trivial), hS, ?_⟩⟩
  go_frame
  refine dY _ hS (yNeqSt _ _ _ true eqGuard_RefC (fun w => run_sameRefC hrl rn w) rfl rfl rfl rfl) ?_; go_frame
  refine dY _ hS (yMove _ (.bool false) rfl rfl rfl) ?_; go_frame
  refine dY _ hS (yMove _ (.pointer (some ⟨gz, 0, none⟩)) rfl rfl rfl) ?_; go_frame
  refine dY _ hS (yMove _ (.pointer (some ⟨w52.heap.size, 0, none⟩)) rfl rfl rfl) ?_; go_frame
  refine dY _ hS (yNil _ ⟨w52.heap.size, 0, none⟩ rfl rfl rfl) ?_; go_frame
  refine dY _ hS (yFld scanF1 _ _ 0 1 rfl rfl rfl rfl) ?_; go_frame
  refine dY _ hS (yLoad1 _ _ _ _ 1 _ (.int .i64 (E1 : Int)) _ rfl rfl rfl (fun _ h => h.1) Try.underlying3 rfl rfl) ?_; go_frame
  refine dLoud ?_
  refine kCall1 25 _ _ _ rfl rfl (by kernel_rfl) rfl ?_
  refine (rdErr_any (n := E1) _ hZ_102 hE1).mono ?_
  rintro e s3 ⟨rfl, rfl⟩
  refine ⟨_, rfl, mixOn ⟨_, (fun _ h => h), hS, ?_⟩⟩
  go_frame
  refine dY _ hS (yNeqI _ _ _ _ .i64 (E1 : Int) (E1 : Int) false rfl rfl rfl rfl (by simp)) ?_; go_frame
  refine dY _ hS (yPick _ _ _ false (.bool false) rfl rfl rfl rfl) ?_; go_frame
  refine dY _ hS (yMove _ (.bool false) rfl rfl rfl) ?_; go_frame
  refine dY _ hS (yMove _ (.pointer (some ⟨gz, 0, none⟩)) rfl rfl rfl) ?_; go_frame
  refine dY _ hS (yMove _ (.pointer (some ⟨w52.heap.size, 0, none⟩)) rfl rfl rfl) ?_; go_frame
  refine dY _ hS (yNil _ ⟨w52.heap.size, 0, none⟩ rfl rfl rfl) ?_; go_frame
  refine dY _ hS (yFld scanF0 _ _ 0 0 rfl rfl rfl rfl) ?_; go_frame
  refine dY _ hS (yLoad1 _ _ _ _ 0 _ (vS1) _ rfl rfl rfl (fun _ h => h.1) Try.underlying25 rfl rfl) ?_; go_frame
  refine dY _ hS (yLen _ _ _ vS1 _ F1 rfl rfl rfl (fun _ h => h.2) (by rw [List.length_map, hF1]) Try.underlying25) ?_; go_frame
  refine dLoud ?_
  refine kCall1 24 _ _ _ rfl rfl (by kernel_rfl) rfl ?_
  refine (rdLeft_any (n := F1) _ hZ_102 hF1).mono ?_
  rintro e s4 ⟨rfl, rfl⟩
  refine ⟨_, rfl, mixOn ⟨_, (fun _ h => h), hS, ?_⟩⟩
  go_frame
  refine dY _ hS (yNeqI _ _ _ _ .i64 (F1 : Int) (F1 : Int) false rfl rfl rfl rfl (by simp)) ?_; go_frame
  refine dY _ hS (yPick _ _ _ false (.bool false) rfl rfl rfl rfl) ?_; go_frame
  refine dDone ?_
  clear hS
  go_wp2_with fail
  refine region_mixD [(0, true), (2, true), (1, false), (3, false), (4, false), (5, true), (6, true), (8, true), (9, true), (10, true), (11, true), (7, false), (12, true), (13, true), (14, true), (15, true), (17, true), (18, true), (19, true), (20, true), (21, true), (16, false), (22, true), (23, true), (24, true)] (fun w => True) (by kernel_rfl) (by kernel_rfl) rfl ?_
  intro u0 hBd hsd
  clear hsd
  have hQ_104 := hQ2.below hBd
  have hZ_105 := hZ_102.below hBd
  have hB_106 := hB_103.trans (hBd.mono hB_103.size)
  clear hQ2 hZ_102 hB_103 hBd
  simp only [List.map_cons, List.map_nil]
  dsimp only [List.filterMap, List.getElem?_cons_zero, List.getElem?_cons_succ]
  have hS : True := trivial
  refine dY _ hS (yMove _ (.pointer (some ⟨gz, 0, none⟩)) rfl rfl rfl) ?_; go_frame
  refine dY _ hS (yMove _ (.pointer (some ⟨w52.heap.size, 0, none⟩)) rfl rfl rfl) ?_; go_frame
  refine dLoud ?_
  refine kCall1 23 _ _ _ rfl rfl (by kernel_rfl) rfl ?_
  refine (ho2 _ _ _ hZ_105).mono ?_
  rintro e u1 ⟨v110, rfl, hO, hZ3, hX⟩
  clear hS
  have hva := hO.vals
  clear hO
  have hQ_107 := hX.rd hZ_105 hQ_104 (Ne.symm hZQ)
  have hB_108 := hB_106.trans (hX.below hgeZ hB_106.size)
  clear hQ_104 hB_106 hZ_105 hX
  have hS : (IsVals u1 v110 (OL.map VB)) := hva
  refine ⟨_, rfl, mixOn ⟨(fun w => (IsVals w v110 (OL.map VB))), (fun _ h => trivial), hS, ?_⟩⟩
  go_frame
  refine dLoud ?_
  refine kCall1 28 _ _ _ rfl rfl (by kernel_rfl) rfl ?_
  refine (hy2 _ _ _ hQ_107).mono ?_
  rintro e u2 ⟨v112, rfl, hO, hQ3, hX⟩
  clear hS
  have hvb := hO.vals
  clear hO
  have hZ_109 := hX.rd hQ_107 hZ3 hZQ
  have hva_110 := hX.vals hQ_107 hva
  have hB_111 := hB_108.trans (hX.below hgeQ hB_108.size)
  clear hZ3 hva hB_108 hQ_107 hX
  have hS : (IsVals u2 v110 (OL.map VB)) ∧ (IsVals u2 v112 (OL.map VB)) := ⟨hva_110, hvb⟩
  refine ⟨_, rfl, mixOn ⟨(fun w => (IsVals w v110 (OL.map VB)) ∧ (IsVals w v112 (OL.map VB))), (fun _ h => h.1), hS, ?_⟩⟩
  go_frame
  refine dLoud ?_
  refine kCall2 27 _ _ _ _ _ rfl rfl (by kernel_rfl) rfl rfl ?_
  refine (zSame_any (n := ON) (m := ON) _ hva_110 hvb).mono ?_
  rintro e u5 ⟨rfl, hBB⟩
  clear hS
  rw [sameO_refl]
  have hQ_112 := hQ3.below hBB
  have hZ_113 := hZ_109.below hBB
  have hva_114 := hva_110.below hBB
  have hvb_115 := hvb.below hBB
  have hB_116 := hB_111.trans (hBB.mono hB_111.size)
  clear hQ3 hZ_109 hva_110 hvb hB_111 hBB
  obtain ⟨vS2, hRS2, hVS2, hLS2⟩ := id hQ_112
  rw [hE2] at hRS2
  clear hLS2
  have hS : (IsVals u5 v110 (OL.map VB)) ∧ (IsVals u5 v112 (OL.map VB)) ∧ (Row u5 w52.heap.size 51 #[vS2, .int .i64 (E2 : Int)]) ∧ (IsVals u5 vS2 (T2.rest.map VB)) := ⟨hva_114, hvb_115, hRS2, hVS2⟩
  refine ⟨_, rfl, mixOn ⟨(fun w => (IsVals w v110 (OL.map VB)) ∧ (IsVals w v112 (OL.map VB)) ∧ (Row w w52.heap.size 51 #[vS2, .int .i64 (E2 : Int)]) ∧ (IsVals w vS2 (T2.rest.map VB))), (fun _ h => ⟨h.1, h.2.1⟩), hS, ?_⟩⟩
  go_frame
  refine dY _ hS (yMove _ (.bool true) rfl rfl rfl) ?_; go_frame
  refine dY _ hS (yMove _ (.pointer (some ⟨gz, 0, none⟩)) rfl rfl rfl) ?_; go_frame
  refine dY _ hS (yMove _ (.pointer (some ⟨w52.heap.size, 0, none⟩)) rfl rfl rfl) ?_; go_frame
  refine dY _ hS (yNil _ ⟨w52.heap.size, 0, none⟩ rfl rfl rfl) ?_; go_frame
  refine dY _ hS (yFld scanF1 _ _ 0 1 rfl rfl rfl rfl) ?_; go_frame
  refine dY _ hS (yLoad1 _ _ _ _ 1 _ (.int .i64 (E2 : Int)) _ rfl rfl rfl (fun _ h => h.2.2.1) Try.underlying3 rfl rfl) ?_; go_frame
  refine dLoud ?_
  refine kCall1 25 _ _ _ rfl rfl (by kernel_rfl) rfl ?_
  refine (rdErr_any (n := E2) _ hZ_113 hE2).mono ?_
  rintro e u3 ⟨rfl, rfl⟩
  refine ⟨_, rfl, mixOn ⟨_, (fun _ h => h), hS, ?_⟩⟩
  go_frame
  refine dY _ hS (yEqlIC _ _ _ _ .i64 (E2 : Int) (E2 : Int) true rfl rfl rfl rfl (by simp)) ?_; go_frame
  refine dY _ hS (yPick _ _ _ true (.bool true) rfl rfl rfl rfl) ?_; go_frame
  refine dY _ hS (yMove _ (.bool true) rfl rfl rfl) ?_; go_frame
  refine dY _ hS (yMove _ (.pointer (some ⟨gz, 0, none⟩)) rfl rfl rfl) ?_; go_frame
  refine dY _ hS (yMove _ (.pointer (some ⟨w52.heap.size, 0, none⟩)) rfl rfl rfl) ?_; go_frame
  refine dY _ hS (yNil _ ⟨w52.heap.size, 0, none⟩ rfl rfl rfl) ?_; go_frame
  refine dY _ hS (yFld scanF0 _ _ 0 0 rfl rfl rfl rfl) ?_; go_frame
  refine dY _ hS (yLoad1 _ _ _ _ 0 _ (vS2) _ rfl rfl rfl (fun _ h => h.2.2.1) Try.underlying25 rfl rfl) ?_; go_frame
  refine dY _ hS (yLen _ _ _ vS2 _ F2 rfl rfl rfl (fun _ h => h.2.2.2) (by rw [List.length_map, hF2]) Try.underlying25) ?_; go_frame
  refine dLoud ?_
  refine kCall1 24 _ _ _ rfl rfl (by kernel_rfl) rfl ?_
  refine (rdLeft_any (n := F2) _ hZ_113 hF2).mono ?_
  rintro e u4 ⟨rfl, rfl⟩
  refine ⟨_, rfl, mixOn ⟨_, (fun _ h => h), hS, ?_⟩⟩
  go_frame
  refine dY _ hS (yEqlIC _ _ _ _ .i64 (F2 : Int) (F2 : Int) true rfl rfl rfl rfl (by simp)) ?_; go_frame
  refine dY _ hS (yPick _ _ _ true (.bool true) rfl rfl rfl rfl) ?_; go_frame
  refine dY _ hS (yAssign _ (.bool true) rfl rfl rfl) ?_; go_frame
  refine dDone ?_
  clear hS
  go_wp2
  go_ret
  exact ⟨rfl, hB_116⟩
theorem coinRefs_walk {l L b : List UInt8} {n : Nat} {m : Int} {lv bv : Value} (hl : l.length = 32) (hn : n < 4294967296) (hm1 : -9223372036854775808 ≤ m) (hm2 : m < 9223372036854775808) (W0 : World) (hlv : IsVals W0 lv (L.map VB)) (hbv : IsVals W0 bv (b.map VB)) : Calls Try.prog 5 #[.agg (refC l n), .agg (outC m lv), bv] W0 (AlivePost W0) := by
  by_cases h : 2500 < L.length ∨ 2500 < b.length
  · exact coinRefs_out W0 hlv hbv h
  · by_cases h3 : L.length ≤ 2000
    · exact coinRefs_short hl hn hm1 hm2 W0 hlv hbv (by omega) (by omega) h3
    · exact coinRefs_long hl hn hm1 hm2 W0 hlv hbv (by omega) (by omega) (by omega)
end Go.Proofs.Ytgichipcmbnnhaa
