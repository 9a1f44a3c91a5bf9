/-
  Layer 9: the walks of Money, Subsidy and Sum, the program's and the reference's; outputs that lie in a slice.
-/
import Derived.Test.YtmfjgehlkbndjaaGreatDoorCoCells
namespace Go.Proofs.YtmfjgehlkbndjaaGreatDoor
open Go Go.RowKit

theorem retT2 {fn : Func} {R : Ending → World → Prop} {P : Program} {a : Act} {w : World} {t u : Tmp} (h : fn.results = #[.tmp t, .tmp u]) (hd : a.defers = []) (hR : R (.returned (.tuple #[a.tmps.getD t undef, a.tmps.getD u undef])) w) : bodyPost P fn R .ret a w :=
  bodyPost_ret (by simp [results, h]) hd hR
/-- the value reads as a list of outputs: values, and what stands for locks -/
def AreOuts (w : World) (v : Value) (zs : List (Int × Value)) : Prop :=
  ∃ ao c, v = .slice ao zs.length c ∧ ∀ (k : Nat) (s : Int × Value), zs[k]? = some s → s.2.oneCell' = true ∧ ∃ a : Addr, ao = some a ∧ ∀ (j : Nat) (u : Value), [Value.int .i64 s.1, s.2][j]? = some u → w.cell? ((a.add (k * 2)).add j) = some u
theorem AreOuts.below {w w' : World} {v : Value} {zs : List (Int × Value)} (h : AreOuts w v zs) (hb : Below w.heap.size w w') : AreOuts w' v zs := by
  obtain ⟨ao, c, e, h1⟩ := h
  refine ⟨ao, c, e, fun k s hs => ?_⟩
  obtain ⟨h0, a, ha, h2⟩ := h1 k s hs
  exact ⟨h0, a, ha, fun j u hu => by rw [hb.cell (block_lt_of_cell (h2 j u hu))]; exact h2 j u hu⟩
theorem AreOuts.one {w : World} {v : Value} {zs : List (Int × Value)} (h : AreOuts w v zs) {k : Nat} {s : Int × Value} (hs : zs[k]? = some s) : s.2.oneCell' = true := by obtain ⟨ao, c, e, h1⟩ := h; exact (h1 k s hs).1
section
variable {ops : Array Oper} {Q : Exit → Act → World → Prop} {rest : List Oper} {o : Oper} {a : Act} {w : World} {S : World → Prop}
theorem kLenOuts (x : Operand) (v : Value) (zs : List (Int × Value)) (n : Nat) (hv : AreOuts w v zs) (hn : zs.length = n) (ho : o.op = .call { callee := .builtin .len, args := #[x], argTypes := #[32] }) (hg : Region.wanted o (yielded ops a.tmps) = true) (hx : a.eval x = v) (h : wpList Tryz.prog ops Q rest (a.put o.dst (.int .i64 (n : Int))) w) : wpList Tryz.prog ops Q (o :: rest) a w := by
  obtain ⟨ao, c, rfl, _⟩ := hv
  subst hn
  refine kPure _ hg ?_ h
  simp [execOp, ho, resolve, invoke, builtin, hx, Builtin.len_, run_underlying Tryz.underlying32, goInt]
theorem kIndexOut (x y : Operand) (v : Value) (zs : List (Int × Value)) (k : Nat) (s : Int × Value) (hv : AreOuts w v zs) (hs : zs[k]? = some s) (ho : o.op = .indexAddr 32 x y) (hg : Region.wanted o (yielded ops a.tmps) = true) (hx : a.eval x = v) (hy : a.eval y = .int .i64 (k : Int))
    (h : ∀ b : Addr, (∀ (j : Nat) (u : Value), [Value.int .i64 s.1, s.2][j]? = some u → w.cell? (b.add j) = some u) → wpList Tryz.prog ops Q rest (a.put o.dst (.pointer (some b))) w) : wpList Tryz.prog ops Q (o :: rest) a w := by
  obtain ⟨ao, c, rfl, h1⟩ := hv
  obtain ⟨-, ad, rfl, h2⟩ := h1 k s hs
  have hk : k < zs.length := (List.getElem?_eq_some_iff.1 hs).1
  refine kPure _ hg ?_ (h _ h2)
  have hrun : (Instr.indexAt 32 (.slice (some ad) zs.length c) (.int .i64 (k : Int))).run Tryz.prog w = .ok (.pointer (some (ad.add (k * 2)))) w := by
    have hs := info_OutC
    cases hq : Tryz.prog.info? 64 with
    | none => simp [hq] at hs
    | some t =>
      have hs' : t.size = 2 := by simpa [hq] using hs
      simp [Instr.indexAt, asIntOf, run_underlying Tryz.underlying32, sizeOf, typeInfo, hq, hs', hk]
  unfold execOp
  simp only [ho, hx, hy, Sem.run_bind, hrun, Result.andThen_ok, Sem.run_pure]
theorem kLoadOutAt (x : Operand) (b : Addr) (s : Int × Value) (hb : ∀ (j : Nat) (u : Value), [Value.int .i64 s.1, s.2][j]? = some u → w.cell? (b.add j) = some u) (ho : o.op = .load 64 x) (hg : Region.wanted o (yielded ops a.tmps) = true) (hx : a.eval x = .pointer (some b))
    (h : wpList Tryz.prog ops Q rest (a.put o.dst (.agg (outC s.1 s.2))) w) : wpList Tryz.prog ops Q (o :: rest) a w := by
  refine kPure _ hg ?_ h
  have hl := run_loadCells_list (P := Tryz.prog) w b [Value.int .i64 s.1, s.2] hb
  have hrun : (loadVar 64 b).run Tryz.prog w = .ok (.agg (outC s.1 s.2)) w := by
    have hs := info_OutC
    cases hq : Tryz.prog.info? 64 with
    | none => simp [hq] at hs
    | some t =>
      have hs' : t.size = 2 := by simpa [hq] using hs
      simp only [List.length_cons, List.length_nil, Nat.reduceAdd] at hl
      simp [loadVar, Sem.run_bind, run_isAgg Tryz.underlying64, aggDesc, sizeOf, typeInfo, hq, hs', hl, outC]
  unfold execOp
  simp only [ho, hx, Instr.loadAt, Instr.sureAddr, Sem.run_bind, Sem.run_pure, Result.andThen_ok, hrun]
end
theorem outC_one2 (n : Int) {v : Value} (h : v.oneCell' = true) : ∀ u ∈ outC n v, u.oneCell' = true := by
  intro u hu
  simp [outC] at hu
  rcases hu with rfl | rfl
  · rfl
  · exact h
set_option maxRecDepth 100000 in
set_option maxHeartbeats 8000000 in
theorem coMoney_any (n : Int) (w : World) : Calls Tryz.prog 96 #[.int .i64 n] w fun e w' => e = .returned (.bool (moneyB n)) ∧ w' = w := by
  unfold moneyB
  obtain ⟨c, hc⟩ : ∃ c, decide (0 ≤ n) = c := ⟨_, rfl⟩
  obtain ⟨d, hd⟩ : ∃ d, decide (n ≤ 2000000000000) = d := ⟨_, rfl⟩
  rw [hc, hd]
  cases c
  · go_enter Tryz.func96, Tryz.ntmps96
    go_wp2_with (first
      | ((with_reducible change wpList _ _ _ (Oper.mk (some 4) _ _ _ _ _ :: _) _ _); refine kGeqI _ _ _ _ .i64 n 0 false rfl rfl rfl rfl hc ?_; go_frame)
      | ((with_reducible change wpList _ _ _ (Oper.mk (some 7) _ _ _ _ _ :: _) _ _); refine kLeqI _ _ _ _ .i64 n 2000000000000 d rfl rfl rfl rfl hd ?_; go_frame))
    go_ret
    exact ⟨rfl, rfl⟩
  · go_enter Tryz.func96, Tryz.ntmps96
    go_wp2_with (first
      | ((with_reducible change wpList _ _ _ (Oper.mk (some 4) _ _ _ _ _ :: _) _ _); refine kGeqI _ _ _ _ .i64 n 0 true rfl rfl rfl rfl hc ?_; go_frame)
      | ((with_reducible change wpList _ _ _ (Oper.mk (some 7) _ _ _ _ _ :: _) _ _); refine kLeqI _ _ _ _ .i64 n 2000000000000 d rfl rfl rfl rfl hd ?_; go_frame))
    go_ret
    exact ⟨rfl, rfl⟩
/-- what Sum answers -/
def SumPost (w : World) (r : Option Int) (e : Ending) (w' : World) : Prop := e = .returned (.tuple #[.int .i64 (sumV r), .int .i64 (sumE r)]) ∧ Below w.heap.size w w'
set_option maxRecDepth 100000 in
set_option maxHeartbeats 8000000 in
theorem coSum_any {v : Value} {zs : List (Int × Value)} (w : World) (hv : AreOuts w v zs) (hl : zs.length ≤ 1000) : Calls Tryz.prog 62 #[v] w (SumPost w (sumS 0 (zs.map Prod.fst))) := by
  obtain ⟨N, hN⟩ : ∃ N, zs.length = N := ⟨_, rfl⟩
  obtain ⟨Z, hZ⟩ : ∃ Z, zs.map Prod.fst = Z := ⟨_, rfl⟩
  have hZN : Z.length = N := by rw [← hZ, List.length_map, hN]
  obtain ⟨R, hR⟩ : ∃ R, sumS 0 Z = R := ⟨_, rfl⟩
  rw [hZ, hR]
  go_enter Tryz.func62, Tryz.ntmps62
  go_wp2_with (first
    | ((with_reducible change wpList _ _ _ (Oper.mk (some 8) _ _ _ _ _ :: _) _ _); refine kLenOuts _ v zs N hv hN rfl rfl rfl ?_; go_frame))
  go_loopw [9, 4] (fun i t wr => ∃ (k : Nat) (s : Int), k ≤ N ∧ i = .int .i64 k ∧ t = .int .i64 s ∧ (0 ≤ s ∧ s ≤ 2000000000000) ∧ sumS s (Z.drop k) = R ∧ Below w.heap.size w wr) (fun i _ _ => N - (intOf i).toNat)
  case atStart => exact ⟨0, 0, by omega, rfl, rfl, by omega, by rw [List.drop_zero]; exact hR, Below.refl _ _⟩
  case round =>
    clear hR
    obtain ⟨k, s, hk, rfl, rfl, hs, hrec, hB⟩ := hrel
    have hsz := hB.size
    by_cases hlt : k < N
    · have hd : decide ((k : Int) < (N : Int)) = true := by simp; omega
      obtain ⟨⟨z, lv⟩, hsk⟩ : ∃ p, zs[k]? = some p := ⟨_, List.getElem?_eq_getElem (by omega)⟩
      have hzk : Z[k]? = some z := by rw [← hZ, List.getElem?_map, hsk]; rfl
      have hone := hv.one hsk
      have hvr := hv.below hB
      by_cases b1 : moneyB z = false
      · rw [sumS_stop hzk (.inl b1)] at hrec
        subst hrec
        have hb1 := b1
        clear b1
        go_wp2_with (first
          | ((with_reducible change wpList _ _ _ (Oper.mk (some 10) _ _ _ _ _ :: _) _ _); refine kLssI _ _ _ _ .i64 (k : Int) (N : Int) true rfl rfl rfl rfl hd ?_; go_frame)
          | ((with_reducible change wpList _ _ _ (Oper.mk (some 11) _ _ _ _ _ :: _) _ _); refine kIndexOut _ _ v zs k (z, lv) hvr hsk rfl rfl rfl rfl ?_; intro b hb; go_frame)
          | ((with_reducible change wpList _ _ _ (Oper.mk (some 12) _ _ _ _ _ :: _) _ _); refine kLoadOutAt _ b (z, lv) hb rfl rfl rfl ?_; clear hb hvr; go_frame)
          | ((with_reducible change wpList _ _ _ (Oper.mk (some 6) _ _ _ _ _ :: _) _ _); refine kAllocL _ _ rfl rfl zero_OutC ?_; intro w2 hR2 hz2 hB2; have hB3 := hB.trans (hB2.mono hsz); have hsz3 := hB3.size; clear hB hB2 hz2; go_frame)
          | ((with_reducible change wpList _ _ _ (Oper.mk none _ _ _ _ _ :: _) _ _); refine kStoreRow _ _ _ _ _ _ _ rfl rfl rfl rfl hR2 info_OutC rfl (outC_one2 z hone) ?_; intro w4 hR4 hW4; have hB5 := hB3.trans (hW4.below hsz); have hsz5 := hB5.size; clear hB3 hW4 hR2 hsz3; go_frame)
          | ((with_reducible change wpList _ _ _ (Oper.mk (some 13) _ _ _ _ _ :: _) _ _); refine kFld outCF0 _ _ 0 0 rfl rfl rfl rfl ?_; go_frame)
          | ((with_reducible change wpList _ _ _ (Oper.mk (some 14) _ _ _ _ _ :: _) _ _); refine kLd Tryz.underlying2 rfl _ _ 0 _ (.int .i64 z) hR4 rfl rfl rfl rfl ?_; go_frame)
          | (go_at_call 96; (with_reducible change Calls _ _ #[.int .i64 z] _ _); refine (coMoney_any z _).mono ?_; rintro e w5 ⟨rfl, rfl⟩; rw [hb1]; go_frame)
          | (go_at_call 96; (with_reducible change Calls _ _ #[.int .i64 (s + z)] _ _); refine (coMoney_any (s + z) _).mono ?_; rintro e w6 ⟨rfl, rfl⟩; rw [hb2]; go_frame))
        (try simp only [Exit.inBlock, Exit.then])
        refine retT2 rfl rfl ?_
        exact ⟨rfl, hB5⟩
      · have hb1 : moneyB z = true := by simpa using b1
        have hz0 := moneyB_iff.1 hb1
        by_cases b2 : moneyB (s + z) = false
        · rw [sumS_stop hzk (.inr b2)] at hrec
          subst hrec
          have hb2 := b2
          have hz2 := moneyB_not.1 b2
          have hgt : decide (z > 2000000000000 - s) = true := by simp; omega
          clear b1 b2
          go_wp2_with (first
            | ((with_reducible change wpList _ _ _ (Oper.mk (some 10) _ _ _ _ _ :: _) _ _); refine kLssI _ _ _ _ .i64 (k : Int) (N : Int) true rfl rfl rfl rfl hd ?_; go_frame)
            | ((with_reducible change wpList _ _ _ (Oper.mk (some 11) _ _ _ _ _ :: _) _ _); refine kIndexOut _ _ v zs k (z, lv) hvr hsk rfl rfl rfl rfl ?_; intro b hb; go_frame)
            | ((with_reducible change wpList _ _ _ (Oper.mk (some 12) _ _ _ _ _ :: _) _ _); refine kLoadOutAt _ b (z, lv) hb rfl rfl rfl ?_; clear hb hvr; go_frame)
            | ((with_reducible change wpList _ _ _ (Oper.mk (some 6) _ _ _ _ _ :: _) _ _); refine kAllocL _ _ rfl rfl zero_OutC ?_; intro w2 hR2 hz2 hB2; have hB3 := hB.trans (hB2.mono hsz); have hsz3 := hB3.size; clear hB hB2 hz2; go_frame)
            | ((with_reducible change wpList _ _ _ (Oper.mk none _ _ _ _ _ :: _) _ _); refine kStoreRow _ _ _ _ _ _ _ rfl rfl rfl rfl hR2 info_OutC rfl (outC_one2 z hone) ?_; intro w4 hR4 hW4; have hB5 := hB3.trans (hW4.below hsz); have hsz5 := hB5.size; clear hB3 hW4 hR2 hsz3; go_frame)
            | ((with_reducible change wpList _ _ _ (Oper.mk (some 13) _ _ _ _ _ :: _) _ _); refine kFld outCF0 _ _ 0 0 rfl rfl rfl rfl ?_; go_frame)
            | ((with_reducible change wpList _ _ _ (Oper.mk (some 14) _ _ _ _ _ :: _) _ _); refine kLd Tryz.underlying2 rfl _ _ 0 _ (.int .i64 z) hR4 rfl rfl rfl rfl ?_; go_frame)
            | (go_at_call 96; (with_reducible change Calls _ _ #[.int .i64 z] _ _); refine (coMoney_any z _).mono ?_; rintro e w5 ⟨rfl, rfl⟩; rw [hb1]; go_frame)
            | (go_at_call 96; (with_reducible change Calls _ _ #[.int .i64 (s + z)] _ _); refine (coMoney_any (s + z) _).mono ?_; rintro e w6 ⟨rfl, rfl⟩; rw [hb2]; go_frame)
            | ((with_reducible change wpList _ _ _ (Oper.mk (some 19) _ _ _ _ _ :: _) _ _); refine kFld outCF0 _ _ 0 0 rfl rfl rfl rfl ?_; go_frame)
            | ((with_reducible change wpList _ _ _ (Oper.mk (some 20) _ _ _ _ _ :: _) _ _); refine kLd Tryz.underlying2 rfl _ _ 0 _ (.int .i64 z) hR4 rfl rfl rfl rfl ?_; go_frame)
            | ((with_reducible change wpList _ _ _ (Oper.mk (some 21) _ _ _ _ _ :: _) _ _); refine kAddI _ _ _ _ s z (s + z) (by omega) rfl rfl rfl rfl ?_; go_frame))
          (try simp only [Exit.inBlock, Exit.then])
          refine retT2 rfl rfl ?_
          exact ⟨rfl, hB5⟩
        · have hb2 : moneyB (s + z) = true := by simpa using b2
          have hz2 := moneyB_iff.1 hb2
          have hgt : decide (z > 2000000000000 - s) = false := by simp; omega
          rw [sumS_skip hzk hb1 hb2] at hrec
          clear b1 b2
          go_wp2_with (first
            | ((with_reducible change wpList _ _ _ (Oper.mk (some 10) _ _ _ _ _ :: _) _ _); refine kLssI _ _ _ _ .i64 (k : Int) (N : Int) true rfl rfl rfl rfl hd ?_; go_frame)
            | ((with_reducible change wpList _ _ _ (Oper.mk (some 11) _ _ _ _ _ :: _) _ _); refine kIndexOut _ _ v zs k (z, lv) hvr hsk rfl rfl rfl rfl ?_; intro b hb; go_frame)
            | ((with_reducible change wpList _ _ _ (Oper.mk (some 12) _ _ _ _ _ :: _) _ _); refine kLoadOutAt _ b (z, lv) hb rfl rfl rfl ?_; clear hb hvr; go_frame)
            | ((with_reducible change wpList _ _ _ (Oper.mk (some 6) _ _ _ _ _ :: _) _ _); refine kAllocL _ _ rfl rfl zero_OutC ?_; intro w2 hR2 hz2 hB2; have hB3 := hB.trans (hB2.mono hsz); have hsz3 := hB3.size; clear hB hB2 hz2; go_frame)
            | ((with_reducible change wpList _ _ _ (Oper.mk none _ _ _ _ _ :: _) _ _); refine kStoreRow _ _ _ _ _ _ _ rfl rfl rfl rfl hR2 info_OutC rfl (outC_one2 z hone) ?_; intro w4 hR4 hW4; have hB5 := hB3.trans (hW4.below hsz); have hsz5 := hB5.size; clear hB3 hW4 hR2 hsz3; go_frame)
            | ((with_reducible change wpList _ _ _ (Oper.mk (some 13) _ _ _ _ _ :: _) _ _); refine kFld outCF0 _ _ 0 0 rfl rfl rfl rfl ?_; go_frame)
            | ((with_reducible change wpList _ _ _ (Oper.mk (some 14) _ _ _ _ _ :: _) _ _); refine kLd Tryz.underlying2 rfl _ _ 0 _ (.int .i64 z) hR4 rfl rfl rfl rfl ?_; go_frame)
            | (go_at_call 96; (with_reducible change Calls _ _ #[.int .i64 z] _ _); refine (coMoney_any z _).mono ?_; rintro e w5 ⟨rfl, rfl⟩; rw [hb1]; go_frame)
            | (go_at_call 96; (with_reducible change Calls _ _ #[.int .i64 (s + z)] _ _); refine (coMoney_any (s + z) _).mono ?_; rintro e w6 ⟨rfl, rfl⟩; rw [hb2]; go_frame)
            | ((with_reducible change wpList _ _ _ (Oper.mk (some 19) _ _ _ _ _ :: _) _ _); refine kFld outCF0 _ _ 0 0 rfl rfl rfl rfl ?_; go_frame)
            | ((with_reducible change wpList _ _ _ (Oper.mk (some 20) _ _ _ _ _ :: _) _ _); refine kLd Tryz.underlying2 rfl _ _ 0 _ (.int .i64 z) hR4 rfl rfl rfl rfl ?_; go_frame)
            | ((with_reducible change wpList _ _ _ (Oper.mk (some 21) _ _ _ _ _ :: _) _ _); refine kAddI _ _ _ _ s z (s + z) (by omega) rfl rfl rfl rfl ?_; go_frame)
            | ((with_reducible change wpList _ _ _ (Oper.mk (some 26) _ _ _ _ _ :: _) _ _); refine kFld outCF0 _ _ 0 0 rfl rfl rfl rfl ?_; go_frame)
            | ((with_reducible change wpList _ _ _ (Oper.mk (some 27) _ _ _ _ _ :: _) _ _); refine kLd Tryz.underlying2 rfl _ _ 0 _ (.int .i64 z) hR4 rfl rfl rfl rfl ?_; go_frame)
            | ((with_reducible change wpList _ _ _ (Oper.mk (some 28) _ _ _ _ _ :: _) _ _); refine kAddI _ _ _ _ s z (s + z) (by omega) rfl rfl rfl rfl ?_; go_frame)
            | ((with_reducible change wpList _ _ _ (Oper.mk (some 29) _ _ _ _ _ :: _) _ _); refine kAddI _ _ _ _ (k : Int) 1 ((k + 1 : Nat) : Int) (by omega) rfl rfl rfl rfl ?_; go_frame))
          go_roundw
          case rel => exact ⟨k + 1, s + z, by omega, rfl, rfl, hz2, hrec, hB5⟩
          case measure => simp [intOf]; omega
    · have hd : decide ((k : Int) < (N : Int)) = false := by simp; omega
      have hR : R = some s := by rw [← hrec, List.drop_of_length_le (by omega)]; rfl
      subst hR
      go_wp2_with (first
        | ((with_reducible change wpList _ _ _ (Oper.mk (some 10) _ _ _ _ _ :: _) _ _); refine kLssI _ _ _ _ .i64 (k : Int) (N : Int) false rfl rfl rfl rfl hd ?_; go_frame))
      (try simp only [Exit.inBlock, Exit.then])
      refine retT2 rfl rfl ?_
      exact ⟨rfl, hB⟩
end Go.Proofs.YtmfjgehlkbndjaaGreatDoor
