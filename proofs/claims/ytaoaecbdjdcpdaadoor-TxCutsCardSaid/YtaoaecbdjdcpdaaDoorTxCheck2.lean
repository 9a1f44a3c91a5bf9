/-
  Layer 10: can it be: the reference's Check.
-/
import Derived.Test.YtaoaecbdjdcpdaaDoorTxCheck
namespace Go.Proofs.YtaoaecbdjdcpdaaDoor
open Go Go.RowKit

theorem ins_addr {w : World} {v : Value} {zs : List (InP × Value)} {k : Nat} {z : InP × Value} (h : AreIns w v zs) (hz : zs[k]? = some z) : ∃ b : Addr, (∀ w' : World, (Instr.indexAt 23 v (.int .i64 (k : Int))).run Tryd.prog w' = .ok (.pointer (some b)) w') ∧ ∀ (j : Nat) (u : Value), (inR z)[j]? = some u → w.cell? (b.add j) = some u := by
  obtain ⟨⟨⟨ao, c, rfl, hc, hn, hj⟩, hl⟩, hv⟩ := h
  obtain ⟨ad, rfl, h2⟩ := hj k (inR z) (by rw [List.getElem?_map, hz]; rfl)
  have hk : k < zs.length := (List.getElem?_eq_some_iff.1 hz).1
  refine ⟨ad.add (k * 35), fun w' => ?_, h2⟩
  have hi := info_InC
  cases hq : Tryd.prog.info? 34 with
  | none => simp [hq] at hi
  | some t =>
    have hs' : t.size = 35 := by simpa [hq] using hi
    simp [Instr.indexAt, asIntOf, run_underlying Tryd.underlying23, sizeOf, typeInfo, hq, hs', hk]
theorem cells_below {w w' : World} {b : Addr} {r : List Value} (h : ∀ (j : Nat) (u : Value), r[j]? = some u → w.cell? (b.add j) = some u) (hb : Below w.heap.size w w') : ∀ (j : Nat) (u : Value), r[j]? = some u → w'.cell? (b.add j) = some u :=
  fun j u hu => by rw [hb.cell (block_lt_of_cell (h j u hu))]; exact h j u hu
section
variable {ops : Array Oper} {o : Oper} {a : Act} {S : World → Prop}
theorem yIndexIns (x y : Operand) (v : Value) (k : Nat) (b : Addr) (hr : ∀ w' : World, (Instr.indexAt 23 v (.int .i64 (k : Int))).run Tryd.prog w' = .ok (.pointer (some b)) w') (ho : o.op = .indexAddr 23 x y) (hg : Region.wanted o (yielded ops a.tmps) = true) (hx : a.eval x = v) (hy : a.eval y = .int .i64 (k : Int)) : YieldsIf Tryd.prog ops S o (.pointer (some b)) a :=
  yOf hg fun w _ => by unfold execOp; simp only [ho, hx, hy, Sem.run_bind, hr w, Result.andThen_ok, Sem.run_pure]
theorem yFldAt0 {P : Program} {T : TypeId} {n : Nat} (hF : ∃ f fs, P.underlying T = some (.struct fs) ∧ fs[0]? = some f ∧ f.offset = 0 ∧ (P.info? f.type).map (·.size) = some (n + 1)) (x : Operand) (b : Addr) (ho : o.op = .fieldAddr T x 0) (hg : Region.wanted o (yielded ops a.tmps) = true) (hx : a.eval x = .pointer (some b)) : YieldsIf P ops S o (.pointer (some b)) a := by
  obtain ⟨f, fs, h1, h2, h3, h4⟩ := hF
  refine yOf hg fun w _ => ?_
  have hrun := run_fieldAtAny (w := w) T 0 n 0 fs f b h1 h2 h3 h4
  rw [addr_add0] at hrun
  unfold execOp; simp only [ho, hx, Sem.run_bind, hrun, Result.andThen_ok, Sem.run_pure]
theorem yLoadRefAt (x : Operand) (b : Addr) (i : InP) (u : Value) (hb : ∀ w, S w → ∀ (j : Nat) (t : Value), (inR (i, u))[j]? = some t → w.cell? (b.add j) = some t) (ho : o.op = .load 32 x) (hg : Region.wanted o (yielded ops a.tmps) = true) (hx : a.eval x = .pointer (some b)) : YieldsIf Tryd.prog ops S o (.agg (refC i.id i.at')) a := by
  refine yOf hg fun w hS => ?_
  have hlen : ((inR (i, u)).take 33).length = 33 := by rw [List.length_take, inR_len]; decide
  have hc : ((inR (i, u)).take 33).toArray = refC i.id i.at' := by rw [← inC_ref i u]; simp [inC]
  have hl := run_loadCells_list (P := Tryd.prog) w b ((inR (i, u)).take 33) (fun j t ht => hb w hS j t (by rw [List.getElem?_take] at ht; split at ht; exact ht; cases ht))
  have hi := info_RefC
  have hrun : (loadVar 32 b).run Tryd.prog w = .ok (.agg (refC i.id i.at')) w := by
    cases hq : Tryd.prog.info? 32 with
    | none => simp [hq] at hi
    | some t =>
      have hs' : t.size = 33 := by simpa [hq] using hi
      rw [hlen] at hl
      simp [loadVar, Sem.run_bind, run_isAgg Tryd.underlying32, aggDesc, sizeOf, typeInfo, hq, hs', hl, ← hc]
  unfold execOp
  simp only [ho, hx, Instr.loadAt, Instr.sureAddr, Sem.run_bind, Sem.run_pure, Result.andThen_ok, hrun]
end
theorem run_eqRefIn {l m : List UInt8} (hl : l.length = 32) (hm : m.length = 32) (n k : Nat) (w : World) : (Op.equalIn 10000 32 (.agg (refC l n)) (.agg (refC m k))).run Tryd.prog w = .ok (decide ((m, k) = (l, n))) w := run_eqRef hl hm n k w
set_option maxRecDepth 100000 in
set_option maxHeartbeats 8000000 in
theorem yCheck_any {t : TxP} {a b : Value} (W0 : World) (ht : t.Is) (hf : t.Fits) (ha : InsOf W0 a t.ins) (hb : OutsOf W0 b t.outs) : Calls Tryd.prog 21 #[.agg (txC t.version a b t.end')] W0 (CheckPost W0 (checkN t)) := by
  have hti : ∀ i ∈ t.ins, i.id.length = 32 := fun i hi => (ht.2.2.1 i hi).1
  obtain ⟨zi, ei, hi⟩ := id ha
  obtain ⟨zo, eo, hoo⟩ := id hb
  obtain ⟨N, hN⟩ : ∃ N, t.ins.length = N := ⟨_, rfl⟩
  obtain ⟨M, hM⟩ : ∃ M, t.outs.length = M := ⟨_, rfl⟩
  obtain ⟨L, hL⟩ : ∃ L, (txL t).length = L := ⟨_, rfl⟩
  have hzN : zi.length = N := by rw [fst_len ei, hN]
  have hzM : zo.length = M := by rw [fst_len eo, hM]
  have hN2 : N ≤ 200 := by rw [← hN]; exact hf.1
  have hM2 : M ≤ 200 := by rw [← hM]; exact hf.2.1
  obtain ⟨S, hS⟩ : ∃ S, sumS 0 (t.outs.map Prod.fst) = S := ⟨_, rfl⟩
  have hsum : sumS 0 ((zo.map fun z => (z.1.1, z.2)).map Prod.fst) = S := by rw [← hS, ← eo, List.map_map, List.map_map]; rfl
  obtain ⟨R, hR0⟩ : ∃ R, checkN t = R := ⟨_, rfl⟩
  rw [hR0]
  unfold checkN at hR0
  rw [hN, hM, hL, hS] at hR0
  obtain ⟨c1, e1⟩ : ∃ c, decide (N = 0) = c := ⟨_, rfl⟩
  obtain ⟨c2, e2⟩ : ∃ c, decide (M = 0) = c := ⟨_, rfl⟩
  obtain ⟨c3, e3⟩ : ∃ c, decide (5000 < L) = c := ⟨_, rfl⟩
  obtain ⟨c4, e4⟩ : ∃ c, S.isNone = c := ⟨_, rfl⟩
  obtain ⟨c5, d5⟩ : ∃ c, dupB t.ins = c := ⟨_, rfl⟩
  obtain ⟨c6, d6⟩ : ∃ c, comesB t.ins = c := ⟨_, rfl⟩
  rw [e1, e2, e3, e4, d5, d6] at hR0
  have d1 : decide ((N : Int) < 1) = c1 := by rw [← e1]; exact decide_eq_decide.2 (by omega)
  have d2 : decide ((M : Int) < 1) = c2 := by rw [← e2]; exact decide_eq_decide.2 (by omega)
  have d3 : decide ((L : Int) > 5000) = c3 := by rw [← e3]; exact decide_eq_decide.2 (by omega)
  have d4 : (!decide (sumE S = 0)) = c4 := by rw [← e4]; cases S <;> rfl
  have hE4 : c4 = true → sumE S = 91 := by intro h; rw [← e4] at h; unfold sumE; rw [if_pos h]
  clear e1 e2 e3 e4 hS eo
  cases c1
  case true =>
    subst hR0
    go_enter Tryd.func21, Tryd.ntmps21
    go_wp2_with (first
      | ((with_reducible change wpList _ _ _ (Oper.mk (some 1) _ _ _ _ _ :: _) _ _); refine kBoxL _ _ _ rfl rfl rfl ?_; intro w1 hR hz1 hB1; have hi1 := hi.below hB1; have ha1 := ha.below hB1; have hb1 := hb.below hB1; clear hz1; go_frame)
      | ((with_reducible change wpList _ _ _ (Oper.mk (some 9) _ _ _ _ _ :: _) _ _); refine kFld txCF1 _ _ 0 1 rfl rfl rfl rfl ?_; go_frame)
      | ((with_reducible change wpList _ _ _ (Oper.mk (some 10) _ _ _ _ _ :: _) _ _); refine kLd Tryd.underlying23 rfl _ _ 1 _ a hR rfl rfl rfl rfl ?_; go_frame)
      | ((with_reducible change wpList _ _ _ (Oper.mk (some 11) _ _ _ _ _ :: _) _ _); refine kLenIns _ a zi N hi1 hzN rfl rfl rfl ?_; go_frame)
      | ((with_reducible change wpList _ _ _ (Oper.mk (some 12) _ _ _ _ _ :: _) _ _); refine kLssI _ _ _ _ .i64 (N : Int) 1 _ rfl rfl rfl rfl d1 ?_; go_frame))
    (try simp only [Exit.inBlock, Exit.then])
    refine retBT rfl rfl ?_
    exact ⟨rfl, hB1⟩
  cases c2
  case true =>
    subst hR0
    go_enter Tryd.func21, Tryd.ntmps21
    go_wp2_with (first
      | ((with_reducible change wpList _ _ _ (Oper.mk (some 1) _ _ _ _ _ :: _) _ _); refine kBoxL _ _ _ rfl rfl rfl ?_; intro w1 hR hz1 hB1; have hi1 := hi.below hB1; have ha1 := ha.below hB1; have hb1 := hb.below hB1; clear hz1; go_frame)
      | ((with_reducible change wpList _ _ _ (Oper.mk (some 9) _ _ _ _ _ :: _) _ _); refine kFld txCF1 _ _ 0 1 rfl rfl rfl rfl ?_; go_frame)
      | ((with_reducible change wpList _ _ _ (Oper.mk (some 10) _ _ _ _ _ :: _) _ _); refine kLd Tryd.underlying23 rfl _ _ 1 _ a hR rfl rfl rfl rfl ?_; go_frame)
      | ((with_reducible change wpList _ _ _ (Oper.mk (some 11) _ _ _ _ _ :: _) _ _); refine kLenIns _ a zi N hi1 hzN rfl rfl rfl ?_; go_frame)
      | ((with_reducible change wpList _ _ _ (Oper.mk (some 12) _ _ _ _ _ :: _) _ _); refine kLssI _ _ _ _ .i64 (N : Int) 1 _ rfl rfl rfl rfl d1 ?_; go_frame)
      | ((with_reducible change wpList _ _ _ (Oper.mk (some 14) _ _ _ _ _ :: _) _ _); refine kFld txCF2 _ _ 0 2 rfl rfl rfl rfl ?_; go_frame)
      | ((with_reducible change wpList _ _ _ (Oper.mk (some 15) _ _ _ _ _ :: _) _ _); refine kLd Tryd.underlying24 rfl _ _ 2 _ b hR rfl rfl rfl rfl ?_; go_frame)
      | ((with_reducible change wpList _ _ _ (Oper.mk (some 16) _ _ _ _ _ :: _) _ _); refine kLenOutsT _ b zo M (hoo.below hB1) hzM rfl rfl rfl ?_; go_frame)
      | ((with_reducible change wpList _ _ _ (Oper.mk (some 17) _ _ _ _ _ :: _) _ _); refine kLssI _ _ _ _ .i64 (M : Int) 1 _ rfl rfl rfl rfl d2 ?_; go_frame))
    (try simp only [Exit.inBlock, Exit.then])
    refine retBT rfl rfl ?_
    exact ⟨rfl, hB1⟩
  cases c3
  case true =>
    subst hR0
    go_enter Tryd.func21, Tryd.ntmps21
    go_wp2_with (first
      | ((with_reducible change wpList _ _ _ (Oper.mk (some 1) _ _ _ _ _ :: _) _ _); refine kBoxL _ _ _ rfl rfl rfl ?_; intro w1 hR hz1 hB1; have hi1 := hi.below hB1; have ha1 := ha.below hB1; have hb1 := hb.below hB1; clear hz1; go_frame)
      | ((with_reducible change wpList _ _ _ (Oper.mk (some 9) _ _ _ _ _ :: _) _ _); refine kFld txCF1 _ _ 0 1 rfl rfl rfl rfl ?_; go_frame)
      | ((with_reducible change wpList _ _ _ (Oper.mk (some 10) _ _ _ _ _ :: _) _ _); refine kLd Tryd.underlying23 rfl _ _ 1 _ a hR rfl rfl rfl rfl ?_; go_frame)
      | ((with_reducible change wpList _ _ _ (Oper.mk (some 11) _ _ _ _ _ :: _) _ _); refine kLenIns _ a zi N hi1 hzN rfl rfl rfl ?_; go_frame)
      | ((with_reducible change wpList _ _ _ (Oper.mk (some 12) _ _ _ _ _ :: _) _ _); refine kLssI _ _ _ _ .i64 (N : Int) 1 _ rfl rfl rfl rfl d1 ?_; go_frame)
      | ((with_reducible change wpList _ _ _ (Oper.mk (some 14) _ _ _ _ _ :: _) _ _); refine kFld txCF2 _ _ 0 2 rfl rfl rfl rfl ?_; go_frame)
      | ((with_reducible change wpList _ _ _ (Oper.mk (some 15) _ _ _ _ _ :: _) _ _); refine kLd Tryd.underlying24 rfl _ _ 2 _ b hR rfl rfl rfl rfl ?_; go_frame)
      | ((with_reducible change wpList _ _ _ (Oper.mk (some 16) _ _ _ _ _ :: _) _ _); refine kLenOutsT _ b zo M (hoo.below hB1) hzM rfl rfl rfl ?_; go_frame)
      | ((with_reducible change wpList _ _ _ (Oper.mk (some 17) _ _ _ _ _ :: _) _ _); refine kLssI _ _ _ _ .i64 (M : Int) 1 _ rfl rfl rfl rfl d2 ?_; go_frame)
      | ((with_reducible change wpList _ _ _ (Oper.mk (some 20) _ _ _ _ _ :: _) _ _); refine kLoadTx _ _ t.version t.end' a b hR rfl rfl rfl ?_; go_frame)
      | (go_at_call 16; refine (yBytes_any _ ht hf ha1 hb1).mono ?_; rintro e w2 ⟨v2, rfl, hO2, hB2⟩; have hR2 := hR.below hB2 hR.lt; go_frame)
      | ((with_reducible change wpList _ _ _ (Oper.mk (some 22) _ _ _ _ _ :: _) _ _); refine kLenN _ _ _ v2 _ L rfl rfl rfl hO2.vals (by rw [List.length_map, hL]) Tryd.underlying28 ?_; go_frame)
      | ((with_reducible change wpList _ _ _ (Oper.mk (some 23) _ _ _ _ _ :: _) _ _); refine kGtrI _ _ _ _ .i64 (L : Int) 5000 _ rfl rfl rfl rfl d3 ?_; go_frame))
    (try simp only [Exit.inBlock, Exit.then])
    refine retBT rfl rfl ?_
    exact ⟨rfl, hB1.trans (hB2.mono hB1.size)⟩
  cases c4
  case true =>
    subst hR0
    have h91 := hE4 rfl
    go_enter Tryd.func21, Tryd.ntmps21
    go_wp2_with (first
      | ((with_reducible change wpList _ _ _ (Oper.mk (some 1) _ _ _ _ _ :: _) _ _); refine kBoxL _ _ _ rfl rfl rfl ?_; intro w1 hR hz1 hB1; have hi1 := hi.below hB1; have ha1 := ha.below hB1; have hb1 := hb.below hB1; clear hz1; go_frame)
      | ((with_reducible change wpList _ _ _ (Oper.mk (some 9) _ _ _ _ _ :: _) _ _); refine kFld txCF1 _ _ 0 1 rfl rfl rfl rfl ?_; go_frame)
      | ((with_reducible change wpList _ _ _ (Oper.mk (some 10) _ _ _ _ _ :: _) _ _); refine kLd Tryd.underlying23 rfl _ _ 1 _ a hR rfl rfl rfl rfl ?_; go_frame)
      | ((with_reducible change wpList _ _ _ (Oper.mk (some 11) _ _ _ _ _ :: _) _ _); refine kLenIns _ a zi N hi1 hzN rfl rfl rfl ?_; go_frame)
      | ((with_reducible change wpList _ _ _ (Oper.mk (some 12) _ _ _ _ _ :: _) _ _); refine kLssI _ _ _ _ .i64 (N : Int) 1 _ rfl rfl rfl rfl d1 ?_; go_frame)
      | ((with_reducible change wpList _ _ _ (Oper.mk (some 14) _ _ _ _ _ :: _) _ _); refine kFld txCF2 _ _ 0 2 rfl rfl rfl rfl ?_; go_frame)
      | ((with_reducible change wpList _ _ _ (Oper.mk (some 15) _ _ _ _ _ :: _) _ _); refine kLd Tryd.underlying24 rfl _ _ 2 _ b hR rfl rfl rfl rfl ?_; go_frame)
      | ((with_reducible change wpList _ _ _ (Oper.mk (some 16) _ _ _ _ _ :: _) _ _); refine kLenOutsT _ b zo M (hoo.below hB1) hzM rfl rfl rfl ?_; go_frame)
      | ((with_reducible change wpList _ _ _ (Oper.mk (some 17) _ _ _ _ _ :: _) _ _); refine kLssI _ _ _ _ .i64 (M : Int) 1 _ rfl rfl rfl rfl d2 ?_; go_frame)
      | ((with_reducible change wpList _ _ _ (Oper.mk (some 20) _ _ _ _ _ :: _) _ _); refine kLoadTx _ _ t.version t.end' a b hR rfl rfl rfl ?_; go_frame)
      | (go_at_call 16; refine (yBytes_any _ ht hf ha1 hb1).mono ?_; rintro e w2 ⟨v2, rfl, hO2, hB2⟩; have hR2 := hR.below hB2 hR.lt; go_frame)
      | ((with_reducible change wpList _ _ _ (Oper.mk (some 22) _ _ _ _ _ :: _) _ _); refine kLenN _ _ _ v2 _ L rfl rfl rfl hO2.vals (by rw [List.length_map, hL]) Tryd.underlying28 ?_; go_frame)
      | ((with_reducible change wpList _ _ _ (Oper.mk (some 23) _ _ _ _ _ :: _) _ _); refine kGtrI _ _ _ _ .i64 (L : Int) 5000 _ rfl rfl rfl rfl d3 ?_; go_frame)
      | ((with_reducible change wpList _ _ _ (Oper.mk (some 26) _ _ _ _ _ :: _) _ _); refine kFld txCF2 _ _ 0 2 rfl rfl rfl rfl ?_; go_frame)
      | ((with_reducible change wpList _ _ _ (Oper.mk (some 27) _ _ _ _ _ :: _) _ _); refine kLd Tryd.underlying24 rfl _ _ 2 _ b hR2 rfl rfl rfl rfl ?_; go_frame)
      | (go_at_call 50; refine (zSum_any _ (hoo.below (hB1.trans (hB2.mono hB1.size))).outs (by rw [List.length_map]; omega)).mono ?_; rintro e w3 ⟨rfl, hBq⟩; rw [hsum]; have hB3 := hB2.trans (hBq.mono hB2.size); clear hBq hB2 hO2 hR2; go_frame)
      | ((with_reducible change wpList _ _ _ (Oper.mk (some 32) _ _ _ _ _ :: _) _ _); refine kNeqI _ _ _ _ .i64 (sumE S) 0 _ rfl rfl rfl rfl d4 ?_; go_frame))
    (try simp only [Exit.inBlock, Exit.then])
    refine retBT rfl rfl ?_
    refine ⟨?_, hB1.trans (hB3.mono hB1.size)⟩
    rw [← h91]; rfl
  have hRR : (bif c5 then 101 else bif c6 then (0 : Int) else 101) = R := hR0
  clear hR0
  go_enter Tryd.func21, Tryd.ntmps21
  go_wp2_with (first
    | ((with_reducible change wpList _ _ _ (Oper.mk (some 1) _ _ _ _ _ :: _) _ _); refine kBoxL _ _ _ rfl rfl rfl ?_; intro w1 hR hz1 hB1; have hi1 := hi.below hB1; have ha1 := ha.below hB1; have hb1 := hb.below hB1; clear hz1; go_frame)
    | ((with_reducible change wpList _ _ _ (Oper.mk (some 9) _ _ _ _ _ :: _) _ _); refine kFld txCF1 _ _ 0 1 rfl rfl rfl rfl ?_; go_frame)
    | ((with_reducible change wpList _ _ _ (Oper.mk (some 10) _ _ _ _ _ :: _) _ _); refine kLd Tryd.underlying23 rfl _ _ 1 _ a hR rfl rfl rfl rfl ?_; go_frame)
    | ((with_reducible change wpList _ _ _ (Oper.mk (some 11) _ _ _ _ _ :: _) _ _); refine kLenIns _ a zi N hi1 hzN rfl rfl rfl ?_; go_frame)
    | ((with_reducible change wpList _ _ _ (Oper.mk (some 12) _ _ _ _ _ :: _) _ _); refine kLssI _ _ _ _ .i64 (N : Int) 1 _ rfl rfl rfl rfl d1 ?_; go_frame)
    | ((with_reducible change wpList _ _ _ (Oper.mk (some 14) _ _ _ _ _ :: _) _ _); refine kFld txCF2 _ _ 0 2 rfl rfl rfl rfl ?_; go_frame)
    | ((with_reducible change wpList _ _ _ (Oper.mk (some 15) _ _ _ _ _ :: _) _ _); refine kLd Tryd.underlying24 rfl _ _ 2 _ b hR rfl rfl rfl rfl ?_; go_frame)
    | ((with_reducible change wpList _ _ _ (Oper.mk (some 16) _ _ _ _ _ :: _) _ _); refine kLenOutsT _ b zo M (hoo.below hB1) hzM rfl rfl rfl ?_; go_frame)
    | ((with_reducible change wpList _ _ _ (Oper.mk (some 17) _ _ _ _ _ :: _) _ _); refine kLssI _ _ _ _ .i64 (M : Int) 1 _ rfl rfl rfl rfl d2 ?_; go_frame)
    | ((with_reducible change wpList _ _ _ (Oper.mk (some 20) _ _ _ _ _ :: _) _ _); refine kLoadTx _ _ t.version t.end' a b hR rfl rfl rfl ?_; go_frame)
    | (go_at_call 16; refine (yBytes_any _ ht hf ha1 hb1).mono ?_; rintro e w2 ⟨v2, rfl, hO2, hB2⟩; have hR2 := hR.below hB2 hR.lt; go_frame)
    | ((with_reducible change wpList _ _ _ (Oper.mk (some 22) _ _ _ _ _ :: _) _ _); refine kLenN _ _ _ v2 _ L rfl rfl rfl hO2.vals (by rw [List.length_map, hL]) Tryd.underlying28 ?_; go_frame)
    | ((with_reducible change wpList _ _ _ (Oper.mk (some 23) _ _ _ _ _ :: _) _ _); refine kGtrI _ _ _ _ .i64 (L : Int) 5000 _ rfl rfl rfl rfl d3 ?_; go_frame)
    | ((with_reducible change wpList _ _ _ (Oper.mk (some 26) _ _ _ _ _ :: _) _ _); refine kFld txCF2 _ _ 0 2 rfl rfl rfl rfl ?_; go_frame)
    | ((with_reducible change wpList _ _ _ (Oper.mk (some 27) _ _ _ _ _ :: _) _ _); refine kLd Tryd.underlying24 rfl _ _ 2 _ b hR2 rfl rfl rfl rfl ?_; go_frame)
    | (go_at_call 50; refine (zSum_any _ (hoo.below (hB1.trans (hB2.mono hB1.size))).outs (by rw [List.length_map]; omega)).mono ?_; rintro e w3 ⟨rfl, hBq⟩; rw [hsum]; have hB3 := hB2.trans (hBq.mono hB2.size); clear hBq hB2 hO2 hR2; go_frame)
    | ((with_reducible change wpList _ _ _ (Oper.mk (some 32) _ _ _ _ _ :: _) _ _); refine kNeqI _ _ _ _ .i64 (sumE S) 0 _ rfl rfl rfl rfl d4 ?_; go_frame)
    | ((with_reducible change wpList _ _ _ (Oper.mk (some 34) _ _ _ _ _ :: _) _ _); refine kFld txCF1 _ _ 0 1 rfl rfl rfl rfl ?_; go_frame)
    | ((with_reducible change wpList _ _ _ (Oper.mk (some 35) _ _ _ _ _ :: _) _ _); refine kLd Tryd.underlying23 rfl _ _ 1 _ a (hR.below hB3 hR.lt) rfl rfl rfl rfl ?_; go_frame)
    | ((with_reducible change wpList _ _ _ (Oper.mk (some 36) _ _ _ _ _ :: _) _ _); refine kLenIns _ a zi N (hi1.below hB3) hzN rfl rfl rfl ?_; go_frame))
  go_loopw [37] (fun x wr => ∃ i : Nat, i ≤ N ∧ x = .int .i64 (i : Int) ∧ ((refsOf t.ins).take i).Nodup ∧ Below w1.heap.size w1 wr) (fun x _ => N - (intOf x).toNat)
  case atStart => exact ⟨0, by omega, rfl, by simp, hB3⟩
  case round =>
    clear hB3
    obtain ⟨i, hki, rfl, hnd, hB⟩ := hrel
    by_cases hlt : i < N
    · have hd : decide ((i : Int) < (N : Int)) = true := by simp; omega
      obtain ⟨⟨p, u⟩, hz⟩ : ∃ z, zi[i]? = some z := ⟨_, List.getElem?_eq_getElem (by omega)⟩
      have hik := fst_at ei hz
      have hp32 := hti p (List.mem_of_getElem? hik)
      have hrk := refs_at hik
      obtain ⟨ba, hba, hca⟩ := ins_addr hi1 hz
      go_wp2_with (first
        | ((with_reducible change wpList _ _ _ (Oper.mk (some 38) _ _ _ _ _ :: _) _ _); refine kLssI _ _ _ _ .i64 (i : Int) (N : Int) true rfl rfl rfl rfl hd ?_; go_frame))
      go_loopw [6] (fun x wq => ∃ j : Nat, j ≤ i ∧ x = .int .i64 (j : Int) ∧ (p.id, p.at') ∉ (refsOf t.ins).take j ∧ Below w1.heap.size w1 wq) (fun x _ => i - (intOf x).toNat)
      case atStart => exact ⟨0, by omega, rfl, by simp, hB⟩
      case round =>
        clear hB
        obtain ⟨j, hkj, rfl, hnot, hB⟩ := hrel
        by_cases hlj : j < i
        · have hdj : decide ((j : Int) < (i : Int)) = true := by simp; omega
          obtain ⟨⟨q, v⟩, hy⟩ : ∃ z, zi[j]? = some z := ⟨_, List.getElem?_eq_getElem (by omega)⟩
          have hjk := fst_at ei hy
          have hq32 := hti q (List.mem_of_getElem? hjk)
          have hrj := refs_at hjk
          obtain ⟨bc, hbc, hcc⟩ := ins_addr hi1 hy
          obtain ⟨c, hc⟩ : ∃ c, decide ((q.id, q.at') = (p.id, p.at')) = c := ⟨_, rfl⟩
          have hreq := fun w => run_eqRefIn hp32 hq32 p.at' q.at' w
          rw [hc] at hreq
          go_wp2_with (first
            | ((with_reducible change wpList _ _ _ (Oper.mk (some 42) _ _ _ _ _ :: _) _ _); refine kLssI _ _ _ _ .i64 (j : Int) (i : Int) true rfl rfl rfl rfl hdj ?_; go_frame))
          refine region_mixD [(0, true), (1, true), (2, true), (3, true), (4, true), (5, true), (6, true), (7, true), (8, true), (9, true), (10, true), (11, true), (12, true)] (fun w => Below w1.heap.size w1 w) (by kernel_rfl) (by kernel_rfl) rfl ?_
          intro b0 hBd hsd
          have hB0 := hB.trans (hBd.mono hB.size)
          clear hBd hsd hB
          simp only [List.map_cons, List.map_nil]
          dsimp only [List.filterMap, List.getElem?_cons_zero, List.getElem?_cons_succ]
          refine dY _ hB0 (yFld txCF1 _ _ 0 1 rfl rfl rfl rfl) ?_; go_frame
          refine dY _ hB0 (yLoad1 _ _ _ _ 1 _ a _ rfl rfl rfl (fun _ h => hR.below h hR.lt) Tryd.underlying23 rfl rfl) ?_; go_frame
          refine dY _ hB0 (yMove _ (.int .i64 (i : Int)) rfl rfl rfl) ?_; go_frame
          refine dY _ hB0 (yIndexIns _ _ a i ba hba rfl rfl rfl rfl) ?_; go_frame
          refine dY _ hB0 (yFldAt0 inCF0 _ ba rfl rfl rfl) ?_; go_frame
          refine dY _ hB0 (yLoadRefAt _ ba p u (fun _ h => cells_below hca h) rfl rfl rfl) ?_; go_frame
          refine dY _ hB0 (yFld txCF1 _ _ 0 1 rfl rfl rfl rfl) ?_; go_frame
          refine dY _ hB0 (yLoad1 _ _ _ _ 1 _ a _ rfl rfl rfl (fun _ h => hR.below h hR.lt) Tryd.underlying23 rfl rfl) ?_; go_frame
          refine dY _ hB0 (yMove _ (.int .i64 (j : Int)) rfl rfl rfl) ?_; go_frame
          refine dY _ hB0 (yIndexIns _ _ a j bc hbc rfl rfl rfl rfl) ?_; go_frame
          refine dY _ hB0 (yFldAt0 inCF0 _ bc rfl rfl rfl) ?_; go_frame
          refine dY _ hB0 (yLoadRefAt _ bc q v (fun _ h => cells_below hcc h) rfl rfl rfl) ?_; go_frame
          refine dY _ hB0 (yEqlSt _ _ _ c eqGuard_RefC hreq rfl rfl rfl rfl) ?_; go_frame
          refine dDone ?_
          cases c
          · have hne : (q.id, q.at') ≠ (p.id, p.at') := of_decide_eq_false hc
            have hnot2 : (p.id, p.at') ∉ (refsOf t.ins).take (j + 1) := by
              rw [refs_succ hrj]
              intro hm
              rcases List.mem_append.1 hm with hm | hm
              · exact hnot hm
              · simp at hm; exact hne (by rw [hm.1, hm.2])
            clear hreq hc
            go_wp2_with (first
              | ((with_reducible change wpList _ _ _ (Oper.mk (some 44) _ _ _ _ _ :: _) _ _); refine kAddI _ _ _ _ (j : Int) 1 ((j + 1 : Nat) : Int) (by omega) rfl rfl rfl rfl ?_; go_frame))
            go_roundw
            case rel => exact ⟨j + 1, by omega, rfl, hnot2, hB0⟩
            case measure => simp [intOf]; omega
          · have heq : (q.id, q.at') = (p.id, p.at') := of_decide_eq_true hc
            have hin : (p.id, p.at') ∈ (refsOf t.ins).take i := by
              rw [← heq]
              exact List.mem_iff_getElem?.2 ⟨j, by rw [List.getElem?_take, if_pos hlj]; exact hrj⟩
            have h5 : c5 = true := by rw [← d5, dup_of hrk hin]
            subst h5
            subst hRR
            clear hreq hc
            go_wp2
            (try simp only [Exit.inBlock, Exit.then])
            refine retBT rfl rfl ?_
            exact ⟨rfl, hB1.trans (hB0.mono hB1.size)⟩
        · have hdj : decide ((j : Int) < (i : Int)) = false := by simp; omega
          have hji : j = i := by omega
          subst hji
          have hnd2 := nodup_step hrk hnd hnot
          go_wp2_with (first
            | ((with_reducible change wpList _ _ _ (Oper.mk (some 42) _ _ _ _ _ :: _) _ _); refine kLssI _ _ _ _ .i64 (j : Int) (j : Int) false rfl rfl rfl rfl hdj ?_; go_frame)
            | ((with_reducible change wpList _ _ _ (Oper.mk (some 58) _ _ _ _ _ :: _) _ _); refine kAddI _ _ _ _ (j : Int) 1 ((j + 1 : Nat) : Int) (by omega) rfl rfl rfl rfl ?_; go_frame))
          go_roundw
          case rel => exact ⟨j + 1, by omega, rfl, hnd2, hB⟩
          case measure => simp [intOf]; omega
    · have hd : decide ((i : Int) < (N : Int)) = false := by simp; omega
      rw [List.take_of_length_le (by unfold refsOf; rw [List.length_map]; omega)] at hnd
      have h5 : c5 = false := by rw [← d5, dup_not hnd]
      subst h5
      have hRR2 : (bif c6 then (0 : Int) else 101) = R := hRR
      clear hRR hnd d5
      obtain ⟨bb, hbb⟩ : ∃ bb, baseB t.ins = bb := ⟨_, rfl⟩
      have hany : t.ins.any (badI bb) = !c6 := by rw [← d6]; unfold comesB; rw [hbb]; simp
      clear d6
      go_wp2_with (first
        | ((with_reducible change wpList _ _ _ (Oper.mk (some 38) _ _ _ _ _ :: _) _ _); refine kLssI _ _ _ _ .i64 (i : Int) (N : Int) false rfl rfl rfl rfl hd ?_; go_frame)
        | ((with_reducible change wpList _ _ _ (Oper.mk (some 59) _ _ _ _ _ :: _) _ _); refine kFld txCF1 _ _ 0 1 rfl rfl rfl rfl ?_; go_frame)
        | ((with_reducible change wpList _ _ _ (Oper.mk (some 60) _ _ _ _ _ :: _) _ _); refine kLd Tryd.underlying23 rfl _ _ 1 _ a (hR.below hB hR.lt) rfl rfl rfl rfl ?_; go_frame)
        | ((with_reducible change wpList _ _ _ (Oper.mk (some 61) _ _ _ _ _ :: _) _ _); refine kLenIns _ a zi N (hi1.below hB) hzN rfl rfl rfl ?_; go_frame))
      go_loopw [62] (fun x wr => ∃ k : Nat, k ≤ N ∧ x = .int .i64 (k : Int) ∧ (t.ins.drop k).any (badI bb) = (!c6) ∧ Below w1.heap.size w1 wr) (fun x _ => N - (intOf x).toNat)
      case atStart => exact ⟨0, by omega, rfl, by rw [List.drop_zero]; exact hany, hB⟩
      case round =>
        clear hany hB hd hlt
        obtain ⟨k, hk, rfl, hany, hB⟩ := hrel
        have hsz := hB.size
        by_cases hlt : k < N
        · have hd : decide ((k : Int) < (N : Int)) = true := by simp; omega
          obtain ⟨⟨p, u⟩, hz⟩ : ∃ z, zi[k]? = some z := ⟨_, List.getElem?_eq_getElem (by omega)⟩
          have hik := fst_at ei hz
          have hp32 := hti p (List.mem_of_getElem? hik)
          have hu1 : IsVals w1 u (p.unlock.map VB) := hi1.2 _ (List.mem_of_getElem? hz)
          have har := hi1.below hB
          rw [any_step hik] at hany
          obtain ⟨n, hn⟩ : ∃ n, p.unlock.length = n := ⟨_, rfl⟩
          obtain ⟨x1, y1⟩ : ∃ x, decide ((n : Int) < 2) = x := ⟨_, rfl⟩
          obtain ⟨x2, y2⟩ : ∃ x, decide ((n : Int) > 100) = x := ⟨_, rfl⟩
          obtain ⟨x3, y3⟩ : ∃ x, nullR p.id p.at' = x := ⟨_, rfl⟩
          have hbad : badI bb p = (bif bb then (x1 || x2) else x3) := by
            unfold badI nullI
            rw [hn, y3, show decide (n < 2) = x1 by rw [← y1]; exact decide_eq_decide.2 (by omega), show decide (100 < n) = x2 by rw [← y2]; exact decide_eq_decide.2 (by omega)]
          rw [hbad] at hany
          clear hbad
          cases bb
          · cases x3
            case true =>
              have h6 : c6 = false := by simpa using hany
              clear hany
              subst h6
              subst hRR2
              go_wp2_with (first
                | ((with_reducible change wpList _ _ _ (Oper.mk (some 63) _ _ _ _ _ :: _) _ _); refine kLssI _ _ _ _ .i64 (k : Int) (N : Int) true rfl rfl rfl rfl hd ?_; go_frame)
                | ((with_reducible change wpList _ _ _ (Oper.mk (some 64) _ _ _ _ _ :: _) _ _); refine kIndexIn _ _ a zi k (p, u) har hz rfl rfl rfl rfl ?_; intro bd hbd; go_frame)
                | ((with_reducible change wpList _ _ _ (Oper.mk (some 65) _ _ _ _ _ :: _) _ _); refine kLoadInAt _ bd p u hbd rfl rfl rfl ?_; clear hbd har; go_frame)
                | ((with_reducible change wpList _ _ _ (Oper.mk (some 8) _ _ _ _ _ :: _) _ _); refine kAllocL _ _ rfl rfl zero_InC ?_; intro w5 hR5 hz5 hBq; have hB5 := hB.trans (hBq.mono hsz); clear hB hBq hz5; go_frame)
                | ((with_reducible change wpList _ _ _ (Oper.mk none _ _ _ _ _ :: _) _ _); refine kStoreIn _ _ _ p u _ hR5 (inC_size _ _) hu1.sl.one rfl rfl rfl rfl ?_; intro w6 hR6 hW6; have hB6 := hB5.trans (hW6.below hsz); have ha6 := ha1.below hB6; have hRT := hR.below hB6 hR.lt; clear hB5 hW6 hR5; go_frame)
                | ((with_reducible change wpList _ _ _ (Oper.mk (some 66) _ _ _ _ _ :: _) _ _); refine kLoadTx _ _ t.version t.end' a b hRT rfl rfl rfl ?_; go_frame)
                | (go_at_call 22; refine (yBase_any _ ha6 hti).mono ?_; rintro e w7 ⟨rfl, hBq⟩; rw [hbb]; have hB7 := hB6.trans (hBq.mono hB6.size); have hR7 := hR6.below hBq hR6.lt; have hRT7 := hRT.below hBq hRT.lt; have ha7 := ha6.below hBq; have hu7 := hu1.below hB7; clear hBq hB6 hR6 hRT ha6; go_frame)
                | ((with_reducible change wpList _ _ _ (Oper.mk (some 81) _ _ _ _ _ :: _) _ _); refine kLoadTx _ _ t.version t.end' a b hRT7 rfl rfl rfl ?_; go_frame)
                | (go_at_call 22; refine (yBase_any _ ha7 hti).mono ?_; rintro e w8 ⟨rfl, hBq⟩; rw [hbb]; have hB8 := hB7.trans (hBq.mono hB7.size); have hR8 := hR7.below hBq hR7.lt; clear hBq hB7 hR7 hRT7 ha7; go_frame)
                | ((with_reducible change wpList _ _ _ (Oper.mk (some 83) _ _ _ _ _ :: _) _ _); refine kNot _ _ _ rfl rfl rfl ?_; go_frame)
                | ((with_reducible change wpList _ _ _ (Oper.mk (some 85) _ _ _ _ _ :: _) _ _); refine kFld inCF0 _ _ 0 0 rfl rfl rfl rfl ?_; go_frame)
                | ((with_reducible change wpList _ _ _ (Oper.mk (some 86) _ _ _ _ _ :: _) _ _); refine kLoadInRef _ _ p u hR8 rfl rfl rfl ?_; go_frame)
                | (go_at_call 51; refine (yNull_any _ hp32).mono ?_; rintro e w9 ⟨rfl, hBq⟩; rw [y3]; have hB9 := hB8.trans (hBq.mono hB8.size); clear hBq hB8 hR8; go_frame))
              (try simp only [Exit.inBlock, Exit.then])
              refine retBT rfl rfl ?_
              exact ⟨rfl, hB1.trans (hB9.mono hB1.size)⟩
            have hany2 : Hid ((t.ins.drop (k + 1)).any (badI false) = !c6) := by show (t.ins.drop (k + 1)).any (badI false) = !c6; simpa using hany
            clear hany
            go_wp2_with (first
              | ((with_reducible change wpList _ _ _ (Oper.mk (some 63) _ _ _ _ _ :: _) _ _); refine kLssI _ _ _ _ .i64 (k : Int) (N : Int) true rfl rfl rfl rfl hd ?_; go_frame)
              | ((with_reducible change wpList _ _ _ (Oper.mk (some 64) _ _ _ _ _ :: _) _ _); refine kIndexIn _ _ a zi k (p, u) har hz rfl rfl rfl rfl ?_; intro bd hbd; go_frame)
              | ((with_reducible change wpList _ _ _ (Oper.mk (some 65) _ _ _ _ _ :: _) _ _); refine kLoadInAt _ bd p u hbd rfl rfl rfl ?_; clear hbd har; go_frame)
              | ((with_reducible change wpList _ _ _ (Oper.mk (some 8) _ _ _ _ _ :: _) _ _); refine kAllocL _ _ rfl rfl zero_InC ?_; intro w5 hR5 hz5 hBq; have hB5 := hB.trans (hBq.mono hsz); clear hB hBq hz5; go_frame)
              | ((with_reducible change wpList _ _ _ (Oper.mk none _ _ _ _ _ :: _) _ _); refine kStoreIn _ _ _ p u _ hR5 (inC_size _ _) hu1.sl.one rfl rfl rfl rfl ?_; intro w6 hR6 hW6; have hB6 := hB5.trans (hW6.below hsz); have ha6 := ha1.below hB6; have hRT := hR.below hB6 hR.lt; clear hB5 hW6 hR5; go_frame)
              | ((with_reducible change wpList _ _ _ (Oper.mk (some 66) _ _ _ _ _ :: _) _ _); refine kLoadTx _ _ t.version t.end' a b hRT rfl rfl rfl ?_; go_frame)
              | (go_at_call 22; refine (yBase_any _ ha6 hti).mono ?_; rintro e w7 ⟨rfl, hBq⟩; rw [hbb]; have hB7 := hB6.trans (hBq.mono hB6.size); have hR7 := hR6.below hBq hR6.lt; have hRT7 := hRT.below hBq hRT.lt; have ha7 := ha6.below hBq; have hu7 := hu1.below hB7; clear hBq hB6 hR6 hRT ha6; go_frame)
              | ((with_reducible change wpList _ _ _ (Oper.mk (some 81) _ _ _ _ _ :: _) _ _); refine kLoadTx _ _ t.version t.end' a b hRT7 rfl rfl rfl ?_; go_frame)
              | (go_at_call 22; refine (yBase_any _ ha7 hti).mono ?_; rintro e w8 ⟨rfl, hBq⟩; rw [hbb]; have hB8 := hB7.trans (hBq.mono hB7.size); have hR8 := hR7.below hBq hR7.lt; clear hBq hB7 hR7 hRT7 ha7; go_frame)
              | ((with_reducible change wpList _ _ _ (Oper.mk (some 83) _ _ _ _ _ :: _) _ _); refine kNot _ _ _ rfl rfl rfl ?_; go_frame)
              | ((with_reducible change wpList _ _ _ (Oper.mk (some 85) _ _ _ _ _ :: _) _ _); refine kFld inCF0 _ _ 0 0 rfl rfl rfl rfl ?_; go_frame)
              | ((with_reducible change wpList _ _ _ (Oper.mk (some 86) _ _ _ _ _ :: _) _ _); refine kLoadInRef _ _ p u hR8 rfl rfl rfl ?_; go_frame)
              | (go_at_call 51; refine (yNull_any _ hp32).mono ?_; rintro e w9 ⟨rfl, hBq⟩; rw [y3]; have hB9 := hB8.trans (hBq.mono hB8.size); clear hBq hB8 hR8; go_frame)
              | ((with_reducible change wpList _ _ _ (Oper.mk (some 90) _ _ _ _ _ :: _) _ _); refine kAddI _ _ _ _ (k : Int) 1 ((k + 1 : Nat) : Int) (by omega) rfl rfl rfl rfl ?_; go_frame))
            go_roundw
            case rel => exact ⟨k + 1, by omega, rfl, hany2.out, hB9⟩
            case measure => simp [intOf]; omega
          · cases x1
            case true =>
              have h6 : c6 = false := by simpa using hany
              clear hany
              subst h6
              subst hRR2
              go_wp2_with (first
                | ((with_reducible change wpList _ _ _ (Oper.mk (some 63) _ _ _ _ _ :: _) _ _); refine kLssI _ _ _ _ .i64 (k : Int) (N : Int) true rfl rfl rfl rfl hd ?_; go_frame)
                | ((with_reducible change wpList _ _ _ (Oper.mk (some 64) _ _ _ _ _ :: _) _ _); refine kIndexIn _ _ a zi k (p, u) har hz rfl rfl rfl rfl ?_; intro bd hbd; go_frame)
                | ((with_reducible change wpList _ _ _ (Oper.mk (some 65) _ _ _ _ _ :: _) _ _); refine kLoadInAt _ bd p u hbd rfl rfl rfl ?_; clear hbd har; go_frame)
                | ((with_reducible change wpList _ _ _ (Oper.mk (some 8) _ _ _ _ _ :: _) _ _); refine kAllocL _ _ rfl rfl zero_InC ?_; intro w5 hR5 hz5 hBq; have hB5 := hB.trans (hBq.mono hsz); clear hB hBq hz5; go_frame)
                | ((with_reducible change wpList _ _ _ (Oper.mk none _ _ _ _ _ :: _) _ _); refine kStoreIn _ _ _ p u _ hR5 (inC_size _ _) hu1.sl.one rfl rfl rfl rfl ?_; intro w6 hR6 hW6; have hB6 := hB5.trans (hW6.below hsz); have ha6 := ha1.below hB6; have hRT := hR.below hB6 hR.lt; clear hB5 hW6 hR5; go_frame)
                | ((with_reducible change wpList _ _ _ (Oper.mk (some 66) _ _ _ _ _ :: _) _ _); refine kLoadTx _ _ t.version t.end' a b hRT rfl rfl rfl ?_; go_frame)
                | (go_at_call 22; refine (yBase_any _ ha6 hti).mono ?_; rintro e w7 ⟨rfl, hBq⟩; rw [hbb]; have hB7 := hB6.trans (hBq.mono hB6.size); have hR7 := hR6.below hBq hR6.lt; have hRT7 := hRT.below hBq hRT.lt; have ha7 := ha6.below hBq; have hu7 := hu1.below hB7; clear hBq hB6 hR6 hRT ha6; go_frame)
                | ((with_reducible change wpList _ _ _ (Oper.mk (some 69) _ _ _ _ _ :: _) _ _); refine kFld inCF1 _ _ 0 33 rfl rfl rfl rfl ?_; go_frame)
                | ((with_reducible change wpList _ _ _ (Oper.mk (some 70) _ _ _ _ _ :: _) _ _); refine kLd Tryd.underlying28 rfl _ _ 33 _ u hR7 (inC_33 _ _) rfl rfl rfl ?_; go_frame)
                | ((with_reducible change wpList _ _ _ (Oper.mk (some 71) _ _ _ _ _ :: _) _ _); refine kLenN _ _ _ u _ n rfl rfl rfl hu7 (by rw [List.length_map, hn]) Tryd.underlying28 ?_; go_frame)
                | ((with_reducible change wpList _ _ _ (Oper.mk (some 72) _ _ _ _ _ :: _) _ _); refine kLssI _ _ _ _ .i64 (n : Int) 2 _ rfl rfl rfl rfl y1 ?_; go_frame))
              (try simp only [Exit.inBlock, Exit.then])
              refine retBT rfl rfl ?_
              exact ⟨rfl, hB1.trans (hB7.mono hB1.size)⟩
            cases x2
            case true =>
              have h6 : c6 = false := by simpa using hany
              clear hany
              subst h6
              subst hRR2
              go_wp2_with (first
                | ((with_reducible change wpList _ _ _ (Oper.mk (some 63) _ _ _ _ _ :: _) _ _); refine kLssI _ _ _ _ .i64 (k : Int) (N : Int) true rfl rfl rfl rfl hd ?_; go_frame)
                | ((with_reducible change wpList _ _ _ (Oper.mk (some 64) _ _ _ _ _ :: _) _ _); refine kIndexIn _ _ a zi k (p, u) har hz rfl rfl rfl rfl ?_; intro bd hbd; go_frame)
                | ((with_reducible change wpList _ _ _ (Oper.mk (some 65) _ _ _ _ _ :: _) _ _); refine kLoadInAt _ bd p u hbd rfl rfl rfl ?_; clear hbd har; go_frame)
                | ((with_reducible change wpList _ _ _ (Oper.mk (some 8) _ _ _ _ _ :: _) _ _); refine kAllocL _ _ rfl rfl zero_InC ?_; intro w5 hR5 hz5 hBq; have hB5 := hB.trans (hBq.mono hsz); clear hB hBq hz5; go_frame)
                | ((with_reducible change wpList _ _ _ (Oper.mk none _ _ _ _ _ :: _) _ _); refine kStoreIn _ _ _ p u _ hR5 (inC_size _ _) hu1.sl.one rfl rfl rfl rfl ?_; intro w6 hR6 hW6; have hB6 := hB5.trans (hW6.below hsz); have ha6 := ha1.below hB6; have hRT := hR.below hB6 hR.lt; clear hB5 hW6 hR5; go_frame)
                | ((with_reducible change wpList _ _ _ (Oper.mk (some 66) _ _ _ _ _ :: _) _ _); refine kLoadTx _ _ t.version t.end' a b hRT rfl rfl rfl ?_; go_frame)
                | (go_at_call 22; refine (yBase_any _ ha6 hti).mono ?_; rintro e w7 ⟨rfl, hBq⟩; rw [hbb]; have hB7 := hB6.trans (hBq.mono hB6.size); have hR7 := hR6.below hBq hR6.lt; have hRT7 := hRT.below hBq hRT.lt; have ha7 := ha6.below hBq; have hu7 := hu1.below hB7; clear hBq hB6 hR6 hRT ha6; go_frame)
                | ((with_reducible change wpList _ _ _ (Oper.mk (some 69) _ _ _ _ _ :: _) _ _); refine kFld inCF1 _ _ 0 33 rfl rfl rfl rfl ?_; go_frame)
                | ((with_reducible change wpList _ _ _ (Oper.mk (some 70) _ _ _ _ _ :: _) _ _); refine kLd Tryd.underlying28 rfl _ _ 33 _ u hR7 (inC_33 _ _) rfl rfl rfl ?_; go_frame)
                | ((with_reducible change wpList _ _ _ (Oper.mk (some 71) _ _ _ _ _ :: _) _ _); refine kLenN _ _ _ u _ n rfl rfl rfl hu7 (by rw [List.length_map, hn]) Tryd.underlying28 ?_; go_frame)
                | ((with_reducible change wpList _ _ _ (Oper.mk (some 72) _ _ _ _ _ :: _) _ _); refine kLssI _ _ _ _ .i64 (n : Int) 2 _ rfl rfl rfl rfl y1 ?_; go_frame)
                | ((with_reducible change wpList _ _ _ (Oper.mk (some 74) _ _ _ _ _ :: _) _ _); refine kFld inCF1 _ _ 0 33 rfl rfl rfl rfl ?_; go_frame)
                | ((with_reducible change wpList _ _ _ (Oper.mk (some 75) _ _ _ _ _ :: _) _ _); refine kLd Tryd.underlying28 rfl _ _ 33 _ u hR7 (inC_33 _ _) rfl rfl rfl ?_; go_frame)
                | ((with_reducible change wpList _ _ _ (Oper.mk (some 76) _ _ _ _ _ :: _) _ _); refine kLenN _ _ _ u _ n rfl rfl rfl hu7 (by rw [List.length_map, hn]) Tryd.underlying28 ?_; go_frame)
                | ((with_reducible change wpList _ _ _ (Oper.mk (some 77) _ _ _ _ _ :: _) _ _); refine kGtrI _ _ _ _ .i64 (n : Int) 100 _ rfl rfl rfl rfl y2 ?_; go_frame))
              (try simp only [Exit.inBlock, Exit.then])
              refine retBT rfl rfl ?_
              exact ⟨rfl, hB1.trans (hB7.mono hB1.size)⟩
            have hany2 : Hid ((t.ins.drop (k + 1)).any (badI true) = !c6) := by show (t.ins.drop (k + 1)).any (badI true) = !c6; simpa using hany
            clear hany
            go_wp2_with (first
              | ((with_reducible change wpList _ _ _ (Oper.mk (some 63) _ _ _ _ _ :: _) _ _); refine kLssI _ _ _ _ .i64 (k : Int) (N : Int) true rfl rfl rfl rfl hd ?_; go_frame)
              | ((with_reducible change wpList _ _ _ (Oper.mk (some 64) _ _ _ _ _ :: _) _ _); refine kIndexIn _ _ a zi k (p, u) har hz rfl rfl rfl rfl ?_; intro bd hbd; go_frame)
              | ((with_reducible change wpList _ _ _ (Oper.mk (some 65) _ _ _ _ _ :: _) _ _); refine kLoadInAt _ bd p u hbd rfl rfl rfl ?_; clear hbd har; go_frame)
              | ((with_reducible change wpList _ _ _ (Oper.mk (some 8) _ _ _ _ _ :: _) _ _); refine kAllocL _ _ rfl rfl zero_InC ?_; intro w5 hR5 hz5 hBq; have hB5 := hB.trans (hBq.mono hsz); clear hB hBq hz5; go_frame)
              | ((with_reducible change wpList _ _ _ (Oper.mk none _ _ _ _ _ :: _) _ _); refine kStoreIn _ _ _ p u _ hR5 (inC_size _ _) hu1.sl.one rfl rfl rfl rfl ?_; intro w6 hR6 hW6; have hB6 := hB5.trans (hW6.below hsz); have ha6 := ha1.below hB6; have hRT := hR.below hB6 hR.lt; clear hB5 hW6 hR5; go_frame)
              | ((with_reducible change wpList _ _ _ (Oper.mk (some 66) _ _ _ _ _ :: _) _ _); refine kLoadTx _ _ t.version t.end' a b hRT rfl rfl rfl ?_; go_frame)
              | (go_at_call 22; refine (yBase_any _ ha6 hti).mono ?_; rintro e w7 ⟨rfl, hBq⟩; rw [hbb]; have hB7 := hB6.trans (hBq.mono hB6.size); have hR7 := hR6.below hBq hR6.lt; have hRT7 := hRT.below hBq hRT.lt; have ha7 := ha6.below hBq; have hu7 := hu1.below hB7; clear hBq hB6 hR6 hRT ha6; go_frame)
              | ((with_reducible change wpList _ _ _ (Oper.mk (some 69) _ _ _ _ _ :: _) _ _); refine kFld inCF1 _ _ 0 33 rfl rfl rfl rfl ?_; go_frame)
              | ((with_reducible change wpList _ _ _ (Oper.mk (some 70) _ _ _ _ _ :: _) _ _); refine kLd Tryd.underlying28 rfl _ _ 33 _ u hR7 (inC_33 _ _) rfl rfl rfl ?_; go_frame)
              | ((with_reducible change wpList _ _ _ (Oper.mk (some 71) _ _ _ _ _ :: _) _ _); refine kLenN _ _ _ u _ n rfl rfl rfl hu7 (by rw [List.length_map, hn]) Tryd.underlying28 ?_; go_frame)
              | ((with_reducible change wpList _ _ _ (Oper.mk (some 72) _ _ _ _ _ :: _) _ _); refine kLssI _ _ _ _ .i64 (n : Int) 2 _ rfl rfl rfl rfl y1 ?_; go_frame)
              | ((with_reducible change wpList _ _ _ (Oper.mk (some 74) _ _ _ _ _ :: _) _ _); refine kFld inCF1 _ _ 0 33 rfl rfl rfl rfl ?_; go_frame)
              | ((with_reducible change wpList _ _ _ (Oper.mk (some 75) _ _ _ _ _ :: _) _ _); refine kLd Tryd.underlying28 rfl _ _ 33 _ u hR7 (inC_33 _ _) rfl rfl rfl ?_; go_frame)
              | ((with_reducible change wpList _ _ _ (Oper.mk (some 76) _ _ _ _ _ :: _) _ _); refine kLenN _ _ _ u _ n rfl rfl rfl hu7 (by rw [List.length_map, hn]) Tryd.underlying28 ?_; go_frame)
              | ((with_reducible change wpList _ _ _ (Oper.mk (some 77) _ _ _ _ _ :: _) _ _); refine kGtrI _ _ _ _ .i64 (n : Int) 100 _ rfl rfl rfl rfl y2 ?_; go_frame)
              | ((with_reducible change wpList _ _ _ (Oper.mk (some 81) _ _ _ _ _ :: _) _ _); refine kLoadTx _ _ t.version t.end' a b hRT7 rfl rfl rfl ?_; go_frame)
              | (go_at_call 22; refine (yBase_any _ ha7 hti).mono ?_; rintro e w8 ⟨rfl, hBq⟩; rw [hbb]; have hB8 := hB7.trans (hBq.mono hB7.size); have hR8 := hR7.below hBq hR7.lt; clear hBq hB7 hR7 hRT7 ha7; go_frame)
              | ((with_reducible change wpList _ _ _ (Oper.mk (some 83) _ _ _ _ _ :: _) _ _); refine kNot _ _ _ rfl rfl rfl ?_; go_frame)
              | ((with_reducible change wpList _ _ _ (Oper.mk (some 90) _ _ _ _ _ :: _) _ _); refine kAddI _ _ _ _ (k : Int) 1 ((k + 1 : Nat) : Int) (by omega) rfl rfl rfl rfl ?_; go_frame))
            go_roundw
            case rel => exact ⟨k + 1, by omega, rfl, hany2.out, hB8⟩
            case measure => simp [intOf]; omega
        · have hd : decide ((k : Int) < (N : Int)) = false := by simp; omega
          rw [List.drop_of_length_le (by omega)] at hany
          have h6 : c6 = true := by simpa using hany
          subst h6
          subst hRR2
          go_wp2_with (first
            | ((with_reducible change wpList _ _ _ (Oper.mk (some 63) _ _ _ _ _ :: _) _ _); refine kLssI _ _ _ _ .i64 (k : Int) (N : Int) false rfl rfl rfl rfl hd ?_; go_frame))
          go_ret
          exact ⟨rfl, hB1.trans (hB.mono hB1.size)⟩
end Go.Proofs.YtaoaecbdjdcpdaaDoor
