/-
  Layer 10: the walk of TxSigned: whole.
-/
import Derived.Test.YtaoaecbdjdcpdaaDoorTxSign0
namespace Go.Proofs.YtaoaecbdjdcpdaaDoor
open Go Go.RowKit

theorem own_putV {w : World} {base : Nat} {v u : Value} {L : List (List Value)} {k : Nat} {r : List Value} (hO : OwnR 2 36 w base v L) (hk : L[k]? = some r) : ∃ (g off : Nat) (cur : Array Value), (∀ w' : World, (Instr.indexAt 24 v (.int .i64 (k : Int))).run Tryd.prog w' = .ok (.pointer (some ⟨g, off, none⟩)) w') ∧ base ≤ g ∧ Row w g 36 cur ∧ off + 0 < cur.size ∧ (∀ z, r[0]? = some z → cur[off + 0]? = some z) ∧ ∀ w' : World, Row w' g 36 (cur.setIfInBounds (off + 0) u) → OwnR 2 36 w' base v (L.set k (r.set 0 u)) := by
  have hkl := (List.getElem?_eq_some_iff.1 hk).1
  obtain ⟨g, cap, cur, rfl, hb, hrow, hcs, hlc, hcm, ht⟩ := hO.row (fun e => by rw [e] at hkl; simp at hkl)
  refine ⟨g, k * 2, cur, fun w' => ?_, hb, hrow, by rw [hcs]; omega, fun z hz => ?_, fun w' hr' => hO.set hrow hk (by decide) hr'⟩
  · have hi := info_OutC
    cases hq : Tryd.prog.info? 36 with
    | none => simp [hq] at hi
    | some t =>
      have hs' : t.size = 2 := by simpa [hq] using hi
      simp [Instr.indexAt, asIntOf, run_underlying Tryd.underlying24, sizeOf, typeInfo, hq, hs', hkl, add_none]
  · have h1 := flat_at L k 0 r z hO.2 hk hz
    rw [← ht, List.getElem?_take, if_pos (by omega), Array.getElem?_toList] at h1
    exact h1
theorem info_u32C : (Tryd.prog.info? 22).map (·.size) = some 1 := by kernel_rfl
section
variable {ops : Array Oper} {Q : Exit → Act → World → Prop} {rest : List Oper} {o : Oper} {a : Act} {w : World}
theorem kAddU32 (T T2 : TypeId) (x y : Operand) (m n : Nat) (ho : o.op = .binOp .add T x y T2) (hg : Region.wanted o (yielded ops a.tmps) = true) (hx : a.eval x = .int .u32 (m : Int)) (hy : a.eval y = .int .u32 (n : Int)) (h : wpList Tryd.prog ops Q rest (a.put o.dst (.int .u32 (((m + n) % 4294967296 : Nat) : Int))) w) : wpList Tryd.prog ops Q (o :: rest) a w := by
  refine kPure _ hg ?_ h
  unfold execOp
  have e : IntKind.u32.wrap ((m : Int) + (n : Int)) = (((m + n) % 4294967296 : Nat) : Int) := by rw [IntKind.wrap_u32]; omega
  simp only [ho, hx, hy, eqGuard, binOp, Op.intArith, Sem.run_bind, Sem.run_pure, Result.andThen_ok, e]
  rfl
end
def uT (t : TxP) (m : List UInt8) : TxP := ⟨t.version, t.ins.map fun x => putI x m, t.outs, t.end'⟩
def vT (t : TxP) (q : Int × List UInt8) (yt : List ((Int × List UInt8) × Value)) : TxP := ⟨t.version, t.ins, (xor64 q.1 1, q.2) :: yt.map Prod.fst, t.end'⟩
def wT (t : TxP) : TxP := ⟨t.version, t.ins, t.outs, (t.end' + 1) % 4294967296⟩
theorem hashL_uT (t : TxP) (m : List UInt8) (i : Int) (lock : List UInt8) : hashL (uT t m) i lock = hashL t i lock := hashL_putI t m i lock
theorem vT_is {t : TxP} {q : Int × List UInt8} {yt : List ((Int × List UInt8) × Value)} (h : t.Is) (ho : t.outs = q :: yt.map Prod.fst) : (vT t q yt).Is := by
  refine ⟨h.1, h.2.1, h.2.2.1, fun x hx => ?_⟩
  rcases List.mem_cons.1 hx with rfl | hx
  · exact xor64_ok _ _
  · exact h.2.2.2 x (by rw [ho]; exact List.mem_cons_of_mem _ hx)
theorem vT_fits {t : TxP} {q : Int × List UInt8} {yt : List ((Int × List UInt8) × Value)} (h : t.Fits) (ho : t.outs = q :: yt.map Prod.fst) : (vT t q yt).Fits := by
  have h2 := h.2.1
  rw [ho] at h2
  refine ⟨h.1, h2, h.2.2.1, fun x hx => ?_⟩
  rcases List.mem_cons.1 hx with rfl | hx
  · exact h.2.2.2 q (by rw [ho]; simp)
  · exact h.2.2.2 x (by rw [ho]; exact List.mem_cons_of_mem _ hx)
section
variable {ops : Array Oper} {o : Oper} {a : Act} {S : World → Prop}
theorem yAddI1 (T T2 : TypeId) (x y : Operand) (k : Nat) (hk : k < 1000000) (ho : o.op = .binOp .add T x y T2) (hg : Region.wanted o (yielded ops a.tmps) = true) (hx : a.eval x = .int .i64 (k : Int)) (hy : a.eval y = .int .i64 1) : YieldsIf Tryd.prog ops S o (.int .i64 ((k + 1 : Nat) : Int)) a :=
  yOf hg fun w _ => by
    have e : IntKind.i64.wrap ((k : Int) + 1) = ((k + 1 : Nat) : Int) := by rw [IntKind.wrap_i64]; omega
    unfold execOp
    simp only [ho, hx, hy, eqGuard, binOp, Op.intArith, Sem.run_bind, Sem.run_pure, Result.andThen_ok, e]
    rfl
end
set_option maxRecDepth 100000 in
set_option maxHeartbeats 8000000 in
theorem txSigned_no0 {t : TxP} {a b lu lx : Value} {i : Int} {lock other : List UInt8} {zs : List (InP × Value)} {ys : List ((Int × List UInt8) × Value)} {nl no NI NO : Nat} (W0 : World) (hK : Keys W0) (ht : t.Is) (ha : InsOf W0 a t.ins) (hb : OutsOf W0 b t.outs) (hlu : IsVals W0 lu (lock.map VB)) (hlx : IsVals W0 lx (other.map VB)) (hzr : IsRows 35 W0 a (zs.map inR)) (hyr : IsRows 2 W0 b (ys.map outR)) (hnl : lock.length = nl) (hno : other.length = no) (hNI : zs.length = NI) (hNO : ys.length = NO) (hg : greatB t = true) : Calls Tryd.prog 7 #[.agg (txC t.version a b t.end'), .int .i64 i, .agg #[lu, lx]] W0 (BoolPost W0 true) := by
  have hB00 := Below.refl W0.heap.size W0
  go_enter Tryd.func7, Tryd.ntmps7
  go_wp2_with (first
    | ((with_reducible change wpList _ _ _ (Oper.mk (some 3) _ _ _ _ _ :: _) _ _); refine kBoxL _ _ _ rfl rfl rfl ?_; intro y1 hV3 hzq hBq; clear hzq; have hB_1 := hB00.trans (hBq.mono hB00.size); clear hB00 hBq; go_frame)
    | ((with_reducible change wpList _ _ _ (Oper.mk (some 5) _ _ _ _ _ :: _) _ _); refine kBoxL _ _ _ rfl rfl rfl ?_; intro y2 hV5 hzq hBq; clear hzq; have hV3_2 := hV3.below hBq hV3.lt; have hB_3 := hB_1.trans (hBq.mono hB_1.size); clear hV3 hB_1 hBq; go_frame)
    | (go_at_call 12; refine (txAlive_any _ (hK.below hB_3)).mono ?_; rintro e y3 ⟨rfl, hBq⟩; have hV3_4 := hV3_2.below hBq hV3_2.lt; have hV5_5 := hV5.below hBq hV5.lt; have hB_6 := hB_3.trans (hBq.mono hB_3.size); clear hV3_2 hV5 hB_3 hBq; go_frame)
    | ((with_reducible change wpList _ _ _ (Oper.mk (some 16) _ _ _ _ _ :: _) _ _); refine kNot _ _ true rfl rfl rfl ?_; go_frame))
  refine region_mixD [(0, true), (1, true), (2, true), (3, true), (4, true), (5, true)] (fun w => (Row w W0.heap.size 26 (txC t.version a b t.end')) ∧ (Row w y1.heap.size 61 (#[lu, lx]))) (by kernel_rfl) (by kernel_rfl) rfl ?_
  intro z0 hBd hsd
  clear hsd
  have hV3_7 := hV3_4.below hBd hV3_4.lt
  have hV5_8 := hV5_5.below hBd hV5_5.lt
  have hB_9 := hB_6.trans (hBd.mono hB_6.size)
  clear hV3_4 hV5_5 hB_6 hBd
  simp only [List.map_cons, List.map_nil]
  dsimp only [List.filterMap, List.getElem?_cons_zero, List.getElem?_cons_succ]
  have hS : (Row z0 W0.heap.size 26 (txC t.version a b t.end')) ∧ (Row z0 y1.heap.size 61 (#[lu, lx])) := ⟨hV3_7, hV5_8⟩
  refine dY _ hS (yIndexLocks _ _ y1.heap.size 0 (by decide) rfl rfl rfl rfl) ?_; go_frame
  refine dY _ hS (yLoad1 _ _ _ _ 0 _ lu _ rfl rfl rfl (fun _ h => h.2) Tryd.underlying28 rfl rfl) ?_; go_frame
  refine dY _ hS (yIndexLocks _ _ y1.heap.size 1 (by decide) rfl rfl rfl rfl) ?_; go_frame
  refine dY _ hS (yLoad1 _ _ _ _ 1 _ lx _ rfl rfl rfl (fun _ h => h.2) Tryd.underlying28 rfl rfl) ?_; go_frame
  refine dY _ hS (yAssign _ lu rfl rfl rfl) ?_; go_frame
  refine dY _ hS (yAssign _ lx rfl rfl rfl) ?_; go_frame
  refine dDone ?_
  go_wp2_with (first
    | ((with_reducible change wpList _ _ _ (Oper.mk (some 21) _ _ _ _ _ :: _) _ _); refine kLoadRow _ _ _ _ (txC t.version a b t.end') _ rfl rfl rfl hV3_7 Tryd.underlying26 rfl info_TxC ?_; go_frame)
    | (go_at_call 15; refine (great_any (t := t) _ (ha.below hB_9) (hb.below hB_9)).mono ?_; rintro e y4 ⟨rfl, hBq⟩; have hV3_10 := hV3_7.below hBq hV3_7.lt; have hV5_11 := hV5_8.below hBq hV5_8.lt; have hB_12 := hB_9.trans (hBq.mono hB_9.size); clear hV3_7 hV5_8 hB_9 hBq; rw [hg]; go_frame))
  (try simp only [Exit.inBlock, Exit.then])
  refine retBT rfl rfl ?_
  exact ⟨rfl, hB_12⟩
set_option maxRecDepth 100000 in
set_option maxHeartbeats 8000000 in
theorem txSigned_no1 {t : TxP} {a b lu lx : Value} {i : Int} {lock other : List UInt8} {zs : List (InP × Value)} {ys : List ((Int × List UInt8) × Value)} {nl no NI NO : Nat} (W0 : World) (hK : Keys W0) (ht : t.Is) (ha : InsOf W0 a t.ins) (hb : OutsOf W0 b t.outs) (hlu : IsVals W0 lu (lock.map VB)) (hlx : IsVals W0 lx (other.map VB)) (hzr : IsRows 35 W0 a (zs.map inR)) (hyr : IsRows 2 W0 b (ys.map outR)) (hnl : lock.length = nl) (hno : other.length = no) (hNI : zs.length = NI) (hNO : ys.length = NO) (hg : greatB t = false) (d26 : decide ((nl : Int) > 500) = true) : Calls Tryd.prog 7 #[.agg (txC t.version a b t.end'), .int .i64 i, .agg #[lu, lx]] W0 (BoolPost W0 true) := by
  have hB00 := Below.refl W0.heap.size W0
  go_enter Tryd.func7, Tryd.ntmps7
  go_wp2_with (first
    | ((with_reducible change wpList _ _ _ (Oper.mk (some 3) _ _ _ _ _ :: _) _ _); refine kBoxL _ _ _ rfl rfl rfl ?_; intro y1 hV3 hzq hBq; clear hzq; have hB_1 := hB00.trans (hBq.mono hB00.size); clear hB00 hBq; go_frame)
    | ((with_reducible change wpList _ _ _ (Oper.mk (some 5) _ _ _ _ _ :: _) _ _); refine kBoxL _ _ _ rfl rfl rfl ?_; intro y2 hV5 hzq hBq; clear hzq; have hV3_2 := hV3.below hBq hV3.lt; have hB_3 := hB_1.trans (hBq.mono hB_1.size); clear hV3 hB_1 hBq; go_frame)
    | (go_at_call 12; refine (txAlive_any _ (hK.below hB_3)).mono ?_; rintro e y3 ⟨rfl, hBq⟩; have hV3_4 := hV3_2.below hBq hV3_2.lt; have hV5_5 := hV5.below hBq hV5.lt; have hB_6 := hB_3.trans (hBq.mono hB_3.size); clear hV3_2 hV5 hB_3 hBq; go_frame)
    | ((with_reducible change wpList _ _ _ (Oper.mk (some 16) _ _ _ _ _ :: _) _ _); refine kNot _ _ true rfl rfl rfl ?_; go_frame))
  refine region_mixD [(0, true), (1, true), (2, true), (3, true), (4, true), (5, true)] (fun w => (Row w W0.heap.size 26 (txC t.version a b t.end')) ∧ (Row w y1.heap.size 61 (#[lu, lx]))) (by kernel_rfl) (by kernel_rfl) rfl ?_
  intro z0 hBd hsd
  clear hsd
  have hV3_7 := hV3_4.below hBd hV3_4.lt
  have hV5_8 := hV5_5.below hBd hV5_5.lt
  have hB_9 := hB_6.trans (hBd.mono hB_6.size)
  clear hV3_4 hV5_5 hB_6 hBd
  simp only [List.map_cons, List.map_nil]
  dsimp only [List.filterMap, List.getElem?_cons_zero, List.getElem?_cons_succ]
  have hS : (Row z0 W0.heap.size 26 (txC t.version a b t.end')) ∧ (Row z0 y1.heap.size 61 (#[lu, lx])) := ⟨hV3_7, hV5_8⟩
  refine dY _ hS (yIndexLocks _ _ y1.heap.size 0 (by decide) rfl rfl rfl rfl) ?_; go_frame
  refine dY _ hS (yLoad1 _ _ _ _ 0 _ lu _ rfl rfl rfl (fun _ h => h.2) Tryd.underlying28 rfl rfl) ?_; go_frame
  refine dY _ hS (yIndexLocks _ _ y1.heap.size 1 (by decide) rfl rfl rfl rfl) ?_; go_frame
  refine dY _ hS (yLoad1 _ _ _ _ 1 _ lx _ rfl rfl rfl (fun _ h => h.2) Tryd.underlying28 rfl rfl) ?_; go_frame
  refine dY _ hS (yAssign _ lu rfl rfl rfl) ?_; go_frame
  refine dY _ hS (yAssign _ lx rfl rfl rfl) ?_; go_frame
  refine dDone ?_
  go_wp2_with (first
    | ((with_reducible change wpList _ _ _ (Oper.mk (some 21) _ _ _ _ _ :: _) _ _); refine kLoadRow _ _ _ _ (txC t.version a b t.end') _ rfl rfl rfl hV3_7 Tryd.underlying26 rfl info_TxC ?_; go_frame)
    | (go_at_call 15; refine (great_any (t := t) _ (ha.below hB_9) (hb.below hB_9)).mono ?_; rintro e y4 ⟨rfl, hBq⟩; have hV3_10 := hV3_7.below hBq hV3_7.lt; have hV5_11 := hV5_8.below hBq hV5_8.lt; have hB_12 := hB_9.trans (hBq.mono hB_9.size); clear hV3_7 hV5_8 hB_9 hBq; rw [hg]; go_frame)
    | ((with_reducible change wpList _ _ _ (Oper.mk (some 25) _ _ _ _ _ :: _) _ _); refine kLenN _ _ _ lu _ nl rfl rfl rfl (hlu.below hB_12) (by rw [List.length_map, hnl]) Tryd.underlying28 ?_; go_frame)
    | ((with_reducible change wpList _ _ _ (Oper.mk (some 26) _ _ _ _ _ :: _) _ _); refine kGtrI _ _ _ _ .i64 (nl : Int) 500 true rfl rfl rfl rfl d26 ?_; go_frame))
  (try simp only [Exit.inBlock, Exit.then])
  refine retBT rfl rfl ?_
  exact ⟨rfl, hB_12⟩
set_option maxRecDepth 100000 in
set_option maxHeartbeats 8000000 in
theorem txSigned_no2 {t : TxP} {a b lu lx : Value} {i : Int} {lock other : List UInt8} {zs : List (InP × Value)} {ys : List ((Int × List UInt8) × Value)} {nl no NI NO : Nat} (W0 : World) (hK : Keys W0) (ht : t.Is) (ha : InsOf W0 a t.ins) (hb : OutsOf W0 b t.outs) (hlu : IsVals W0 lu (lock.map VB)) (hlx : IsVals W0 lx (other.map VB)) (hzr : IsRows 35 W0 a (zs.map inR)) (hyr : IsRows 2 W0 b (ys.map outR)) (hnl : lock.length = nl) (hno : other.length = no) (hNI : zs.length = NI) (hNO : ys.length = NO) (hg : greatB t = false) (d26 : decide ((nl : Int) > 500) = false) (d31 : decide ((no : Int) > 500) = true) : Calls Tryd.prog 7 #[.agg (txC t.version a b t.end'), .int .i64 i, .agg #[lu, lx]] W0 (BoolPost W0 true) := by
  have hB00 := Below.refl W0.heap.size W0
  go_enter Tryd.func7, Tryd.ntmps7
  go_wp2_with (first
    | ((with_reducible change wpList _ _ _ (Oper.mk (some 3) _ _ _ _ _ :: _) _ _); refine kBoxL _ _ _ rfl rfl rfl ?_; intro y1 hV3 hzq hBq; clear hzq; have hB_1 := hB00.trans (hBq.mono hB00.size); clear hB00 hBq; go_frame)
    | ((with_reducible change wpList _ _ _ (Oper.mk (some 5) _ _ _ _ _ :: _) _ _); refine kBoxL _ _ _ rfl rfl rfl ?_; intro y2 hV5 hzq hBq; clear hzq; have hV3_2 := hV3.below hBq hV3.lt; have hB_3 := hB_1.trans (hBq.mono hB_1.size); clear hV3 hB_1 hBq; go_frame)
    | (go_at_call 12; refine (txAlive_any _ (hK.below hB_3)).mono ?_; rintro e y3 ⟨rfl, hBq⟩; have hV3_4 := hV3_2.below hBq hV3_2.lt; have hV5_5 := hV5.below hBq hV5.lt; have hB_6 := hB_3.trans (hBq.mono hB_3.size); clear hV3_2 hV5 hB_3 hBq; go_frame)
    | ((with_reducible change wpList _ _ _ (Oper.mk (some 16) _ _ _ _ _ :: _) _ _); refine kNot _ _ true rfl rfl rfl ?_; go_frame))
  refine region_mixD [(0, true), (1, true), (2, true), (3, true), (4, true), (5, true)] (fun w => (Row w W0.heap.size 26 (txC t.version a b t.end')) ∧ (Row w y1.heap.size 61 (#[lu, lx]))) (by kernel_rfl) (by kernel_rfl) rfl ?_
  intro z0 hBd hsd
  clear hsd
  have hV3_7 := hV3_4.below hBd hV3_4.lt
  have hV5_8 := hV5_5.below hBd hV5_5.lt
  have hB_9 := hB_6.trans (hBd.mono hB_6.size)
  clear hV3_4 hV5_5 hB_6 hBd
  simp only [List.map_cons, List.map_nil]
  dsimp only [List.filterMap, List.getElem?_cons_zero, List.getElem?_cons_succ]
  have hS : (Row z0 W0.heap.size 26 (txC t.version a b t.end')) ∧ (Row z0 y1.heap.size 61 (#[lu, lx])) := ⟨hV3_7, hV5_8⟩
  refine dY _ hS (yIndexLocks _ _ y1.heap.size 0 (by decide) rfl rfl rfl rfl) ?_; go_frame
  refine dY _ hS (yLoad1 _ _ _ _ 0 _ lu _ rfl rfl rfl (fun _ h => h.2) Tryd.underlying28 rfl rfl) ?_; go_frame
  refine dY _ hS (yIndexLocks _ _ y1.heap.size 1 (by decide) rfl rfl rfl rfl) ?_; go_frame
  refine dY _ hS (yLoad1 _ _ _ _ 1 _ lx _ rfl rfl rfl (fun _ h => h.2) Tryd.underlying28 rfl rfl) ?_; go_frame
  refine dY _ hS (yAssign _ lu rfl rfl rfl) ?_; go_frame
  refine dY _ hS (yAssign _ lx rfl rfl rfl) ?_; go_frame
  refine dDone ?_
  go_wp2_with (first
    | ((with_reducible change wpList _ _ _ (Oper.mk (some 21) _ _ _ _ _ :: _) _ _); refine kLoadRow _ _ _ _ (txC t.version a b t.end') _ rfl rfl rfl hV3_7 Tryd.underlying26 rfl info_TxC ?_; go_frame)
    | (go_at_call 15; refine (great_any (t := t) _ (ha.below hB_9) (hb.below hB_9)).mono ?_; rintro e y4 ⟨rfl, hBq⟩; have hV3_10 := hV3_7.below hBq hV3_7.lt; have hV5_11 := hV5_8.below hBq hV5_8.lt; have hB_12 := hB_9.trans (hBq.mono hB_9.size); clear hV3_7 hV5_8 hB_9 hBq; rw [hg]; go_frame)
    | ((with_reducible change wpList _ _ _ (Oper.mk (some 25) _ _ _ _ _ :: _) _ _); refine kLenN _ _ _ lu _ nl rfl rfl rfl (hlu.below hB_12) (by rw [List.length_map, hnl]) Tryd.underlying28 ?_; go_frame)
    | ((with_reducible change wpList _ _ _ (Oper.mk (some 26) _ _ _ _ _ :: _) _ _); refine kGtrI _ _ _ _ .i64 (nl : Int) 500 false rfl rfl rfl rfl d26 ?_; go_frame)
    | ((with_reducible change wpList _ _ _ (Oper.mk (some 30) _ _ _ _ _ :: _) _ _); refine kLenN _ _ _ lx _ no rfl rfl rfl (hlx.below hB_12) (by rw [List.length_map, hno]) Tryd.underlying28 ?_; go_frame)
    | ((with_reducible change wpList _ _ _ (Oper.mk (some 31) _ _ _ _ _ :: _) _ _); refine kGtrI _ _ _ _ .i64 (no : Int) 500 true rfl rfl rfl rfl d31 ?_; go_frame))
  (try simp only [Exit.inBlock, Exit.then])
  refine retBT rfl rfl ?_
  exact ⟨rfl, hB_12⟩
set_option maxRecDepth 100000 in
set_option maxHeartbeats 8000000 in
theorem txSigned_no3 {t : TxP} {a b lu lx : Value} {i : Int} {lock other : List UInt8} {zs : List (InP × Value)} {ys : List ((Int × List UInt8) × Value)} {nl no NI NO : Nat} (W0 : World) (hK : Keys W0) (ht : t.Is) (ha : InsOf W0 a t.ins) (hb : OutsOf W0 b t.outs) (hlu : IsVals W0 lu (lock.map VB)) (hlx : IsVals W0 lx (other.map VB)) (hzr : IsRows 35 W0 a (zs.map inR)) (hyr : IsRows 2 W0 b (ys.map outR)) (hnl : lock.length = nl) (hno : other.length = no) (hNI : zs.length = NI) (hNO : ys.length = NO) (hg : greatB t = false) (d26 : decide ((nl : Int) > 500) = false) (d31 : decide ((no : Int) > 500) = false) (d35 : decide (i < 0) = true) : Calls Tryd.prog 7 #[.agg (txC t.version a b t.end'), .int .i64 i, .agg #[lu, lx]] W0 (BoolPost W0 true) := by
  have hB00 := Below.refl W0.heap.size W0
  go_enter Tryd.func7, Tryd.ntmps7
  go_wp2_with (first
    | ((with_reducible change wpList _ _ _ (Oper.mk (some 3) _ _ _ _ _ :: _) _ _); refine kBoxL _ _ _ rfl rfl rfl ?_; intro y1 hV3 hzq hBq; clear hzq; have hB_1 := hB00.trans (hBq.mono hB00.size); clear hB00 hBq; go_frame)
    | ((with_reducible change wpList _ _ _ (Oper.mk (some 5) _ _ _ _ _ :: _) _ _); refine kBoxL _ _ _ rfl rfl rfl ?_; intro y2 hV5 hzq hBq; clear hzq; have hV3_2 := hV3.below hBq hV3.lt; have hB_3 := hB_1.trans (hBq.mono hB_1.size); clear hV3 hB_1 hBq; go_frame)
    | (go_at_call 12; refine (txAlive_any _ (hK.below hB_3)).mono ?_; rintro e y3 ⟨rfl, hBq⟩; have hV3_4 := hV3_2.below hBq hV3_2.lt; have hV5_5 := hV5.below hBq hV5.lt; have hB_6 := hB_3.trans (hBq.mono hB_3.size); clear hV3_2 hV5 hB_3 hBq; go_frame)
    | ((with_reducible change wpList _ _ _ (Oper.mk (some 16) _ _ _ _ _ :: _) _ _); refine kNot _ _ true rfl rfl rfl ?_; go_frame))
  refine region_mixD [(0, true), (1, true), (2, true), (3, true), (4, true), (5, true)] (fun w => (Row w W0.heap.size 26 (txC t.version a b t.end')) ∧ (Row w y1.heap.size 61 (#[lu, lx]))) (by kernel_rfl) (by kernel_rfl) rfl ?_
  intro z0 hBd hsd
  clear hsd
  have hV3_7 := hV3_4.below hBd hV3_4.lt
  have hV5_8 := hV5_5.below hBd hV5_5.lt
  have hB_9 := hB_6.trans (hBd.mono hB_6.size)
  clear hV3_4 hV5_5 hB_6 hBd
  simp only [List.map_cons, List.map_nil]
  dsimp only [List.filterMap, List.getElem?_cons_zero, List.getElem?_cons_succ]
  have hS : (Row z0 W0.heap.size 26 (txC t.version a b t.end')) ∧ (Row z0 y1.heap.size 61 (#[lu, lx])) := ⟨hV3_7, hV5_8⟩
  refine dY _ hS (yIndexLocks _ _ y1.heap.size 0 (by decide) rfl rfl rfl rfl) ?_; go_frame
  refine dY _ hS (yLoad1 _ _ _ _ 0 _ lu _ rfl rfl rfl (fun _ h => h.2) Tryd.underlying28 rfl rfl) ?_; go_frame
  refine dY _ hS (yIndexLocks _ _ y1.heap.size 1 (by decide) rfl rfl rfl rfl) ?_; go_frame
  refine dY _ hS (yLoad1 _ _ _ _ 1 _ lx _ rfl rfl rfl (fun _ h => h.2) Tryd.underlying28 rfl rfl) ?_; go_frame
  refine dY _ hS (yAssign _ lu rfl rfl rfl) ?_; go_frame
  refine dY _ hS (yAssign _ lx rfl rfl rfl) ?_; go_frame
  refine dDone ?_
  go_wp2_with (first
    | ((with_reducible change wpList _ _ _ (Oper.mk (some 21) _ _ _ _ _ :: _) _ _); refine kLoadRow _ _ _ _ (txC t.version a b t.end') _ rfl rfl rfl hV3_7 Tryd.underlying26 rfl info_TxC ?_; go_frame)
    | (go_at_call 15; refine (great_any (t := t) _ (ha.below hB_9) (hb.below hB_9)).mono ?_; rintro e y4 ⟨rfl, hBq⟩; have hV3_10 := hV3_7.below hBq hV3_7.lt; have hV5_11 := hV5_8.below hBq hV5_8.lt; have hB_12 := hB_9.trans (hBq.mono hB_9.size); clear hV3_7 hV5_8 hB_9 hBq; rw [hg]; go_frame)
    | ((with_reducible change wpList _ _ _ (Oper.mk (some 25) _ _ _ _ _ :: _) _ _); refine kLenN _ _ _ lu _ nl rfl rfl rfl (hlu.below hB_12) (by rw [List.length_map, hnl]) Tryd.underlying28 ?_; go_frame)
    | ((with_reducible change wpList _ _ _ (Oper.mk (some 26) _ _ _ _ _ :: _) _ _); refine kGtrI _ _ _ _ .i64 (nl : Int) 500 false rfl rfl rfl rfl d26 ?_; go_frame)
    | ((with_reducible change wpList _ _ _ (Oper.mk (some 30) _ _ _ _ _ :: _) _ _); refine kLenN _ _ _ lx _ no rfl rfl rfl (hlx.below hB_12) (by rw [List.length_map, hno]) Tryd.underlying28 ?_; go_frame)
    | ((with_reducible change wpList _ _ _ (Oper.mk (some 31) _ _ _ _ _ :: _) _ _); refine kGtrI _ _ _ _ .i64 (no : Int) 500 false rfl rfl rfl rfl d31 ?_; go_frame)
    | ((with_reducible change wpList _ _ _ (Oper.mk (some 35) _ _ _ _ _ :: _) _ _); refine kLssI _ _ _ _ .i64 i 0 true rfl rfl rfl rfl d35 ?_; go_frame))
  (try simp only [Exit.inBlock, Exit.then])
  refine retBT rfl rfl ?_
  exact ⟨rfl, hB_12⟩
set_option maxRecDepth 100000 in
set_option maxHeartbeats 8000000 in
theorem txSigned_no4 {t : TxP} {a b lu lx : Value} {i : Int} {lock other : List UInt8} {zs : List (InP × Value)} {ys : List ((Int × List UInt8) × Value)} {nl no NI NO : Nat} (W0 : World) (hK : Keys W0) (ht : t.Is) (ha : InsOf W0 a t.ins) (hb : OutsOf W0 b t.outs) (hlu : IsVals W0 lu (lock.map VB)) (hlx : IsVals W0 lx (other.map VB)) (hzr : IsRows 35 W0 a (zs.map inR)) (hyr : IsRows 2 W0 b (ys.map outR)) (hnl : lock.length = nl) (hno : other.length = no) (hNI : zs.length = NI) (hNO : ys.length = NO) (hg : greatB t = false) (d26 : decide ((nl : Int) > 500) = false) (d31 : decide ((no : Int) > 500) = false) (d35 : decide (i < 0) = false) (d42 : decide (i ≥ (NI : Int)) = true) : Calls Tryd.prog 7 #[.agg (txC t.version a b t.end'), .int .i64 i, .agg #[lu, lx]] W0 (BoolPost W0 true) := by
  have hB00 := Below.refl W0.heap.size W0
  go_enter Tryd.func7, Tryd.ntmps7
  go_wp2_with (first
    | ((with_reducible change wpList _ _ _ (Oper.mk (some 3) _ _ _ _ _ :: _) _ _); refine kBoxL _ _ _ rfl rfl rfl ?_; intro y1 hV3 hzq hBq; clear hzq; have hB_1 := hB00.trans (hBq.mono hB00.size); clear hB00 hBq; go_frame)
    | ((with_reducible change wpList _ _ _ (Oper.mk (some 5) _ _ _ _ _ :: _) _ _); refine kBoxL _ _ _ rfl rfl rfl ?_; intro y2 hV5 hzq hBq; clear hzq; have hV3_2 := hV3.below hBq hV3.lt; have hB_3 := hB_1.trans (hBq.mono hB_1.size); clear hV3 hB_1 hBq; go_frame)
    | (go_at_call 12; refine (txAlive_any _ (hK.below hB_3)).mono ?_; rintro e y3 ⟨rfl, hBq⟩; have hV3_4 := hV3_2.below hBq hV3_2.lt; have hV5_5 := hV5.below hBq hV5.lt; have hB_6 := hB_3.trans (hBq.mono hB_3.size); clear hV3_2 hV5 hB_3 hBq; go_frame)
    | ((with_reducible change wpList _ _ _ (Oper.mk (some 16) _ _ _ _ _ :: _) _ _); refine kNot _ _ true rfl rfl rfl ?_; go_frame))
  refine region_mixD [(0, true), (1, true), (2, true), (3, true), (4, true), (5, true)] (fun w => (Row w W0.heap.size 26 (txC t.version a b t.end')) ∧ (Row w y1.heap.size 61 (#[lu, lx]))) (by kernel_rfl) (by kernel_rfl) rfl ?_
  intro z0 hBd hsd
  clear hsd
  have hV3_7 := hV3_4.below hBd hV3_4.lt
  have hV5_8 := hV5_5.below hBd hV5_5.lt
  have hB_9 := hB_6.trans (hBd.mono hB_6.size)
  clear hV3_4 hV5_5 hB_6 hBd
  simp only [List.map_cons, List.map_nil]
  dsimp only [List.filterMap, List.getElem?_cons_zero, List.getElem?_cons_succ]
  have hS : (Row z0 W0.heap.size 26 (txC t.version a b t.end')) ∧ (Row z0 y1.heap.size 61 (#[lu, lx])) := ⟨hV3_7, hV5_8⟩
  refine dY _ hS (yIndexLocks _ _ y1.heap.size 0 (by decide) rfl rfl rfl rfl) ?_; go_frame
  refine dY _ hS (yLoad1 _ _ _ _ 0 _ lu _ rfl rfl rfl (fun _ h => h.2) Tryd.underlying28 rfl rfl) ?_; go_frame
  refine dY _ hS (yIndexLocks _ _ y1.heap.size 1 (by decide) rfl rfl rfl rfl) ?_; go_frame
  refine dY _ hS (yLoad1 _ _ _ _ 1 _ lx _ rfl rfl rfl (fun _ h => h.2) Tryd.underlying28 rfl rfl) ?_; go_frame
  refine dY _ hS (yAssign _ lu rfl rfl rfl) ?_; go_frame
  refine dY _ hS (yAssign _ lx rfl rfl rfl) ?_; go_frame
  refine dDone ?_
  go_wp2_with (first
    | ((with_reducible change wpList _ _ _ (Oper.mk (some 21) _ _ _ _ _ :: _) _ _); refine kLoadRow _ _ _ _ (txC t.version a b t.end') _ rfl rfl rfl hV3_7 Tryd.underlying26 rfl info_TxC ?_; go_frame)
    | (go_at_call 15; refine (great_any (t := t) _ (ha.below hB_9) (hb.below hB_9)).mono ?_; rintro e y4 ⟨rfl, hBq⟩; have hV3_10 := hV3_7.below hBq hV3_7.lt; have hV5_11 := hV5_8.below hBq hV5_8.lt; have hB_12 := hB_9.trans (hBq.mono hB_9.size); clear hV3_7 hV5_8 hB_9 hBq; rw [hg]; go_frame)
    | ((with_reducible change wpList _ _ _ (Oper.mk (some 25) _ _ _ _ _ :: _) _ _); refine kLenN _ _ _ lu _ nl rfl rfl rfl (hlu.below hB_12) (by rw [List.length_map, hnl]) Tryd.underlying28 ?_; go_frame)
    | ((with_reducible change wpList _ _ _ (Oper.mk (some 26) _ _ _ _ _ :: _) _ _); refine kGtrI _ _ _ _ .i64 (nl : Int) 500 false rfl rfl rfl rfl d26 ?_; go_frame)
    | ((with_reducible change wpList _ _ _ (Oper.mk (some 30) _ _ _ _ _ :: _) _ _); refine kLenN _ _ _ lx _ no rfl rfl rfl (hlx.below hB_12) (by rw [List.length_map, hno]) Tryd.underlying28 ?_; go_frame)
    | ((with_reducible change wpList _ _ _ (Oper.mk (some 31) _ _ _ _ _ :: _) _ _); refine kGtrI _ _ _ _ .i64 (no : Int) 500 false rfl rfl rfl rfl d31 ?_; go_frame)
    | ((with_reducible change wpList _ _ _ (Oper.mk (some 35) _ _ _ _ _ :: _) _ _); refine kLssI _ _ _ _ .i64 i 0 false rfl rfl rfl rfl d35 ?_; go_frame)
    | ((with_reducible change wpList _ _ _ (Oper.mk (some 39) _ _ _ _ _ :: _) _ _); refine kFld txCF1 _ _ 0 1 rfl rfl rfl rfl ?_; go_frame)
    | ((with_reducible change wpList _ _ _ (Oper.mk (some 40) _ _ _ _ _ :: _) _ _); refine kLd Tryd.underlying23 rfl _ _ 1 _ a hV3_10 rfl rfl rfl rfl ?_; go_frame)
    | ((with_reducible change wpList _ _ _ (Oper.mk (some 41) _ _ _ _ _ :: _) _ _); refine kLenRows (n := 35) Tryd.underlying23 _ a _ NI (hzr.below hB_12) (by rw [List.length_map, hNI]) rfl rfl rfl ?_; go_frame)
    | ((with_reducible change wpList _ _ _ (Oper.mk (some 42) _ _ _ _ _ :: _) _ _); refine kGeqI _ _ _ _ .i64 i (NI : Int) true rfl rfl rfl rfl d42 ?_; go_frame))
  (try simp only [Exit.inBlock, Exit.then])
  refine retBT rfl rfl ?_
  exact ⟨rfl, hB_12⟩
set_option maxRecDepth 100000 in
set_option maxHeartbeats 8000000 in
theorem txSigned_no5 {t : TxP} {a b lu lx : Value} {i : Int} {lock other : List UInt8} {zs : List (InP × Value)} {ys : List ((Int × List UInt8) × Value)} {nl no NI NO : Nat} (W0 : World) (hK : Keys W0) (ht : t.Is) (ha : InsOf W0 a t.ins) (hb : OutsOf W0 b t.outs) (hlu : IsVals W0 lu (lock.map VB)) (hlx : IsVals W0 lx (other.map VB)) (hzr : IsRows 35 W0 a (zs.map inR)) (hyr : IsRows 2 W0 b (ys.map outR)) (hnl : lock.length = nl) (hno : other.length = no) (hNI : zs.length = NI) (hNO : ys.length = NO) (hg : greatB t = false) (d26 : decide ((nl : Int) > 500) = false) (d31 : decide ((no : Int) > 500) = false) (d35 : decide (i < 0) = false) (d42 : decide (i ≥ (NI : Int)) = false) (d48 : decide ((NO : Int) = 0) = true) : Calls Tryd.prog 7 #[.agg (txC t.version a b t.end'), .int .i64 i, .agg #[lu, lx]] W0 (BoolPost W0 true) := by
  have hB00 := Below.refl W0.heap.size W0
  go_enter Tryd.func7, Tryd.ntmps7
  go_wp2_with (first
    | ((with_reducible change wpList _ _ _ (Oper.mk (some 3) _ _ _ _ _ :: _) _ _); refine kBoxL _ _ _ rfl rfl rfl ?_; intro y1 hV3 hzq hBq; clear hzq; have hB_1 := hB00.trans (hBq.mono hB00.size); clear hB00 hBq; go_frame)
    | ((with_reducible change wpList _ _ _ (Oper.mk (some 5) _ _ _ _ _ :: _) _ _); refine kBoxL _ _ _ rfl rfl rfl ?_; intro y2 hV5 hzq hBq; clear hzq; have hV3_2 := hV3.below hBq hV3.lt; have hB_3 := hB_1.trans (hBq.mono hB_1.size); clear hV3 hB_1 hBq; go_frame)
    | (go_at_call 12; refine (txAlive_any _ (hK.below hB_3)).mono ?_; rintro e y3 ⟨rfl, hBq⟩; have hV3_4 := hV3_2.below hBq hV3_2.lt; have hV5_5 := hV5.below hBq hV5.lt; have hB_6 := hB_3.trans (hBq.mono hB_3.size); clear hV3_2 hV5 hB_3 hBq; go_frame)
    | ((with_reducible change wpList _ _ _ (Oper.mk (some 16) _ _ _ _ _ :: _) _ _); refine kNot _ _ true rfl rfl rfl ?_; go_frame))
  refine region_mixD [(0, true), (1, true), (2, true), (3, true), (4, true), (5, true)] (fun w => (Row w W0.heap.size 26 (txC t.version a b t.end')) ∧ (Row w y1.heap.size 61 (#[lu, lx]))) (by kernel_rfl) (by kernel_rfl) rfl ?_
  intro z0 hBd hsd
  clear hsd
  have hV3_7 := hV3_4.below hBd hV3_4.lt
  have hV5_8 := hV5_5.below hBd hV5_5.lt
  have hB_9 := hB_6.trans (hBd.mono hB_6.size)
  clear hV3_4 hV5_5 hB_6 hBd
  simp only [List.map_cons, List.map_nil]
  dsimp only [List.filterMap, List.getElem?_cons_zero, List.getElem?_cons_succ]
  have hS : (Row z0 W0.heap.size 26 (txC t.version a b t.end')) ∧ (Row z0 y1.heap.size 61 (#[lu, lx])) := ⟨hV3_7, hV5_8⟩
  refine dY _ hS (yIndexLocks _ _ y1.heap.size 0 (by decide) rfl rfl rfl rfl) ?_; go_frame
  refine dY _ hS (yLoad1 _ _ _ _ 0 _ lu _ rfl rfl rfl (fun _ h => h.2) Tryd.underlying28 rfl rfl) ?_; go_frame
  refine dY _ hS (yIndexLocks _ _ y1.heap.size 1 (by decide) rfl rfl rfl rfl) ?_; go_frame
  refine dY _ hS (yLoad1 _ _ _ _ 1 _ lx _ rfl rfl rfl (fun _ h => h.2) Tryd.underlying28 rfl rfl) ?_; go_frame
  refine dY _ hS (yAssign _ lu rfl rfl rfl) ?_; go_frame
  refine dY _ hS (yAssign _ lx rfl rfl rfl) ?_; go_frame
  refine dDone ?_
  go_wp2_with (first
    | ((with_reducible change wpList _ _ _ (Oper.mk (some 21) _ _ _ _ _ :: _) _ _); refine kLoadRow _ _ _ _ (txC t.version a b t.end') _ rfl rfl rfl hV3_7 Tryd.underlying26 rfl info_TxC ?_; go_frame)
    | (go_at_call 15; refine (great_any (t := t) _ (ha.below hB_9) (hb.below hB_9)).mono ?_; rintro e y4 ⟨rfl, hBq⟩; have hV3_10 := hV3_7.below hBq hV3_7.lt; have hV5_11 := hV5_8.below hBq hV5_8.lt; have hB_12 := hB_9.trans (hBq.mono hB_9.size); clear hV3_7 hV5_8 hB_9 hBq; rw [hg]; go_frame)
    | ((with_reducible change wpList _ _ _ (Oper.mk (some 25) _ _ _ _ _ :: _) _ _); refine kLenN _ _ _ lu _ nl rfl rfl rfl (hlu.below hB_12) (by rw [List.length_map, hnl]) Tryd.underlying28 ?_; go_frame)
    | ((with_reducible change wpList _ _ _ (Oper.mk (some 26) _ _ _ _ _ :: _) _ _); refine kGtrI _ _ _ _ .i64 (nl : Int) 500 false rfl rfl rfl rfl d26 ?_; go_frame)
    | ((with_reducible change wpList _ _ _ (Oper.mk (some 30) _ _ _ _ _ :: _) _ _); refine kLenN _ _ _ lx _ no rfl rfl rfl (hlx.below hB_12) (by rw [List.length_map, hno]) Tryd.underlying28 ?_; go_frame)
    | ((with_reducible change wpList _ _ _ (Oper.mk (some 31) _ _ _ _ _ :: _) _ _); refine kGtrI _ _ _ _ .i64 (no : Int) 500 false rfl rfl rfl rfl d31 ?_; go_frame)
    | ((with_reducible change wpList _ _ _ (Oper.mk (some 35) _ _ _ _ _ :: _) _ _); refine kLssI _ _ _ _ .i64 i 0 false rfl rfl rfl rfl d35 ?_; go_frame)
    | ((with_reducible change wpList _ _ _ (Oper.mk (some 39) _ _ _ _ _ :: _) _ _); refine kFld txCF1 _ _ 0 1 rfl rfl rfl rfl ?_; go_frame)
    | ((with_reducible change wpList _ _ _ (Oper.mk (some 40) _ _ _ _ _ :: _) _ _); refine kLd Tryd.underlying23 rfl _ _ 1 _ a hV3_10 rfl rfl rfl rfl ?_; go_frame)
    | ((with_reducible change wpList _ _ _ (Oper.mk (some 41) _ _ _ _ _ :: _) _ _); refine kLenRows (n := 35) Tryd.underlying23 _ a _ NI (hzr.below hB_12) (by rw [List.length_map, hNI]) rfl rfl rfl ?_; go_frame)
    | ((with_reducible change wpList _ _ _ (Oper.mk (some 42) _ _ _ _ _ :: _) _ _); refine kGeqI _ _ _ _ .i64 i (NI : Int) false rfl rfl rfl rfl d42 ?_; go_frame)
    | ((with_reducible change wpList _ _ _ (Oper.mk (some 45) _ _ _ _ _ :: _) _ _); refine kFld txCF2 _ _ 0 2 rfl rfl rfl rfl ?_; go_frame)
    | ((with_reducible change wpList _ _ _ (Oper.mk (some 46) _ _ _ _ _ :: _) _ _); refine kLd Tryd.underlying24 rfl _ _ 2 _ b hV3_10 rfl rfl rfl rfl ?_; go_frame)
    | ((with_reducible change wpList _ _ _ (Oper.mk (some 47) _ _ _ _ _ :: _) _ _); refine kLenRows (n := 2) Tryd.underlying24 _ b _ NO (hyr.below hB_12) (by rw [List.length_map, hNO]) rfl rfl rfl ?_; go_frame)
    | ((with_reducible change wpList _ _ _ (Oper.mk (some 48) _ _ _ _ _ :: _) _ _); refine kEqlI _ _ _ _ .i64 (NO : Int) 0 true rfl rfl rfl rfl d48 ?_; go_frame))
  (try simp only [Exit.inBlock, Exit.then])
  refine retBT rfl rfl ?_
  exact ⟨rfl, hB_12⟩
set_option maxRecDepth 100000 in
set_option maxHeartbeats 8000000 in
theorem txSigned_main {t : TxP} {a b lu lx : Value} {k : Nat} {lock other : List UInt8} {zs : List (InP × Value)} {ys : List ((Int × List UInt8) × Value)} {nl no NI NO : Nat} (W0 : World) (hK : Keys W0) (ht : t.Is) (ha : InsOf W0 a t.ins) (hb : OutsOf W0 b t.outs) (hlu : IsVals W0 lu (lock.map VB)) (hlx : IsVals W0 lx (other.map VB)) (hzr : IsRows 35 W0 a (zs.map inR)) (hyr : IsRows 2 W0 b (ys.map outR)) (hnl : lock.length = nl) (hno : other.length = no) (hNI : zs.length = NI) (hNO : ys.length = NO) (hzs : zs.map Prod.fst = t.ins) (hyo : ys.map Prod.fst = t.outs) (hf : t.Fits) (hl2 : lock.length ≤ 2000) (ho2 : other.length ≤ 2000) (hzu : ∀ z ∈ zs, IsVals W0 z.2 (z.1.unlock.map VB)) (hyu : ∀ z ∈ ys, IsVals W0 z.2 (z.1.2.map VB)) (hN30 : zs.length ≤ 30) (hO30 : ys.length ≤ 30) (hg : greatB t = false) (d26 : decide ((nl : Int) > 500) = false) (d31 : decide ((no : Int) > 500) = false) (d35 : decide ((k : Int) < 0) = false) (d42 : decide ((k : Int) ≥ (NI : Int)) = false) (d48 : decide ((NO : Int) = 0) = false) : Calls Tryd.prog 7 #[.agg (txC t.version a b t.end'), .int .i64 (k : Int), .agg #[lu, lx]] W0 (BoolPost W0 true) := by
  obtain ⟨q, u0, yt, hys⟩ : ∃ q u0 yt, ys = (q, u0) :: yt := by
    match ys, hNO with
    | [], h => simp at h; subst h; simp at d48
    | (q, u0) :: yt, _ => exact ⟨q, u0, yt, rfl⟩
  have huI : (uT t other).Is := putI_is ht other
  have huF : (uT t other).Fits := putI_fits hf ho2
  have hos : t.outs = q :: yt.map Prod.fst := by rw [← hyo, hys]; rfl
  have hvI : (vT t q yt).Is := vT_is ht hos
  have hvF : (vT t q yt).Fits := vT_fits hf hos
  have hwI : (wT t).Is := ⟨ht.1, Nat.mod_lt _ (by decide), ht.2.2.1, ht.2.2.2⟩
  have hwF : (wT t).Fits := hf
  have hk30 : k < 30 := by have := of_decide_eq_false d42; omega
  obtain ⟨c1, hc1⟩ : ∃ c, decide (hashL (vT t q yt) (k : Int) lock = hashL t (k : Int) lock) = c := ⟨_, rfl⟩
  obtain ⟨c2, hc2⟩ : ∃ c, decide (hashL (wT t) (k : Int) lock = hashL t (k : Int) lock) = c := ⟨_, rfl⟩
  obtain ⟨c3, hc3⟩ : ∃ c, decide (hashL t ((k + 1 : Nat) : Int) lock = hashL t (k : Int) lock) = c := ⟨_, rfl⟩
  obtain ⟨c4, hc4⟩ : ∃ c, decide (hashL t (k : Int) other = hashL t (k : Int) lock) = c := ⟨_, rfl⟩
  obtain ⟨i0, zi0, hi0, -⟩ := rowInfo insInfo0
  obtain ⟨j0, zj0, hj0, -⟩ := rowInfo outInfo0
  have hB00 := Below.refl W0.heap.size W0
  go_enter Tryd.func7, Tryd.ntmps7
  go_wp2_with (first
    | ((with_reducible change wpList _ _ _ (Oper.mk (some 3) _ _ _ _ _ :: _) _ _); refine kBoxL _ _ _ rfl rfl rfl ?_; intro y1 hV3 hzq hBq; clear hzq; have hB_1 := hB00.trans (hBq.mono hB00.size); clear hB00 hBq; go_frame)
    | ((with_reducible change wpList _ _ _ (Oper.mk (some 5) _ _ _ _ _ :: _) _ _); refine kBoxL _ _ _ rfl rfl rfl ?_; intro y2 hV5 hzq hBq; clear hzq; have hV3_2 := hV3.below hBq hV3.lt; have hB_3 := hB_1.trans (hBq.mono hB_1.size); clear hV3 hB_1 hBq; go_frame)
    | (go_at_call 12; refine (txAlive_any _ (hK.below hB_3)).mono ?_; rintro e y3 ⟨rfl, hBq⟩; have hV3_4 := hV3_2.below hBq hV3_2.lt; have hV5_5 := hV5.below hBq hV5.lt; have hB_6 := hB_3.trans (hBq.mono hB_3.size); clear hV3_2 hV5 hB_3 hBq; go_frame)
    | ((with_reducible change wpList _ _ _ (Oper.mk (some 16) _ _ _ _ _ :: _) _ _); refine kNot _ _ true rfl rfl rfl ?_; go_frame))
  refine region_mixD [(0, true), (1, true), (2, true), (3, true), (4, true), (5, true)] (fun w => (Row w W0.heap.size 26 (txC t.version a b t.end')) ∧ (Row w y1.heap.size 61 (#[lu, lx]))) (by kernel_rfl) (by kernel_rfl) rfl ?_
  intro z0 hBd hsd
  clear hsd
  have hV3_7 := hV3_4.below hBd hV3_4.lt
  have hV5_8 := hV5_5.below hBd hV5_5.lt
  have hB_9 := hB_6.trans (hBd.mono hB_6.size)
  clear hV3_4 hV5_5 hB_6 hBd
  simp only [List.map_cons, List.map_nil]
  dsimp only [List.filterMap, List.getElem?_cons_zero, List.getElem?_cons_succ]
  have hS : (Row z0 W0.heap.size 26 (txC t.version a b t.end')) ∧ (Row z0 y1.heap.size 61 (#[lu, lx])) := ⟨hV3_7, hV5_8⟩
  refine dY _ hS (yIndexLocks _ _ y1.heap.size 0 (by decide) rfl rfl rfl rfl) ?_; go_frame
  refine dY _ hS (yLoad1 _ _ _ _ 0 _ lu _ rfl rfl rfl (fun _ h => h.2) Tryd.underlying28 rfl rfl) ?_; go_frame
  refine dY _ hS (yIndexLocks _ _ y1.heap.size 1 (by decide) rfl rfl rfl rfl) ?_; go_frame
  refine dY _ hS (yLoad1 _ _ _ _ 1 _ lx _ rfl rfl rfl (fun _ h => h.2) Tryd.underlying28 rfl rfl) ?_; go_frame
  refine dY _ hS (yAssign _ lu rfl rfl rfl) ?_; go_frame
  refine dY _ hS (yAssign _ lx rfl rfl rfl) ?_; go_frame
  refine dDone ?_
  go_wp2_with (first
    | ((with_reducible change wpList _ _ _ (Oper.mk (some 21) _ _ _ _ _ :: _) _ _); refine kLoadRow _ _ _ _ (txC t.version a b t.end') _ rfl rfl rfl hV3_7 Tryd.underlying26 rfl info_TxC ?_; go_frame)
    | (go_at_call 15; refine (great_any (t := t) _ (ha.below hB_9) (hb.below hB_9)).mono ?_; rintro e y4 ⟨rfl, hBq⟩; have hV3_10 := hV3_7.below hBq hV3_7.lt; have hV5_11 := hV5_8.below hBq hV5_8.lt; have hB_12 := hB_9.trans (hBq.mono hB_9.size); clear hV3_7 hV5_8 hB_9 hBq; rw [hg]; go_frame)
    | ((with_reducible change wpList _ _ _ (Oper.mk (some 25) _ _ _ _ _ :: _) _ _); refine kLenN _ _ _ lu _ nl rfl rfl rfl (hlu.below hB_12) (by rw [List.length_map, hnl]) Tryd.underlying28 ?_; go_frame)
    | ((with_reducible change wpList _ _ _ (Oper.mk (some 26) _ _ _ _ _ :: _) _ _); refine kGtrI _ _ _ _ .i64 (nl : Int) 500 false rfl rfl rfl rfl d26 ?_; go_frame)
    | ((with_reducible change wpList _ _ _ (Oper.mk (some 30) _ _ _ _ _ :: _) _ _); refine kLenN _ _ _ lx _ no rfl rfl rfl (hlx.below hB_12) (by rw [List.length_map, hno]) Tryd.underlying28 ?_; go_frame)
    | ((with_reducible change wpList _ _ _ (Oper.mk (some 31) _ _ _ _ _ :: _) _ _); refine kGtrI _ _ _ _ .i64 (no : Int) 500 false rfl rfl rfl rfl d31 ?_; go_frame)
    | ((with_reducible change wpList _ _ _ (Oper.mk (some 35) _ _ _ _ _ :: _) _ _); refine kLssI _ _ _ _ .i64 (k : Int) 0 false rfl rfl rfl rfl d35 ?_; go_frame)
    | ((with_reducible change wpList _ _ _ (Oper.mk (some 39) _ _ _ _ _ :: _) _ _); refine kFld txCF1 _ _ 0 1 rfl rfl rfl rfl ?_; go_frame)
    | ((with_reducible change wpList _ _ _ (Oper.mk (some 40) _ _ _ _ _ :: _) _ _); refine kLd Tryd.underlying23 rfl _ _ 1 _ a hV3_10 rfl rfl rfl rfl ?_; go_frame)
    | ((with_reducible change wpList _ _ _ (Oper.mk (some 41) _ _ _ _ _ :: _) _ _); refine kLenRows (n := 35) Tryd.underlying23 _ a _ NI (hzr.below hB_12) (by rw [List.length_map, hNI]) rfl rfl rfl ?_; go_frame)
    | ((with_reducible change wpList _ _ _ (Oper.mk (some 42) _ _ _ _ _ :: _) _ _); refine kGeqI _ _ _ _ .i64 (k : Int) (NI : Int) false rfl rfl rfl rfl d42 ?_; go_frame)
    | ((with_reducible change wpList _ _ _ (Oper.mk (some 45) _ _ _ _ _ :: _) _ _); refine kFld txCF2 _ _ 0 2 rfl rfl rfl rfl ?_; go_frame)
    | ((with_reducible change wpList _ _ _ (Oper.mk (some 46) _ _ _ _ _ :: _) _ _); refine kLd Tryd.underlying24 rfl _ _ 2 _ b hV3_10 rfl rfl rfl rfl ?_; go_frame)
    | ((with_reducible change wpList _ _ _ (Oper.mk (some 47) _ _ _ _ _ :: _) _ _); refine kLenRows (n := 2) Tryd.underlying24 _ b _ NO (hyr.below hB_12) (by rw [List.length_map, hNO]) rfl rfl rfl ?_; go_frame)
    | ((with_reducible change wpList _ _ _ (Oper.mk (some 48) _ _ _ _ _ :: _) _ _); refine kEqlI _ _ _ _ .i64 (NO : Int) 0 false rfl rfl rfl rfl d48 ?_; go_frame)
    | ((with_reducible change wpList _ _ _ (Oper.mk (some 50) _ _ _ _ _ :: _) _ _); refine kLoadRow _ _ _ _ (txC t.version a b t.end') _ rfl rfl rfl hV3_10 Tryd.underlying26 rfl info_TxC ?_; go_frame)
    | (go_at_call 23; refine (tHash_any (t := t) (i := (k : Int)) (lock := lock) _ ht hf (ha.below hB_12) (hb.below hB_12) (hlu.below hB_12) hl2 (hK.below hB_12)).mono ?_; rintro e y5 ⟨rfl, hBq⟩; have hV3_13 := hV3_10.below hBq hV3_10.lt; have hV5_14 := hV5_11.below hBq hV5_11.lt; have hB_15 := hB_12.trans (hBq.mono hB_12.size); clear hV3_10 hV5_11 hB_12 hBq; go_frame)
    | ((with_reducible change wpList _ _ _ (Oper.mk (some 9) _ _ _ _ _ :: _) _ _); refine kAllocL _ _ rfl rfl zero_Hash ?_; intro y6 hV9 hzq hBq; clear hzq; have hP := hBq; clear hBq; go_frame)
    | ((with_reducible change wpList _ _ _ (Oper.mk none (Op.store _ (Operand.tmp 9) _) _ _ _ _ :: _) _ _); refine kStoreRow _ _ _ _ _ _ _ rfl rfl rfl rfl hV9 (by rw [tab_size]; exact info_Hash) (by simp only [tab_size]) (tab_one _ _ fun _ _ => rfl) ?_; intro y7 hT9 hWq; have hPn := hP.trans (hWq.below (Nat.le_refl _)); clear hP; have hP := hPn; clear hPn; clear hWq hV9; have hV3_16 := hV3_13.below hP hV3_13.lt; have hV5_17 := hV5_14.below hP hV5_14.lt; have hB_18 := hB_15.trans (hP.mono hB_15.size); clear hV3_13 hV5_14 hB_15 hP; go_frame)
    | ((with_reducible change wpList _ _ _ (Oper.mk (some 54) _ _ _ _ _ :: _) _ _); refine kLoadRow _ _ _ _ (txC t.version a b t.end') _ rfl rfl rfl hV3_16 Tryd.underlying26 rfl info_TxC ?_; go_frame)
    | ((with_reducible change wpList _ _ _ (Oper.mk (some 10) _ _ _ _ _ :: _) _ _); refine kAllocL _ _ rfl rfl zero_TxC ?_; intro y8 hV10 hzq hBq; clear hzq; have hn10 : Hid (W0.heap.size ≠ y7.heap.size) := Nat.ne_of_lt hV3_16.lt; have hw10 : Hid (W0.heap.size ≤ y7.heap.size) := hB_18.size; have hP := hBq; clear hBq; go_frame)
    | ((with_reducible change wpList _ _ _ (Oper.mk none (Op.store _ (Operand.tmp 10) _) _ _ _ _ :: _) _ _); refine kStoreTx _ _ _ t.version t.end' a b _ hV10 rfl (ha.below hB_18).sl.one (hb.below hB_18).sl.one rfl rfl rfl rfl ?_; intro y9 hT10 hWq; have hPn := hP.trans (hWq.below (Nat.le_refl _)); clear hP; have hP := hPn; clear hPn; clear hWq hV10; have hV3_19 := hV3_16.below hP hV3_16.lt; have hV5_20 := hV5_17.below hP hV5_17.lt; have hT9_21 := hT9.below hP hT9.lt; have hB_22 := hB_18.trans (hP.mono hB_18.size); clear hV3_16 hV5_17 hT9 hB_18 hP; go_frame)
    | ((with_reducible change wpList _ _ _ (Oper.mk (some 55) _ _ _ _ _ :: _) _ _); refine kBuildSlice0 _ _ rfl rfl Tryd.underlying23 i0 hi0 ?_; intro w55 hR1 hz1 hC55; have hE55 := ownR_empty (n := 35) (Nat.le_refl _) hR1; have hwy55 : Hid (W0.heap.size ≤ y9.heap.size) := hB_22.size; clear hz1 hR1; go_frame)
    | ((with_reducible change wpList _ _ _ (Oper.mk (some 56) _ _ _ _ _ :: _) _ _); refine kFld txCF1 _ _ 0 1 rfl rfl rfl rfl ?_; go_frame)
    | ((with_reducible change wpList _ _ _ (Oper.mk (some 57) _ _ _ _ _ :: _) _ _); refine kLd Tryd.underlying23 rfl _ _ 1 _ a (hV3_19.below hC55 hV3_19.lt) rfl rfl rfl rfl ?_; go_frame)
    | ((with_reducible change wpList _ _ _ (Oper.mk (some 58) _ _ _ _ _ :: _) _ _); refine kAppIns _ _ rfl rfl y9.heap.size _ _ [] zs rfl hE55 rfl (hzr.below (hB_22.trans (hC55.mono hB_22.size))) (fun z hz => (hzu z hz).sl.one) (by simp; omega) hC55.size ?_; intro v58 w58 hO58 hBq hgq; clear hgq; have hD58 := hC55.trans hBq; have hF58 : OwnR 35 34 w58 y9.heap.size v58 (zs.map inR) := hO58; clear hBq hO58 hC55 hE55; have hV3_23 := hV3_19.below hD58 hV3_19.lt; have hV5_24 := hV5_20.below hD58 hV5_20.lt; have hT9_25 := hT9_21.below hD58 hT9_21.lt; have hT10_26 := hT10.below hD58 hT10.lt; have hB_27 := hB_22.trans (hD58.mono hB_22.size); clear hV3_19 hV5_20 hT9_21 hT10 hB_22 hD58; go_frame)
    | ((with_reducible change wpList _ _ _ (Oper.mk (some 59) _ _ _ _ _ :: _) _ _); refine kFld txCF1 _ _ 0 1 rfl rfl rfl rfl ?_; go_frame)
    | ((with_reducible change wpList _ _ _ (Oper.mk none (Op.store _ (Operand.tmp 59) _) _ _ _ _ :: _) _ _); refine kStore1 _ _ _ _ _ 1 _ v58 rfl rfl rfl rfl hT10_26 info_insC (by show 1 < 4; decide) hF58.rows.sl.one ?_; intro w59 hRw hWw; have hT59s : Row w59 y7.heap.size 26 (txC t.version v58 b t.end') := hRw; clear hRw; have hV3_28 := hWw.row hV3_23 hn10.out; have hV5_29 := hWw.row hV5_24 (row_neT hV5_24 hT10_26 (by decide)); have hT9_30 := hWw.row hT9_25 (row_neT hT9_25 hT10_26 (by decide)); have hF58_31 := ownR_wroteT hF58 hT10_26 (by decide) hWw; have hB_32 := hB_27.trans (hWw.below hw10.out); clear hV3_23 hV5_24 hT9_25 hF58 hB_27; clear hWw hT10_26; go_frame)
    | ((with_reducible change wpList _ _ _ (Oper.mk (some 60) _ _ _ _ _ :: _) _ _); refine kFld txCF1 _ _ 0 1 rfl rfl rfl rfl ?_; go_frame)
    | ((with_reducible change wpList _ _ _ (Oper.mk (some 61) _ _ _ _ _ :: _) _ _); refine kLd Tryd.underlying23 rfl _ _ 1 _ v58 hT59s rfl rfl rfl rfl ?_; go_frame)
    | ((with_reducible change wpList _ _ _ (Oper.mk (some 62) _ _ _ _ _ :: _) _ _); refine kLenRows (n := 35) Tryd.underlying23 _ v58 _ NI hF58_31.rows (by rw [List.length_map, hNI]) rfl rfl rfl ?_; go_frame))
  go_loopw [63] (fun x wr => ∃ j : Nat, j ≤ NI ∧ x = .int .i64 (j : Int) ∧ OwnR 35 34 wr y9.heap.size v58 (((zs.take j).map (pz other lx) ++ zs.drop j).map inR) ∧ (Row wr W0.heap.size 26 (txC t.version a b t.end')) ∧ (Row wr y1.heap.size 61 (#[lu, lx])) ∧ (Row wr y5.heap.size 30 (tab 32 fun p => VB (at8 ((hashL t (k : Int) lock)) p))) ∧ (Row wr y7.heap.size 26 (txC t.version v58 b t.end')) ∧ Below W0.heap.size W0 wr) (fun x _ => NI - (intOf x).toNat)
  case atStart => exact ⟨0, by omega, rfl, by simpa using hF58_31, hV3_28, hV5_29, hT9_30, hT59s, hB_32⟩
  case round =>
    clear hF58_31 hV3_28 hV5_29 hT9_30 hT59s hB_32
    obtain ⟨j, hj, rfl, hO, m3, m5, m9, m10, mB⟩ := hrel
    by_cases hlt : j < NI
    · have hd : decide ((j : Int) < (NI : Int)) = true := by simp; omega
      obtain ⟨⟨ij, uj⟩, hz⟩ : ∃ z, zs[j]? = some z := ⟨_, List.getElem?_eq_getElem (by omega)⟩
      have hat : (((zs.take j).map (pz other lx) ++ zs.drop j).map inR)[j]? = some (inR (ij, uj)) := by rw [List.getElem?_map, pz_at hz]; rfl
      obtain ⟨gI, oI, cI, hrun, hbg, hrow, hoff, hput⟩ := own_put (u := lx) hO hat
      have hset : (((zs.take j).map (pz other lx) ++ zs.drop j).map inR).set j ((inR (ij, uj)).set 33 lx) = ((zs.take (j + 1)).map (pz other lx) ++ zs.drop (j + 1)).map inR := by
        rw [inR_put ij uj lx other, ← pz_step (m := other) (v := lx) hz, List.map_set]; rfl
      rw [hset] at hput
      clear hset hat
      go_wp2_with (first
        | ((with_reducible change wpList _ _ _ (Oper.mk (some 64) _ _ _ _ _ :: _) _ _); refine kLssI _ _ _ _ .i64 (j : Int) (NI : Int) true rfl rfl rfl rfl hd ?_; go_frame)
        | ((with_reducible change wpList _ _ _ (Oper.mk (some 66) _ _ _ _ _ :: _) _ _); refine kFld txCF1 _ _ 0 1 rfl rfl rfl rfl ?_; go_frame)
        | ((with_reducible change wpList _ _ _ (Oper.mk (some 67) _ _ _ _ _ :: _) _ _); refine kLd Tryd.underlying23 rfl _ _ 1 _ v58 m10 rfl rfl rfl rfl ?_; go_frame)
        | ((with_reducible change wpList _ _ _ (Oper.mk (some 70) _ _ _ _ _ :: _) _ _); refine kIndexRun _ _ _ v58 _ _ hrun rfl rfl rfl rfl ?_; go_frame)
        | ((with_reducible change wpList _ _ _ (Oper.mk (some 71) _ _ _ _ _ :: _) _ _); refine kFld inCF1 _ gI oI (oI + 33) rfl rfl rfl rfl ?_; go_frame)
        | ((with_reducible change wpList _ _ _ (Oper.mk none (Op.store _ (Operand.tmp 71) _) _ _ _ _ :: _) _ _); refine kStore1 _ _ _ _ gI (oI + 33) cI lx rfl rfl rfl rfl hrow info_bytesP hoff hlx.sl.one ?_; intro w71 hRw hWw; have hO5 := hput w71 hRw; have n3 := hWw.row m3 (row_neT m3 hrow (by decide)); have n5 := hWw.row m5 (row_neT m5 hrow (by decide)); have n9 := hWw.row m9 (row_neT m9 hrow (by decide)); have n10 := hWw.row m10 (row_neT m10 hrow (by decide)); have nB := mB.trans (hWw.below (Nat.le_trans hwy55.out hbg)); clear hput hrun hrow hWw hRw m3 m5 m9 m10 mB hO; go_frame)
        | ((with_reducible change wpList _ _ _ (Oper.mk (some 72) _ _ _ _ _ :: _) _ _); refine kAddI _ _ _ _ (j : Int) 1 ((j + 1 : Nat) : Int) (by omega) rfl rfl rfl rfl ?_; go_frame))
      go_roundw
      case rel => exact ⟨j + 1, by omega, rfl, hO5, n3, n5, n9, n10, nB⟩
      case measure => simp [intOf]; omega
    · have hd : decide ((j : Int) < (NI : Int)) = false := by simp; omega
      rw [List.take_of_length_le (by omega), List.drop_of_length_le (by omega), List.append_nil] at hO
      clear hj hlt
      go_wp2_with (first
        | ((with_reducible change wpList _ _ _ (Oper.mk (some 64) _ _ _ _ _ :: _) _ _); refine kLssI _ _ _ _ .i64 (j : Int) (NI : Int) false rfl rfl rfl rfl hd ?_; go_frame)
        | ((with_reducible change wpList _ _ _ (Oper.mk (some 73) _ _ _ _ _ :: _) _ _); refine kLoadRow _ _ _ _ (txC t.version a b t.end') _ rfl rfl rfl m3 Tryd.underlying26 rfl info_TxC ?_; go_frame)
        | ((with_reducible change wpList _ _ _ (Oper.mk (some 12) _ _ _ _ _ :: _) _ _); refine kAllocL _ _ rfl rfl zero_TxC ?_; intro y10 hV12 hzq hBq; clear hzq; have hn3_12 : Hid (W0.heap.size ≠ wr.heap.size) := Nat.ne_of_lt m3.lt; have hn10_12 : Hid (y7.heap.size ≠ wr.heap.size) := Nat.ne_of_lt m10.lt; have hw12 : Hid (W0.heap.size ≤ wr.heap.size) := mB.size; have hP := hBq; clear hBq; go_frame)
        | ((with_reducible change wpList _ _ _ (Oper.mk none (Op.store _ (Operand.tmp 12) _) _ _ _ _ :: _) _ _); refine kStoreTx _ _ _ t.version t.end' a b _ hV12 rfl (ha.below mB).sl.one (hb.below mB).sl.one rfl rfl rfl rfl ?_; intro y11 hT12 hWq; have hPn := hP.trans (hWq.below (Nat.le_refl _)); clear hP; have hP := hPn; clear hPn; clear hWq hV12; have hV3_33 := m3.below hP m3.lt; have hV5_34 := m5.below hP m5.lt; have hT9_35 := m9.below hP m9.lt; have hT10_36 := m10.below hP m10.lt; have hF58_37 := hO.below hP; have hB_38 := mB.trans (hP.mono mB.size); clear m3 m5 m9 m10 hO mB hP; go_frame)
        | ((with_reducible change wpList _ _ _ (Oper.mk (some 74) _ _ _ _ _ :: _) _ _); refine kBuildSlice0 _ _ rfl rfl Tryd.underlying24 j0 hj0 ?_; intro w74 hR1 hz1 hC74; have hE74 := ownR_empty (n := 2) (Nat.le_refl _) hR1; have hwy74 : Hid (W0.heap.size ≤ y11.heap.size) := hB_38.size; clear hz1 hR1; go_frame)
        | ((with_reducible change wpList _ _ _ (Oper.mk (some 75) _ _ _ _ _ :: _) _ _); refine kFld txCF2 _ _ 0 2 rfl rfl rfl rfl ?_; go_frame)
        | ((with_reducible change wpList _ _ _ (Oper.mk (some 76) _ _ _ _ _ :: _) _ _); refine kLd Tryd.underlying24 rfl _ _ 2 _ b (hV3_33.below hC74 hV3_33.lt) rfl rfl rfl rfl ?_; go_frame)
        | ((with_reducible change wpList _ _ _ (Oper.mk (some 77) _ _ _ _ _ :: _) _ _); refine kAppOuts _ _ rfl rfl y11.heap.size _ _ [] ys rfl hE74 rfl (hyr.below (hB_38.trans (hC74.mono hB_38.size))) (fun z hz => (hyu z hz).sl.one) (by simp; omega) hC74.size ?_; intro v77 w77 hO77 hBq hgq; clear hgq; have hD77 := hC74.trans hBq; have hF77 : OwnR 2 36 w77 y11.heap.size v77 (ys.map outR) := hO77; clear hBq hO77 hC74 hE74; have hV3_39 := hV3_33.below hD77 hV3_33.lt; have hV5_40 := hV5_34.below hD77 hV5_34.lt; have hT9_41 := hT9_35.below hD77 hT9_35.lt; have hT10_42 := hT10_36.below hD77 hT10_36.lt; have hF58_43 := hF58_37.below hD77; have hT12_44 := hT12.below hD77 hT12.lt; have hB_45 := hB_38.trans (hD77.mono hB_38.size); clear hV3_33 hV5_34 hT9_35 hT10_36 hF58_37 hT12 hB_38 hD77; go_frame)
        | ((with_reducible change wpList _ _ _ (Oper.mk (some 78) _ _ _ _ _ :: _) _ _); refine kFld txCF2 _ _ 0 2 rfl rfl rfl rfl ?_; go_frame)
        | ((with_reducible change wpList _ _ _ (Oper.mk none (Op.store _ (Operand.tmp 78) _) _ _ _ _ :: _) _ _); refine kStore1 _ _ _ _ _ 2 _ v77 rfl rfl rfl rfl hT12_44 info_outsC (by show 2 < 4; decide) hF77.rows.sl.one ?_; intro w78 hRw hWw; have hT78s : Row w78 wr.heap.size 26 (txC t.version a v77 t.end') := hRw; clear hRw; have hV3_46 := hWw.row hV3_39 hn3_12.out; have hV5_47 := hWw.row hV5_40 (row_neT hV5_40 hT12_44 (by decide)); have hT9_48 := hWw.row hT9_41 (row_neT hT9_41 hT12_44 (by decide)); have hT10_49 := hWw.row hT10_42 hn10_12.out; have hF58_50 := ownR_wroteT hF58_43 hT12_44 (by decide) hWw; have hF77_51 := ownR_wroteT hF77 hT12_44 (by decide) hWw; have hB_52 := hB_45.trans (hWw.below hw12.out); clear hV3_39 hV5_40 hT9_41 hT10_42 hF58_43 hF77 hB_45; clear hWw hT12_44; go_frame)
        | ((with_reducible change wpList _ _ _ (Oper.mk (some 79) _ _ _ _ _ :: _) _ _); refine kFld txCF2 _ _ 0 2 rfl rfl rfl rfl ?_; go_frame)
        | ((with_reducible change wpList _ _ _ (Oper.mk (some 80) _ _ _ _ _ :: _) _ _); refine kLd Tryd.underlying24 rfl _ _ 2 _ v77 hT78s rfl rfl rfl rfl ?_; go_frame)
        | ((with_reducible change wpList _ _ _ (Oper.mk (some 81) _ _ _ _ _ :: _) _ _); obtain ⟨gO, oO, cO, hrO, hbO, hRO, hoO, hcO, hpO⟩ := own_putV (u := .int .i64 (xor64 q.1 1)) (k := 0) (r := outR (q, u0)) hF77_51 (by rw [hys]; rfl); have hwO : Hid (W0.heap.size ≤ gO) := Nat.le_trans hwy74.out hbO; have hoQ : Hid (oO + 0 < cO.size) := hoO; clear hbO hoO; refine kIndexRun _ _ _ v77 _ _ hrO rfl rfl rfl rfl ?_; go_frame)
        | ((with_reducible change wpList _ _ _ (Oper.mk (some 82) _ _ _ _ _ :: _) _ _); refine kFld outCF0 _ gO oO (oO + 0) rfl rfl rfl rfl ?_; go_frame)
        | ((with_reducible change wpList _ _ _ (Oper.mk (some 83) _ _ _ _ _ :: _) _ _); refine kLd Tryd.underlying2 rfl _ gO (oO + 0) _ (.int .i64 q.1) hRO (hcO _ rfl) rfl rfl rfl ?_; go_frame)
        | ((with_reducible change wpList _ _ _ (Oper.mk (some 84) _ _ _ _ _ :: _) _ _); refine kXorI64 _ _ _ _ q.1 1 rfl rfl rfl rfl ?_; go_frame)
        | ((with_reducible change wpList _ _ _ (Oper.mk (some 85) _ _ _ _ _ :: _) _ _); refine kIndexRun _ _ _ v77 _ _ hrO rfl rfl rfl rfl ?_; go_frame)
        | ((with_reducible change wpList _ _ _ (Oper.mk (some 86) _ _ _ _ _ :: _) _ _); refine kFld outCF0 _ gO oO (oO + 0) rfl rfl rfl rfl ?_; go_frame)
        | ((with_reducible change wpList _ _ _ (Oper.mk none (Op.store _ (Operand.tmp 86) _) _ _ _ _ :: _) _ _); refine kStore1 _ _ _ _ gO (oO + 0) cO (.int .i64 (xor64 q.1 1)) rfl rfl rfl rfl hRO info_i64C hoQ.out rfl ?_; intro w86 hRw hWw; have hF86 : OwnR 2 36 w86 y11.heap.size v77 ((((xor64 q.1 1, q.2), u0) :: yt).map outR) := (by have h9 := hpO w86 hRw; rw [hys] at h9; exact h9); have hV3_53 := hWw.row hV3_46 (row_neT hV3_46 hRO (by decide)); have hV5_54 := hWw.row hV5_47 (row_neT hV5_47 hRO (by decide)); have hT9_55 := hWw.row hT9_48 (row_neT hT9_48 hRO (by decide)); have hT10_56 := hWw.row hT10_49 (row_neT hT10_49 hRO (by decide)); have hF58_57 := ownR_wroteT hF58_50 hRO (by decide) hWw; have hT12_58 := hWw.row hT78s (row_neT hT78s hRO (by decide)); have hB_59 := hB_52.trans (hWw.below hwO.out); clear hpO hrO hcO hRw hRO hWw hV3_46 hV5_47 hT9_48 hT10_49 hF58_50 hT78s hB_52 hF77_51; go_frame)
        | ((with_reducible change wpList _ _ _ (Oper.mk (some 87) _ _ _ _ _ :: _) _ _); refine kLoadRow _ _ _ _ (txC t.version a b t.end') _ rfl rfl rfl hV3_53 Tryd.underlying26 rfl info_TxC ?_; go_frame)
        | ((with_reducible change wpList _ _ _ (Oper.mk (some 13) _ _ _ _ _ :: _) _ _); refine kAllocL _ _ rfl rfl zero_TxC ?_; intro y12 hV13 hzq hBq; clear hzq; have hn3_13 : Hid (W0.heap.size ≠ w86.heap.size) := Nat.ne_of_lt hV3_53.lt; have hn10_13 : Hid (y7.heap.size ≠ w86.heap.size) := Nat.ne_of_lt hT10_56.lt; have hn12_13 : Hid (wr.heap.size ≠ w86.heap.size) := Nat.ne_of_lt hT12_58.lt; have hw13 : Hid (W0.heap.size ≤ w86.heap.size) := hB_59.size; have hP := hBq; clear hBq; go_frame)
        | ((with_reducible change wpList _ _ _ (Oper.mk none (Op.store _ (Operand.tmp 13) _) _ _ _ _ :: _) _ _); refine kStoreTx _ _ _ t.version t.end' a b _ hV13 rfl (ha.below hB_59).sl.one (hb.below hB_59).sl.one rfl rfl rfl rfl ?_; intro y13 hT13 hWq; have hPn := hP.trans (hWq.below (Nat.le_refl _)); clear hP; have hP := hPn; clear hPn; clear hWq hV13; have hV3_60 := hV3_53.below hP hV3_53.lt; have hV5_61 := hV5_54.below hP hV5_54.lt; have hT9_62 := hT9_55.below hP hT9_55.lt; have hT10_63 := hT10_56.below hP hT10_56.lt; have hF58_64 := hF58_57.below hP; have hT12_65 := hT12_58.below hP hT12_58.lt; have hF77_66 := hF86.below hP; have hB_67 := hB_59.trans (hP.mono hB_59.size); clear hV3_53 hV5_54 hT9_55 hT10_56 hF58_57 hT12_58 hF86 hB_59 hP; go_frame)
        | ((with_reducible change wpList _ _ _ (Oper.mk (some 88) _ _ _ _ _ :: _) _ _); refine kFld txCF3 _ _ 0 3 rfl rfl rfl rfl ?_; go_frame)
        | ((with_reducible change wpList _ _ _ (Oper.mk (some 89) _ _ _ _ _ :: _) _ _); refine kLd Tryd.underlying22 rfl _ _ 3 _ (.int .u32 ((t.end' : Int))) hT13 rfl rfl rfl rfl ?_; go_frame)
        | ((with_reducible change wpList _ _ _ (Oper.mk (some 90) _ _ _ _ _ :: _) _ _); refine kAddU32 _ _ _ _ t.end' 1 rfl rfl rfl rfl ?_; go_frame)
        | ((with_reducible change wpList _ _ _ (Oper.mk (some 91) _ _ _ _ _ :: _) _ _); refine kFld txCF3 _ _ 0 3 rfl rfl rfl rfl ?_; go_frame)
        | ((with_reducible change wpList _ _ _ (Oper.mk none (Op.store _ (Operand.tmp 91) _) _ _ _ _ :: _) _ _); refine kStore1 _ _ _ _ _ 3 _ (.int .u32 (((t.end' + 1) % 4294967296 : Nat) : Int)) rfl rfl rfl rfl hT13 info_u32C (by show 3 < 4; decide) rfl ?_; intro w91 hRw hWw; have hT13s : Row w91 w86.heap.size 26 (txC t.version a b ((t.end' + 1) % 4294967296)) := hRw; clear hRw; have hV3_68 := hWw.row hV3_60 hn3_13.out; have hV5_69 := hWw.row hV5_61 (row_neT hV5_61 hT13 (by decide)); have hT9_70 := hWw.row hT9_62 (row_neT hT9_62 hT13 (by decide)); have hT10_71 := hWw.row hT10_63 hn10_13.out; have hF58_72 := ownR_wroteT hF58_64 hT13 (by decide) hWw; have hT12_73 := hWw.row hT12_65 hn12_13.out; have hF77_74 := ownR_wroteT hF77_66 hT13 (by decide) hWw; have hB_75 := hB_67.trans (hWw.below hw13.out); clear hV3_60 hV5_61 hT9_62 hT10_63 hF58_64 hT12_65 hF77_66 hB_67; clear hWw hT13; go_frame)
        | ((with_reducible change wpList _ _ _ (Oper.mk (some 92) _ _ _ _ _ :: _) _ _); refine kLoadRow _ _ _ _ (txC t.version a b t.end') _ rfl rfl rfl hV3_68 Tryd.underlying26 rfl info_TxC ?_; go_frame)
        | (go_at_call 24; refine (yHash_any (t := t) (i := (k : Int)) (lock := lock) _ ht hf (ha.below hB_75) (hb.below hB_75) (hlu.below hB_75) hl2).mono ?_; rintro e y14 ⟨rfl, hBq⟩; have hV3_76 := hV3_68.below hBq hV3_68.lt; have hV5_77 := hV5_69.below hBq hV5_69.lt; have hT9_78 := hT9_70.below hBq hT9_70.lt; have hT10_79 := hT10_71.below hBq hT10_71.lt; have hF58_80 := hF58_72.below hBq; have hT12_81 := hT12_73.below hBq hT12_73.lt; have hF77_82 := hF77_74.below hBq; have hT13_83 := hT13s.below hBq hT13s.lt; have hB_84 := hB_75.trans (hBq.mono hB_75.size); clear hV3_68 hV5_69 hT9_70 hT10_71 hF58_72 hT12_73 hF77_74 hT13s hB_75 hBq; go_frame)
        | ((with_reducible change wpList _ _ _ (Oper.mk (some 14) _ _ _ _ _ :: _) _ _); refine kAllocL _ _ rfl rfl zero_Hash ?_; intro y15 hV14 hzq hBq; clear hzq; have hP := hBq; clear hBq; go_frame)
        | ((with_reducible change wpList _ _ _ (Oper.mk none (Op.store _ (Operand.tmp 14) _) _ _ _ _ :: _) _ _); refine kStoreRow _ _ _ _ _ _ _ rfl rfl rfl rfl hV14 (by rw [tab_size]; exact info_Hash) (by simp only [tab_size]) (tab_one _ _ fun _ _ => rfl) ?_; intro y16 hT14 hWq; have hPn := hP.trans (hWq.below (Nat.le_refl _)); clear hP; have hP := hPn; clear hPn; clear hWq hV14; have hV3_85 := hV3_76.below hP hV3_76.lt; have hV5_86 := hV5_77.below hP hV5_77.lt; have hT9_87 := hT9_78.below hP hT9_78.lt; have hT10_88 := hT10_79.below hP hT10_79.lt; have hF58_89 := hF58_80.below hP; have hT12_90 := hT12_81.below hP hT12_81.lt; have hF77_91 := hF77_82.below hP; have hT13_92 := hT13_83.below hP hT13_83.lt; have hB_93 := hB_84.trans (hP.mono hB_84.size); clear hV3_76 hV5_77 hT9_78 hT10_79 hF58_80 hT12_81 hF77_82 hT13_83 hB_84 hP; go_frame))
      have hIu : InsOf _ v58 (uT t other).ins := insOf_pz hzs hF58_89 (hlx.below hB_93)
      have hOv : OutsOf _ v77 (vT t q yt).outs := ⟨((xor64 q.1 1, q.2), u0) :: yt, rfl, hF77_91.rows, fun z hz => by
        rcases List.mem_cons.1 hz with rfl | hz
        · exact (hyu (q, u0) (by rw [hys]; simp)).below hB_93
        · exact (hyu z (by rw [hys]; simp [hz])).below hB_93⟩
      clear hF58_89 hF77_91
      go_wp2
      refine region_mixD [(0, true), (1, true), (2, true), (4, true), (3, false), (5, true), (6, true), (7, true), (8, true), (9, true), (11, true), (13, true), (14, true), (15, true), (17, true), (10, false), (12, true), (16, false), (18, true), (19, true), (20, true), (21, true), (22, true), (23, true), (24, true), (26, true), (28, true), (29, true), (30, true), (32, true), (25, false), (27, true), (31, false), (33, true), (34, true), (35, true)] (fun w => (Row w W0.heap.size 26 (txC t.version a b t.end')) ∧ (Row w y1.heap.size 61 (#[lu, lx])) ∧ (Row w y5.heap.size 30 (tab 32 fun p => VB (at8 ((hashL t (k : Int) lock)) p))) ∧ (Row w y7.heap.size 26 (txC t.version v58 b t.end')) ∧ (Row w wr.heap.size 26 (txC t.version a v77 t.end')) ∧ (Row w w86.heap.size 26 (txC t.version a b ((t.end' + 1) % 4294967296))) ∧ (Row w y14.heap.size 30 (tab 32 fun p => VB (at8 ((hashL t (k : Int) lock)) p)))) (by kernel_rfl) (by kernel_rfl) rfl ?_
      intro z0 hBd hsd
      clear hsd
      have hV3_94 := hV3_85.below hBd hV3_85.lt
      have hV5_95 := hV5_86.below hBd hV5_86.lt
      have hT9_96 := hT9_87.below hBd hT9_87.lt
      have hT10_97 := hT10_88.below hBd hT10_88.lt
      have hT12_98 := hT12_90.below hBd hT12_90.lt
      have hT13_99 := hT13_92.below hBd hT13_92.lt
      have hT14_100 := hT14.below hBd hT14.lt
      have hIu_101 := hIu.below hBd
      have hOv_102 := hOv.below hBd
      have hB_103 := hB_93.trans (hBd.mono hB_93.size)
      clear hV3_85 hV5_86 hT9_87 hT10_88 hT12_90 hT13_92 hT14 hIu hOv hB_93 hBd
      simp only [List.map_cons, List.map_nil]
      dsimp only [List.filterMap, List.getElem?_cons_zero, List.getElem?_cons_succ]
      have hS : (Row z0 W0.heap.size 26 (txC t.version a b t.end')) ∧ (Row z0 y1.heap.size 61 (#[lu, lx])) ∧ (Row z0 y5.heap.size 30 (tab 32 fun p => VB (at8 ((hashL t (k : Int) lock)) p))) ∧ (Row z0 y7.heap.size 26 (txC t.version v58 b t.end')) ∧ (Row z0 wr.heap.size 26 (txC t.version a v77 t.end')) ∧ (Row z0 w86.heap.size 26 (txC t.version a b ((t.end' + 1) % 4294967296))) ∧ (Row z0 y14.heap.size 30 (tab 32 fun p => VB (at8 ((hashL t (k : Int) lock)) p))) := ⟨hV3_94, hV5_95, hT9_96, hT10_97, hT12_98, hT13_99, hT14_100⟩
      refine dY _ hS (yLoadRowC Tryd.underlying26 rfl _ _ (txC t.version v58 b t.end') info_TxC (fun _ h => h.2.2.2.1) rfl rfl rfl) ?_; go_frame
      refine dY _ hS (yMove _ (.int .i64 ((k : Int))) rfl rfl rfl) ?_; go_frame
      refine dY _ hS (yMove _ lu rfl rfl rfl) ?_; go_frame
      refine dY _ hS (yLoadRowC Tryd.underlying30 rfl _ _ (tab 32 fun p => VB (at8 ((hashL t (k : Int) lock)) p)) info_HashT (fun _ h => h.2.2.1) rfl rfl rfl) ?_; go_frame
      refine dLoud ?_
      refine kCall3 23 _ _ _ _ _ _ _ rfl rfl (by kernel_rfl) rfl rfl rfl ?_
      refine (tHash_any (t := (uT t other)) (i := (k : Int)) (lock := lock) _ huI huF hIu_101 (hb.below hB_103) (hlu.below hB_103) hl2 (hK.below hB_103)).mono ?_
      rintro e y17 ⟨rfl, hBq⟩
      clear hS
      have hV3_104 := hV3_94.below hBq hV3_94.lt
      have hV5_105 := hV5_95.below hBq hV5_95.lt
      have hT9_106 := hT9_96.below hBq hT9_96.lt
      have hT10_107 := hT10_97.below hBq hT10_97.lt
      have hT12_108 := hT12_98.below hBq hT12_98.lt
      have hT13_109 := hT13_99.below hBq hT13_99.lt
      have hT14_110 := hT14_100.below hBq hT14_100.lt
      have hIu_111 := hIu_101.below hBq
      have hOv_112 := hOv_102.below hBq
      have hB_113 := hB_103.trans (hBq.mono hB_103.size)
      clear hV3_94 hV5_95 hT9_96 hT10_97 hT12_98 hT13_99 hT14_100 hIu_101 hOv_102 hB_103 hBq
      rw [hashL_uT]
      have hS : (Row y17 W0.heap.size 26 (txC t.version a b t.end')) ∧ (Row y17 y1.heap.size 61 (#[lu, lx])) ∧ (Row y17 y5.heap.size 30 (tab 32 fun p => VB (at8 ((hashL t (k : Int) lock)) p))) ∧ (Row y17 y7.heap.size 26 (txC t.version v58 b t.end')) ∧ (Row y17 wr.heap.size 26 (txC t.version a v77 t.end')) ∧ (Row y17 w86.heap.size 26 (txC t.version a b ((t.end' + 1) % 4294967296))) ∧ (Row y17 y14.heap.size 30 (tab 32 fun p => VB (at8 ((hashL t (k : Int) lock)) p))) := ⟨hV3_104, hV5_105, hT9_106, hT10_107, hT12_108, hT13_109, hT14_110⟩
      refine ⟨_, rfl, mixOn ⟨(fun w => (Row w W0.heap.size 26 (txC t.version a b t.end')) ∧ (Row w y1.heap.size 61 (#[lu, lx])) ∧ (Row w y5.heap.size 30 (tab 32 fun p => VB (at8 ((hashL t (k : Int) lock)) p))) ∧ (Row w y7.heap.size 26 (txC t.version v58 b t.end')) ∧ (Row w wr.heap.size 26 (txC t.version a v77 t.end')) ∧ (Row w w86.heap.size 26 (txC t.version a b ((t.end' + 1) % 4294967296))) ∧ (Row w y14.heap.size 30 (tab 32 fun p => VB (at8 ((hashL t (k : Int) lock)) p)))), (fun _ h => ⟨h.1, h.2.1, h.2.2.1, h.2.2.2.1, h.2.2.2.2.1, h.2.2.2.2.2.1, h.2.2.2.2.2.2⟩), hS, ?_⟩⟩
      go_frame
      refine dY _ hS (yNeqHash _ _ _ (hashL t (k : Int) lock) (hashL t (k : Int) lock) false (sha_len _) (sha_len _) rfl rfl rfl rfl (by simp)) ?_; go_frame
      refine dY _ hS (yMove _ (.bool false) rfl rfl rfl) ?_; go_frame
      refine dY _ hS (yLoadRowC Tryd.underlying26 rfl _ _ (txC t.version a v77 t.end') info_TxC (fun _ h => h.2.2.2.2.1) rfl rfl rfl) ?_; go_frame
      refine dY _ hS (yMove _ (.int .i64 ((k : Int))) rfl rfl rfl) ?_; go_frame
      refine dY _ hS (yMove _ lu rfl rfl rfl) ?_; go_frame
      refine dY _ hS (yLoadRowC Tryd.underlying30 rfl _ _ (tab 32 fun p => VB (at8 ((hashL t (k : Int) lock)) p)) info_HashT (fun _ h => h.2.2.1) rfl rfl rfl) ?_; go_frame
      refine dY _ hS (yLoadRowC Tryd.underlying26 rfl _ _ (txC t.version a v77 t.end') info_TxC (fun _ h => h.2.2.2.2.1) rfl rfl rfl) ?_; go_frame
      refine dY _ hS (yMove _ (.int .i64 ((k : Int))) rfl rfl rfl) ?_; go_frame
      refine dY _ hS (yMove _ lu rfl rfl rfl) ?_; go_frame
      refine dY _ hS (yLoadRowC Tryd.underlying30 rfl _ _ (tab 32 fun p => VB (at8 ((hashL t (k : Int) lock)) p)) info_HashT (fun _ h => h.2.2.2.2.2.2) rfl rfl rfl) ?_; go_frame
      refine dLoud ?_
      refine kCall3 23 _ _ _ _ _ _ _ rfl rfl (by kernel_rfl) rfl rfl rfl ?_
      refine (tHash_any (t := (vT t q yt)) (i := (k : Int)) (lock := lock) _ hvI hvF (ha.below hB_113) hOv_112 (hlu.below hB_113) hl2 (hK.below hB_113)).mono ?_
      rintro e y18 ⟨rfl, hBq⟩
      clear hS
      have hV3_114 := hV3_104.below hBq hV3_104.lt
      have hV5_115 := hV5_105.below hBq hV5_105.lt
      have hT9_116 := hT9_106.below hBq hT9_106.lt
      have hT10_117 := hT10_107.below hBq hT10_107.lt
      have hT12_118 := hT12_108.below hBq hT12_108.lt
      have hT13_119 := hT13_109.below hBq hT13_109.lt
      have hT14_120 := hT14_110.below hBq hT14_110.lt
      have hIu_121 := hIu_111.below hBq
      have hOv_122 := hOv_112.below hBq
      have hB_123 := hB_113.trans (hBq.mono hB_113.size)
      clear hV3_104 hV5_105 hT9_106 hT10_107 hT12_108 hT13_109 hT14_110 hIu_111 hOv_112 hB_113 hBq
      have hS : (Row y18 W0.heap.size 26 (txC t.version a b t.end')) ∧ (Row y18 y1.heap.size 61 (#[lu, lx])) ∧ (Row y18 y5.heap.size 30 (tab 32 fun p => VB (at8 ((hashL t (k : Int) lock)) p))) ∧ (Row y18 y7.heap.size 26 (txC t.version v58 b t.end')) ∧ (Row y18 wr.heap.size 26 (txC t.version a v77 t.end')) ∧ (Row y18 w86.heap.size 26 (txC t.version a b ((t.end' + 1) % 4294967296))) ∧ (Row y18 y14.heap.size 30 (tab 32 fun p => VB (at8 ((hashL t (k : Int) lock)) p))) := ⟨hV3_114, hV5_115, hT9_116, hT10_117, hT12_118, hT13_119, hT14_120⟩
      refine ⟨_, rfl, mixOn ⟨(fun w => (Row w W0.heap.size 26 (txC t.version a b t.end')) ∧ (Row w y1.heap.size 61 (#[lu, lx])) ∧ (Row w y5.heap.size 30 (tab 32 fun p => VB (at8 ((hashL t (k : Int) lock)) p))) ∧ (Row w y7.heap.size 26 (txC t.version v58 b t.end')) ∧ (Row w wr.heap.size 26 (txC t.version a v77 t.end')) ∧ (Row w w86.heap.size 26 (txC t.version a b ((t.end' + 1) % 4294967296))) ∧ (Row w y14.heap.size 30 (tab 32 fun p => VB (at8 ((hashL t (k : Int) lock)) p)))), (fun _ h => ⟨h.1, h.2.1, h.2.2.1, h.2.2.2.1, h.2.2.2.2.1, h.2.2.2.2.2.1, h.2.2.2.2.2.2⟩), hS, ?_⟩⟩
      go_frame
      refine dY _ hS (yEqlHash _ _ _ (hashL (vT t q yt) (k : Int) lock) (hashL t (k : Int) lock) c1 (sha_len _) (sha_len _) rfl rfl rfl rfl hc1) ?_; go_frame
      refine dLoud ?_
      refine kCall3 24 _ _ _ _ _ _ _ rfl rfl (by kernel_rfl) rfl rfl rfl ?_
      refine (yHash_any (t := (vT t q yt)) (i := (k : Int)) (lock := lock) _ hvI hvF (ha.below hB_123) hOv_122 (hlu.below hB_123) hl2).mono ?_
      rintro e y19 ⟨rfl, hBq⟩
      clear hS
      have hV3_124 := hV3_114.below hBq hV3_114.lt
      have hV5_125 := hV5_115.below hBq hV5_115.lt
      have hT9_126 := hT9_116.below hBq hT9_116.lt
      have hT10_127 := hT10_117.below hBq hT10_117.lt
      have hT12_128 := hT12_118.below hBq hT12_118.lt
      have hT13_129 := hT13_119.below hBq hT13_119.lt
      have hT14_130 := hT14_120.below hBq hT14_120.lt
      have hIu_131 := hIu_121.below hBq
      have hOv_132 := hOv_122.below hBq
      have hB_133 := hB_123.trans (hBq.mono hB_123.size)
      clear hV3_114 hV5_115 hT9_116 hT10_117 hT12_118 hT13_119 hT14_120 hIu_121 hOv_122 hB_123 hBq
      have hS : (Row y19 W0.heap.size 26 (txC t.version a b t.end')) ∧ (Row y19 y1.heap.size 61 (#[lu, lx])) ∧ (Row y19 y5.heap.size 30 (tab 32 fun p => VB (at8 ((hashL t (k : Int) lock)) p))) ∧ (Row y19 y7.heap.size 26 (txC t.version v58 b t.end')) ∧ (Row y19 wr.heap.size 26 (txC t.version a v77 t.end')) ∧ (Row y19 w86.heap.size 26 (txC t.version a b ((t.end' + 1) % 4294967296))) ∧ (Row y19 y14.heap.size 30 (tab 32 fun p => VB (at8 ((hashL t (k : Int) lock)) p))) := ⟨hV3_124, hV5_125, hT9_126, hT10_127, hT12_128, hT13_129, hT14_130⟩
      refine ⟨_, rfl, mixOn ⟨(fun w => (Row w W0.heap.size 26 (txC t.version a b t.end')) ∧ (Row w y1.heap.size 61 (#[lu, lx])) ∧ (Row w y5.heap.size 30 (tab 32 fun p => VB (at8 ((hashL t (k : Int) lock)) p))) ∧ (Row w y7.heap.size 26 (txC t.version v58 b t.end')) ∧ (Row w wr.heap.size 26 (txC t.version a v77 t.end')) ∧ (Row w w86.heap.size 26 (txC t.version a b ((t.end' + 1) % 4294967296))) ∧ (Row w y14.heap.size 30 (tab 32 fun p => VB (at8 ((hashL t (k : Int) lock)) p)))), (fun _ h => ⟨h.1, h.2.1, h.2.2.1, h.2.2.2.1, h.2.2.2.2.1, h.2.2.2.2.2.1, h.2.2.2.2.2.2⟩), hS, ?_⟩⟩
      go_frame
      refine dY _ hS (yEqlHash _ _ _ (hashL (vT t q yt) (k : Int) lock) (hashL t (k : Int) lock) c1 (sha_len _) (sha_len _) rfl rfl rfl rfl hc1) ?_; go_frame
      refine dY _ hS (yNeqBoolT _ _ _ _ c1 c1 false rfl rfl rfl rfl Tryd.underlying4 (by simp)) ?_; go_frame
      refine dY _ hS (yPick _ _ _ false (.bool false) rfl rfl rfl rfl) ?_; go_frame
      refine dY _ hS (yMove _ (.bool false) rfl rfl rfl) ?_; go_frame
      refine dY _ hS (yLoadRowC Tryd.underlying26 rfl _ _ (txC t.version a b ((t.end' + 1) % 4294967296)) info_TxC (fun _ h => h.2.2.2.2.2.1) rfl rfl rfl) ?_; go_frame
      refine dY _ hS (yMove _ (.int .i64 ((k : Int))) rfl rfl rfl) ?_; go_frame
      refine dY _ hS (yMove _ lu rfl rfl rfl) ?_; go_frame
      refine dY _ hS (yLoadRowC Tryd.underlying30 rfl _ _ (tab 32 fun p => VB (at8 ((hashL t (k : Int) lock)) p)) info_HashT (fun _ h => h.2.2.1) rfl rfl rfl) ?_; go_frame
      refine dY _ hS (yLoadRowC Tryd.underlying26 rfl _ _ (txC t.version a b ((t.end' + 1) % 4294967296)) info_TxC (fun _ h => h.2.2.2.2.2.1) rfl rfl rfl) ?_; go_frame
      refine dY _ hS (yMove _ (.int .i64 ((k : Int))) rfl rfl rfl) ?_; go_frame
      refine dY _ hS (yMove _ lu rfl rfl rfl) ?_; go_frame
      refine dY _ hS (yLoadRowC Tryd.underlying30 rfl _ _ (tab 32 fun p => VB (at8 ((hashL t (k : Int) lock)) p)) info_HashT (fun _ h => h.2.2.2.2.2.2) rfl rfl rfl) ?_; go_frame
      refine dLoud ?_
      refine kCall3 23 _ _ _ _ _ _ _ rfl rfl (by kernel_rfl) rfl rfl rfl ?_
      refine (tHash_any (t := (wT t)) (i := (k : Int)) (lock := lock) _ hwI hwF (ha.below hB_133) (hb.below hB_133) (hlu.below hB_133) hl2 (hK.below hB_133)).mono ?_
      rintro e y20 ⟨rfl, hBq⟩
      clear hS
      have hV3_134 := hV3_124.below hBq hV3_124.lt
      have hV5_135 := hV5_125.below hBq hV5_125.lt
      have hT9_136 := hT9_126.below hBq hT9_126.lt
      have hT10_137 := hT10_127.below hBq hT10_127.lt
      have hT12_138 := hT12_128.below hBq hT12_128.lt
      have hT13_139 := hT13_129.below hBq hT13_129.lt
      have hT14_140 := hT14_130.below hBq hT14_130.lt
      have hIu_141 := hIu_131.below hBq
      have hOv_142 := hOv_132.below hBq
      have hB_143 := hB_133.trans (hBq.mono hB_133.size)
      clear hV3_124 hV5_125 hT9_126 hT10_127 hT12_128 hT13_129 hT14_130 hIu_131 hOv_132 hB_133 hBq
      have hS : (Row y20 W0.heap.size 26 (txC t.version a b t.end')) ∧ (Row y20 y1.heap.size 61 (#[lu, lx])) ∧ (Row y20 y5.heap.size 30 (tab 32 fun p => VB (at8 ((hashL t (k : Int) lock)) p))) ∧ (Row y20 y7.heap.size 26 (txC t.version v58 b t.end')) ∧ (Row y20 wr.heap.size 26 (txC t.version a v77 t.end')) ∧ (Row y20 w86.heap.size 26 (txC t.version a b ((t.end' + 1) % 4294967296))) ∧ (Row y20 y14.heap.size 30 (tab 32 fun p => VB (at8 ((hashL t (k : Int) lock)) p))) := ⟨hV3_134, hV5_135, hT9_136, hT10_137, hT12_138, hT13_139, hT14_140⟩
      refine ⟨_, rfl, mixOn ⟨(fun w => (Row w W0.heap.size 26 (txC t.version a b t.end')) ∧ (Row w y1.heap.size 61 (#[lu, lx])) ∧ (Row w y5.heap.size 30 (tab 32 fun p => VB (at8 ((hashL t (k : Int) lock)) p))) ∧ (Row w y7.heap.size 26 (txC t.version v58 b t.end')) ∧ (Row w wr.heap.size 26 (txC t.version a v77 t.end')) ∧ (Row w w86.heap.size 26 (txC t.version a b ((t.end' + 1) % 4294967296))) ∧ (Row w y14.heap.size 30 (tab 32 fun p => VB (at8 ((hashL t (k : Int) lock)) p)))), (fun _ h => ⟨h.1, h.2.1, h.2.2.1, h.2.2.2.1, h.2.2.2.2.1, h.2.2.2.2.2.1, h.2.2.2.2.2.2⟩), hS, ?_⟩⟩
      go_frame
      refine dY _ hS (yEqlHash _ _ _ (hashL (wT t) (k : Int) lock) (hashL t (k : Int) lock) c2 (sha_len _) (sha_len _) rfl rfl rfl rfl hc2) ?_; go_frame
      refine dLoud ?_
      refine kCall3 24 _ _ _ _ _ _ _ rfl rfl (by kernel_rfl) rfl rfl rfl ?_
      refine (yHash_any (t := (wT t)) (i := (k : Int)) (lock := lock) _ hwI hwF (ha.below hB_143) (hb.below hB_143) (hlu.below hB_143) hl2).mono ?_
      rintro e y21 ⟨rfl, hBq⟩
      clear hS
      have hV3_144 := hV3_134.below hBq hV3_134.lt
      have hV5_145 := hV5_135.below hBq hV5_135.lt
      have hT9_146 := hT9_136.below hBq hT9_136.lt
      have hT10_147 := hT10_137.below hBq hT10_137.lt
      have hT12_148 := hT12_138.below hBq hT12_138.lt
      have hT13_149 := hT13_139.below hBq hT13_139.lt
      have hT14_150 := hT14_140.below hBq hT14_140.lt
      have hIu_151 := hIu_141.below hBq
      have hOv_152 := hOv_142.below hBq
      have hB_153 := hB_143.trans (hBq.mono hB_143.size)
      clear hV3_134 hV5_135 hT9_136 hT10_137 hT12_138 hT13_139 hT14_140 hIu_141 hOv_142 hB_143 hBq
      have hS : (Row y21 W0.heap.size 26 (txC t.version a b t.end')) ∧ (Row y21 y1.heap.size 61 (#[lu, lx])) ∧ (Row y21 y5.heap.size 30 (tab 32 fun p => VB (at8 ((hashL t (k : Int) lock)) p))) ∧ (Row y21 y7.heap.size 26 (txC t.version v58 b t.end')) ∧ (Row y21 wr.heap.size 26 (txC t.version a v77 t.end')) ∧ (Row y21 w86.heap.size 26 (txC t.version a b ((t.end' + 1) % 4294967296))) ∧ (Row y21 y14.heap.size 30 (tab 32 fun p => VB (at8 ((hashL t (k : Int) lock)) p))) := ⟨hV3_144, hV5_145, hT9_146, hT10_147, hT12_148, hT13_149, hT14_150⟩
      refine ⟨_, rfl, mixOn ⟨(fun w => (Row w W0.heap.size 26 (txC t.version a b t.end')) ∧ (Row w y1.heap.size 61 (#[lu, lx])) ∧ (Row w y5.heap.size 30 (tab 32 fun p => VB (at8 ((hashL t (k : Int) lock)) p))) ∧ (Row w y7.heap.size 26 (txC t.version v58 b t.end')) ∧ (Row w wr.heap.size 26 (txC t.version a v77 t.end')) ∧ (Row w w86.heap.size 26 (txC t.version a b ((t.end' + 1) % 4294967296))) ∧ (Row w y14.heap.size 30 (tab 32 fun p => VB (at8 ((hashL t (k : Int) lock)) p)))), (fun _ h => ⟨h.1, h.2.1, h.2.2.1, h.2.2.2.1, h.2.2.2.2.1, h.2.2.2.2.2.1, h.2.2.2.2.2.2⟩), hS, ?_⟩⟩
      go_frame
      refine dY _ hS (yEqlHash _ _ _ (hashL (wT t) (k : Int) lock) (hashL t (k : Int) lock) c2 (sha_len _) (sha_len _) rfl rfl rfl rfl hc2) ?_; go_frame
      refine dY _ hS (yNeqBoolT _ _ _ _ c2 c2 false rfl rfl rfl rfl Tryd.underlying4 (by simp)) ?_; go_frame
      refine dY _ hS (yPick _ _ _ false (.bool false) rfl rfl rfl rfl) ?_; go_frame
      refine dDone ?_
      go_wp2
      go_wp2
      refine region_mixD [(0, true), (1, true), (2, true), (3, true), (5, true), (7, true), (8, true), (9, true), (10, true), (12, true), (4, false), (6, true), (11, false), (13, true), (14, true), (15, true), (16, true), (17, true), (18, true), (20, true), (22, true), (23, true), (24, true), (26, true), (19, false), (21, true), (25, false), (27, true), (28, true), (29, true), (30, true)] (fun w => (Row w W0.heap.size 26 (txC t.version a b t.end')) ∧ (Row w y1.heap.size 61 (#[lu, lx])) ∧ (Row w y5.heap.size 30 (tab 32 fun p => VB (at8 ((hashL t (k : Int) lock)) p))) ∧ (Row w y7.heap.size 26 (txC t.version v58 b t.end')) ∧ (Row w wr.heap.size 26 (txC t.version a v77 t.end')) ∧ (Row w w86.heap.size 26 (txC t.version a b ((t.end' + 1) % 4294967296))) ∧ (Row w y14.heap.size 30 (tab 32 fun p => VB (at8 ((hashL t (k : Int) lock)) p)))) (by kernel_rfl) (by kernel_rfl) rfl ?_
      intro z0 hBd hsd
      clear hsd
      have hV3_154 := hV3_144.below hBd hV3_144.lt
      have hV5_155 := hV5_145.below hBd hV5_145.lt
      have hT9_156 := hT9_146.below hBd hT9_146.lt
      have hT10_157 := hT10_147.below hBd hT10_147.lt
      have hT12_158 := hT12_148.below hBd hT12_148.lt
      have hT13_159 := hT13_149.below hBd hT13_149.lt
      have hT14_160 := hT14_150.below hBd hT14_150.lt
      have hIu_161 := hIu_151.below hBd
      have hOv_162 := hOv_152.below hBd
      have hB_163 := hB_153.trans (hBd.mono hB_153.size)
      clear hV3_144 hV5_145 hT9_146 hT10_147 hT12_148 hT13_149 hT14_150 hIu_151 hOv_152 hB_153 hBd
      simp only [List.map_cons, List.map_nil]
      dsimp only [List.filterMap, List.getElem?_cons_zero, List.getElem?_cons_succ]
      have hS : (Row z0 W0.heap.size 26 (txC t.version a b t.end')) ∧ (Row z0 y1.heap.size 61 (#[lu, lx])) ∧ (Row z0 y5.heap.size 30 (tab 32 fun p => VB (at8 ((hashL t (k : Int) lock)) p))) ∧ (Row z0 y7.heap.size 26 (txC t.version v58 b t.end')) ∧ (Row z0 wr.heap.size 26 (txC t.version a v77 t.end')) ∧ (Row z0 w86.heap.size 26 (txC t.version a b ((t.end' + 1) % 4294967296))) ∧ (Row z0 y14.heap.size 30 (tab 32 fun p => VB (at8 ((hashL t (k : Int) lock)) p))) := ⟨hV3_154, hV5_155, hT9_156, hT10_157, hT12_158, hT13_159, hT14_160⟩
      refine dY _ hS (yLoadRowC Tryd.underlying26 rfl _ _ (txC t.version a b t.end') info_TxC (fun _ h => h.1) rfl rfl rfl) ?_; go_frame
      refine dY _ hS (yMove _ (.int .i64 ((k : Int))) rfl rfl rfl) ?_; go_frame
      refine dY _ hS (yAddI1 _ _ _ _ k (by omega) rfl rfl rfl rfl) ?_; go_frame
      refine dY _ hS (yMove _ lu rfl rfl rfl) ?_; go_frame
      refine dY _ hS (yLoadRowC Tryd.underlying30 rfl _ _ (tab 32 fun p => VB (at8 ((hashL t (k : Int) lock)) p)) info_HashT (fun _ h => h.2.2.1) rfl rfl rfl) ?_; go_frame
      refine dY _ hS (yLoadRowC Tryd.underlying26 rfl _ _ (txC t.version a b t.end') info_TxC (fun _ h => h.1) rfl rfl rfl) ?_; go_frame
      refine dY _ hS (yMove _ (.int .i64 ((k : Int))) rfl rfl rfl) ?_; go_frame
      refine dY _ hS (yAddI1 _ _ _ _ k (by omega) rfl rfl rfl rfl) ?_; go_frame
      refine dY _ hS (yMove _ lu rfl rfl rfl) ?_; go_frame
      refine dY _ hS (yLoadRowC Tryd.underlying30 rfl _ _ (tab 32 fun p => VB (at8 ((hashL t (k : Int) lock)) p)) info_HashT (fun _ h => h.2.2.2.2.2.2) rfl rfl rfl) ?_; go_frame
      refine dLoud ?_
      refine kCall3 23 _ _ _ _ _ _ _ rfl rfl (by kernel_rfl) rfl rfl rfl ?_
      refine (tHash_any (t := t) (i := ((k + 1 : Nat) : Int)) (lock := lock) _ ht hf (ha.below hB_163) (hb.below hB_163) (hlu.below hB_163) hl2 (hK.below hB_163)).mono ?_
      rintro e y22 ⟨rfl, hBq⟩
      clear hS
      have hV3_164 := hV3_154.below hBq hV3_154.lt
      have hV5_165 := hV5_155.below hBq hV5_155.lt
      have hT9_166 := hT9_156.below hBq hT9_156.lt
      have hT10_167 := hT10_157.below hBq hT10_157.lt
      have hT12_168 := hT12_158.below hBq hT12_158.lt
      have hT13_169 := hT13_159.below hBq hT13_159.lt
      have hT14_170 := hT14_160.below hBq hT14_160.lt
      have hIu_171 := hIu_161.below hBq
      have hOv_172 := hOv_162.below hBq
      have hB_173 := hB_163.trans (hBq.mono hB_163.size)
      clear hV3_154 hV5_155 hT9_156 hT10_157 hT12_158 hT13_159 hT14_160 hIu_161 hOv_162 hB_163 hBq
      have hS : (Row y22 W0.heap.size 26 (txC t.version a b t.end')) ∧ (Row y22 y1.heap.size 61 (#[lu, lx])) ∧ (Row y22 y5.heap.size 30 (tab 32 fun p => VB (at8 ((hashL t (k : Int) lock)) p))) ∧ (Row y22 y7.heap.size 26 (txC t.version v58 b t.end')) ∧ (Row y22 wr.heap.size 26 (txC t.version a v77 t.end')) ∧ (Row y22 w86.heap.size 26 (txC t.version a b ((t.end' + 1) % 4294967296))) ∧ (Row y22 y14.heap.size 30 (tab 32 fun p => VB (at8 ((hashL t (k : Int) lock)) p))) := ⟨hV3_164, hV5_165, hT9_166, hT10_167, hT12_168, hT13_169, hT14_170⟩
      refine ⟨_, rfl, mixOn ⟨(fun w => (Row w W0.heap.size 26 (txC t.version a b t.end')) ∧ (Row w y1.heap.size 61 (#[lu, lx])) ∧ (Row w y5.heap.size 30 (tab 32 fun p => VB (at8 ((hashL t (k : Int) lock)) p))) ∧ (Row w y7.heap.size 26 (txC t.version v58 b t.end')) ∧ (Row w wr.heap.size 26 (txC t.version a v77 t.end')) ∧ (Row w w86.heap.size 26 (txC t.version a b ((t.end' + 1) % 4294967296))) ∧ (Row w y14.heap.size 30 (tab 32 fun p => VB (at8 ((hashL t (k : Int) lock)) p)))), (fun _ h => ⟨h.1, h.2.1, h.2.2.1, h.2.2.2.1, h.2.2.2.2.1, h.2.2.2.2.2.1, h.2.2.2.2.2.2⟩), hS, ?_⟩⟩
      go_frame
      refine dY _ hS (yEqlHash _ _ _ (hashL t ((k + 1 : Nat) : Int) lock) (hashL t (k : Int) lock) c3 (sha_len _) (sha_len _) rfl rfl rfl rfl hc3) ?_; go_frame
      refine dLoud ?_
      refine kCall3 24 _ _ _ _ _ _ _ rfl rfl (by kernel_rfl) rfl rfl rfl ?_
      refine (yHash_any (t := t) (i := ((k + 1 : Nat) : Int)) (lock := lock) _ ht hf (ha.below hB_173) (hb.below hB_173) (hlu.below hB_173) hl2).mono ?_
      rintro e y23 ⟨rfl, hBq⟩
      clear hS
      have hV3_174 := hV3_164.below hBq hV3_164.lt
      have hV5_175 := hV5_165.below hBq hV5_165.lt
      have hT9_176 := hT9_166.below hBq hT9_166.lt
      have hT10_177 := hT10_167.below hBq hT10_167.lt
      have hT12_178 := hT12_168.below hBq hT12_168.lt
      have hT13_179 := hT13_169.below hBq hT13_169.lt
      have hT14_180 := hT14_170.below hBq hT14_170.lt
      have hIu_181 := hIu_171.below hBq
      have hOv_182 := hOv_172.below hBq
      have hB_183 := hB_173.trans (hBq.mono hB_173.size)
      clear hV3_164 hV5_165 hT9_166 hT10_167 hT12_168 hT13_169 hT14_170 hIu_171 hOv_172 hB_173 hBq
      have hS : (Row y23 W0.heap.size 26 (txC t.version a b t.end')) ∧ (Row y23 y1.heap.size 61 (#[lu, lx])) ∧ (Row y23 y5.heap.size 30 (tab 32 fun p => VB (at8 ((hashL t (k : Int) lock)) p))) ∧ (Row y23 y7.heap.size 26 (txC t.version v58 b t.end')) ∧ (Row y23 wr.heap.size 26 (txC t.version a v77 t.end')) ∧ (Row y23 w86.heap.size 26 (txC t.version a b ((t.end' + 1) % 4294967296))) ∧ (Row y23 y14.heap.size 30 (tab 32 fun p => VB (at8 ((hashL t (k : Int) lock)) p))) := ⟨hV3_174, hV5_175, hT9_176, hT10_177, hT12_178, hT13_179, hT14_180⟩
      refine ⟨_, rfl, mixOn ⟨(fun w => (Row w W0.heap.size 26 (txC t.version a b t.end')) ∧ (Row w y1.heap.size 61 (#[lu, lx])) ∧ (Row w y5.heap.size 30 (tab 32 fun p => VB (at8 ((hashL t (k : Int) lock)) p))) ∧ (Row w y7.heap.size 26 (txC t.version v58 b t.end')) ∧ (Row w wr.heap.size 26 (txC t.version a v77 t.end')) ∧ (Row w w86.heap.size 26 (txC t.version a b ((t.end' + 1) % 4294967296))) ∧ (Row w y14.heap.size 30 (tab 32 fun p => VB (at8 ((hashL t (k : Int) lock)) p)))), (fun _ h => ⟨h.1, h.2.1, h.2.2.1, h.2.2.2.1, h.2.2.2.2.1, h.2.2.2.2.2.1, h.2.2.2.2.2.2⟩), hS, ?_⟩⟩
      go_frame
      refine dY _ hS (yEqlHash _ _ _ (hashL t ((k + 1 : Nat) : Int) lock) (hashL t (k : Int) lock) c3 (sha_len _) (sha_len _) rfl rfl rfl rfl hc3) ?_; go_frame
      refine dY _ hS (yEqlBoolT _ _ _ _ c3 c3 true rfl rfl rfl rfl Tryd.underlying4 (by simp)) ?_; go_frame
      refine dY _ hS (yMove _ (.bool true) rfl rfl rfl) ?_; go_frame
      refine dY _ hS (yLoadRowC Tryd.underlying26 rfl _ _ (txC t.version a b t.end') info_TxC (fun _ h => h.1) rfl rfl rfl) ?_; go_frame
      refine dY _ hS (yMove _ (.int .i64 ((k : Int))) rfl rfl rfl) ?_; go_frame
      refine dY _ hS (yMove _ lx rfl rfl rfl) ?_; go_frame
      refine dY _ hS (yLoadRowC Tryd.underlying30 rfl _ _ (tab 32 fun p => VB (at8 ((hashL t (k : Int) lock)) p)) info_HashT (fun _ h => h.2.2.1) rfl rfl rfl) ?_; go_frame
      refine dY _ hS (yLoadRowC Tryd.underlying26 rfl _ _ (txC t.version a b t.end') info_TxC (fun _ h => h.1) rfl rfl rfl) ?_; go_frame
      refine dY _ hS (yMove _ (.int .i64 ((k : Int))) rfl rfl rfl) ?_; go_frame
      refine dY _ hS (yMove _ lx rfl rfl rfl) ?_; go_frame
      refine dY _ hS (yLoadRowC Tryd.underlying30 rfl _ _ (tab 32 fun p => VB (at8 ((hashL t (k : Int) lock)) p)) info_HashT (fun _ h => h.2.2.2.2.2.2) rfl rfl rfl) ?_; go_frame
      refine dLoud ?_
      refine kCall3 23 _ _ _ _ _ _ _ rfl rfl (by kernel_rfl) rfl rfl rfl ?_
      refine (tHash_any (t := t) (i := (k : Int)) (lock := other) _ ht hf (ha.below hB_183) (hb.below hB_183) (hlx.below hB_183) ho2 (hK.below hB_183)).mono ?_
      rintro e y24 ⟨rfl, hBq⟩
      clear hS
      have hV3_184 := hV3_174.below hBq hV3_174.lt
      have hV5_185 := hV5_175.below hBq hV5_175.lt
      have hT9_186 := hT9_176.below hBq hT9_176.lt
      have hT10_187 := hT10_177.below hBq hT10_177.lt
      have hT12_188 := hT12_178.below hBq hT12_178.lt
      have hT13_189 := hT13_179.below hBq hT13_179.lt
      have hT14_190 := hT14_180.below hBq hT14_180.lt
      have hIu_191 := hIu_181.below hBq
      have hOv_192 := hOv_182.below hBq
      have hB_193 := hB_183.trans (hBq.mono hB_183.size)
      clear hV3_174 hV5_175 hT9_176 hT10_177 hT12_178 hT13_179 hT14_180 hIu_181 hOv_182 hB_183 hBq
      have hS : (Row y24 W0.heap.size 26 (txC t.version a b t.end')) ∧ (Row y24 y1.heap.size 61 (#[lu, lx])) ∧ (Row y24 y5.heap.size 30 (tab 32 fun p => VB (at8 ((hashL t (k : Int) lock)) p))) ∧ (Row y24 y7.heap.size 26 (txC t.version v58 b t.end')) ∧ (Row y24 wr.heap.size 26 (txC t.version a v77 t.end')) ∧ (Row y24 w86.heap.size 26 (txC t.version a b ((t.end' + 1) % 4294967296))) ∧ (Row y24 y14.heap.size 30 (tab 32 fun p => VB (at8 ((hashL t (k : Int) lock)) p))) := ⟨hV3_184, hV5_185, hT9_186, hT10_187, hT12_188, hT13_189, hT14_190⟩
      refine ⟨_, rfl, mixOn ⟨(fun w => (Row w W0.heap.size 26 (txC t.version a b t.end')) ∧ (Row w y1.heap.size 61 (#[lu, lx])) ∧ (Row w y5.heap.size 30 (tab 32 fun p => VB (at8 ((hashL t (k : Int) lock)) p))) ∧ (Row w y7.heap.size 26 (txC t.version v58 b t.end')) ∧ (Row w wr.heap.size 26 (txC t.version a v77 t.end')) ∧ (Row w w86.heap.size 26 (txC t.version a b ((t.end' + 1) % 4294967296))) ∧ (Row w y14.heap.size 30 (tab 32 fun p => VB (at8 ((hashL t (k : Int) lock)) p)))), (fun _ h => ⟨h.1, h.2.1, h.2.2.1, h.2.2.2.1, h.2.2.2.2.1, h.2.2.2.2.2.1, h.2.2.2.2.2.2⟩), hS, ?_⟩⟩
      go_frame
      refine dY _ hS (yEqlHash _ _ _ (hashL t (k : Int) other) (hashL t (k : Int) lock) c4 (sha_len _) (sha_len _) rfl rfl rfl rfl hc4) ?_; go_frame
      refine dLoud ?_
      refine kCall3 24 _ _ _ _ _ _ _ rfl rfl (by kernel_rfl) rfl rfl rfl ?_
      refine (yHash_any (t := t) (i := (k : Int)) (lock := other) _ ht hf (ha.below hB_193) (hb.below hB_193) (hlx.below hB_193) ho2).mono ?_
      rintro e y25 ⟨rfl, hBq⟩
      clear hS
      have hV3_194 := hV3_184.below hBq hV3_184.lt
      have hV5_195 := hV5_185.below hBq hV5_185.lt
      have hT9_196 := hT9_186.below hBq hT9_186.lt
      have hT10_197 := hT10_187.below hBq hT10_187.lt
      have hT12_198 := hT12_188.below hBq hT12_188.lt
      have hT13_199 := hT13_189.below hBq hT13_189.lt
      have hT14_200 := hT14_190.below hBq hT14_190.lt
      have hIu_201 := hIu_191.below hBq
      have hOv_202 := hOv_192.below hBq
      have hB_203 := hB_193.trans (hBq.mono hB_193.size)
      clear hV3_184 hV5_185 hT9_186 hT10_187 hT12_188 hT13_189 hT14_190 hIu_191 hOv_192 hB_193 hBq
      have hS : (Row y25 W0.heap.size 26 (txC t.version a b t.end')) ∧ (Row y25 y1.heap.size 61 (#[lu, lx])) ∧ (Row y25 y5.heap.size 30 (tab 32 fun p => VB (at8 ((hashL t (k : Int) lock)) p))) ∧ (Row y25 y7.heap.size 26 (txC t.version v58 b t.end')) ∧ (Row y25 wr.heap.size 26 (txC t.version a v77 t.end')) ∧ (Row y25 w86.heap.size 26 (txC t.version a b ((t.end' + 1) % 4294967296))) ∧ (Row y25 y14.heap.size 30 (tab 32 fun p => VB (at8 ((hashL t (k : Int) lock)) p))) := ⟨hV3_194, hV5_195, hT9_196, hT10_197, hT12_198, hT13_199, hT14_200⟩
      refine ⟨_, rfl, mixOn ⟨(fun w => (Row w W0.heap.size 26 (txC t.version a b t.end')) ∧ (Row w y1.heap.size 61 (#[lu, lx])) ∧ (Row w y5.heap.size 30 (tab 32 fun p => VB (at8 ((hashL t (k : Int) lock)) p))) ∧ (Row w y7.heap.size 26 (txC t.version v58 b t.end')) ∧ (Row w wr.heap.size 26 (txC t.version a v77 t.end')) ∧ (Row w w86.heap.size 26 (txC t.version a b ((t.end' + 1) % 4294967296))) ∧ (Row w y14.heap.size 30 (tab 32 fun p => VB (at8 ((hashL t (k : Int) lock)) p)))), (fun _ h => ⟨h.1, h.2.1, h.2.2.1, h.2.2.2.1, h.2.2.2.2.1, h.2.2.2.2.2.1, h.2.2.2.2.2.2⟩), hS, ?_⟩⟩
      go_frame
      refine dY _ hS (yEqlHash _ _ _ (hashL t (k : Int) other) (hashL t (k : Int) lock) c4 (sha_len _) (sha_len _) rfl rfl rfl rfl hc4) ?_; go_frame
      refine dY _ hS (yEqlBoolT _ _ _ _ c4 c4 true rfl rfl rfl rfl Tryd.underlying4 (by simp)) ?_; go_frame
      refine dY _ hS (yPick _ _ _ true (.bool true) rfl rfl rfl rfl) ?_; go_frame
      refine dY _ hS (yAssign _ (.bool true) rfl rfl rfl) ?_; go_frame
      refine dDone ?_
      go_wp2
      go_ret
      exact ⟨rfl, hB_203⟩
theorem txSigned_walk {t : TxP} {a b lu lx : Value} {i : Int} {lock other : List UInt8} (W0 : World) (hK : Keys W0) (ht : t.Is) (ha : InsOf W0 a t.ins) (hb : OutsOf W0 b t.outs) (hlu : IsVals W0 lu (lock.map VB)) (hlx : IsVals W0 lx (other.map VB)) : Calls Tryd.prog 7 #[.agg (txC t.version a b t.end'), .int .i64 i, .agg #[lu, lx]] W0 (BoolPost W0 true) := by
  obtain ⟨zs, hzs, hzr, hzu⟩ := id ha
  obtain ⟨ys, hys, hyr, hyu⟩ := id hb
  cases hg : greatB t with
  | true => exact txSigned_no0 W0 hK ht ha hb hlu hlx hzr hyr rfl rfl rfl rfl hg
  | false =>
    have h30 := great_30 hg
    have hn1 : zs.length = t.ins.length := by rw [← hzs, List.length_map]
    have hn2 : ys.length = t.outs.length := by rw [← hys, List.length_map]
    by_cases e1 : 500 < lock.length
    · exact txSigned_no1 W0 hK ht ha hb hlu hlx hzr hyr rfl rfl rfl rfl hg (decide_eq_true (by omega))
    by_cases e2 : 500 < other.length
    · exact txSigned_no2 W0 hK ht ha hb hlu hlx hzr hyr rfl rfl rfl rfl hg (decide_eq_false (by omega)) (decide_eq_true (by omega))
    by_cases e3 : i < 0
    · exact txSigned_no3 W0 hK ht ha hb hlu hlx hzr hyr rfl rfl rfl rfl hg (decide_eq_false (by omega)) (decide_eq_false (by omega)) (decide_eq_true (by omega))
    by_cases e4 : (zs.length : Int) ≤ i
    · exact txSigned_no4 W0 hK ht ha hb hlu hlx hzr hyr rfl rfl rfl rfl hg (decide_eq_false (by omega)) (decide_eq_false (by omega)) (decide_eq_false (by omega)) (decide_eq_true (by omega))
    by_cases e5 : ys.length = 0
    · exact txSigned_no5 W0 hK ht ha hb hlu hlx hzr hyr rfl rfl rfl rfl hg (decide_eq_false (by omega)) (decide_eq_false (by omega)) (decide_eq_false (by omega)) (decide_eq_false (by omega)) (decide_eq_true (by omega))
    obtain ⟨k, rfl⟩ : ∃ k : Nat, i = (k : Int) := ⟨i.toNat, by omega⟩
    exact txSigned_main W0 hK ht ha hb hlu hlx hzr hyr rfl rfl rfl rfl hzs hys (great_not hg) (by omega) (by omega) hzu hyu (by omega) (by omega) hg (decide_eq_false (by omega)) (decide_eq_false (by omega)) (decide_eq_false (by omega)) (decide_eq_false (by omega)) (decide_eq_false (by omega))
end Go.Proofs.YtaoaecbdjdcpdaaDoor
