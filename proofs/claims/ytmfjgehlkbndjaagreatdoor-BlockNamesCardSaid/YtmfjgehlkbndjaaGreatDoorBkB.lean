/-
  Joined: BkRef, BkRefP.
-/
import Derived.Test.YtmfjgehlkbndjaaGreatDoorBkA
/-
  Layer 11: the reference's Parse of blocks.
-/
namespace Go.Proofs.YtmfjgehlkbndjaaGreatDoor
open Go Go.RowKit

variable {Lm : Nat}
/-! ### four bytes as a number -/
theorem bytes_addr {w : World} {v : Value} {l : List UInt8} {j : Nat} (h : IsVals w v (l.map VB)) (hj : j < l.length) : ∃ b : Addr, (∀ w' : World, (Instr.indexAt 38 v (.int .i64 (j : Int))).run Tryz.prog w' = .ok (.pointer (some b)) w') ∧ w.cell? b = some (VB (at8 l j)) := by
  obtain ⟨ao, c, rfl, hc, hn, hcell⟩ := h
  have hu : (l.map VB)[j]? = some (VB (at8 l j)) := by rw [List.getElem?_map, List.getElem?_eq_getElem hj]; simp [at8, hj]
  obtain ⟨a, rfl, h2⟩ := hcell j _ hu
  refine ⟨a.add j, fun w' => ?_, h2⟩
  have hi := info_b8P
  cases hq : Tryz.prog.info? 5 with
  | none => simp [hq] at hi
  | some t =>
    have hs' : t.size = 1 := by simpa [hq] using hi
    simp [Instr.indexAt, asIntOf, run_underlying Tryz.underlying38, sizeOf, typeInfo, hq, hs', hj]
section
variable {P : Program} {ops : Array Oper} {Q : Exit → Act → World → Prop} {rest : List Oper} {o : Oper} {a : Act} {w : World} {S : World → Prop}
theorem yLoadCellB (x : Operand) (b : Addr) (u : UInt8) (hb : ∀ w, S w → w.cell? b = some (VB u)) (ho : o.op = .load 5 x) (hg : Region.wanted o (yielded ops a.tmps) = true) (hx : a.eval x = .pointer (some b)) : YieldsIf Tryz.prog ops S o (.int .u8 (u.toNat : Int)) a :=
  yOf hg fun w hS => by
    have hr : (loadVar 5 b).run Tryz.prog w = .ok (.int .u8 (u.toNat : Int)) w := by
      simp [loadVar, Sem.run_bind, run_isAgg Tryz.underlying5, aggDesc, hb w hS, VB, B]
    unfold execOp
    simp only [ho, hx, Instr.loadAt, Instr.sureAddr, Sem.run_bind, Sem.run_pure, Result.andThen_ok, hr]
theorem yConvBW (x : Operand) (k : Nat) (hk : k < 256) (ho : o.op = .convert 5 22 x) (hg : Region.wanted o (yielded ops a.tmps) = true) (hx : a.eval x = .int .u8 (k : Int)) : YieldsIf Tryz.prog ops S o (.int .u32 (k : Int)) a := by
  refine yOf hg fun w _ => ?_
  unfold execOp
  have e : IntKind.u32.wrap (k : Int) = (k : Int) := by rw [IntKind.wrap_u32]; omega
  simp [ho, hx, convert, run_underlying Tryz.underlying5, run_underlying Tryz.underlying22, e, Conv.intToInt]
theorem yMulW (T T2 : TypeId) (x y : Operand) (m n : Nat) (hz : m * n < 4294967296) (ho : o.op = .binOp .mul T x y T2) (hg : Region.wanted o (yielded ops a.tmps) = true) (hx : a.eval x = .int .u32 (m : Int)) (hy : a.eval y = .int .u32 (n : Int)) : YieldsIf P ops S o (.int .u32 ((m * n : Nat) : Int)) a := by
  refine yOf hg fun w _ => ?_
  have e : IntKind.u32.wrap ((m : Int) * n) = ((m * n : Nat) : Int) := by rw [IntKind.wrap_u32]; rw [Int.natCast_mul] ; rw [← Int.natCast_mul]; omega
  unfold execOp
  simp only [ho, hx, hy]
  simp [eqGuard, binOp, Op.intArith, e]
theorem yAddW (T T2 : TypeId) (x y : Operand) (m n : Nat) (hz : m + n < 4294967296) (ho : o.op = .binOp .add T x y T2) (hg : Region.wanted o (yielded ops a.tmps) = true) (hx : a.eval x = .int .u32 (m : Int)) (hy : a.eval y = .int .u32 (n : Int)) : YieldsIf P ops S o (.int .u32 ((m + n : Nat) : Int)) a := by
  refine yOf hg fun w _ => ?_
  have e : IntKind.u32.wrap ((m : Int) + n) = ((m + n : Nat) : Int) := by rw [IntKind.wrap_u32]; omega
  unfold execOp
  simp only [ho, hx, hy]
  simp [eqGuard, binOp, Op.intArith, e]
theorem kIdxArr {T E : TypeId} {len : Nat} (ht : P.underlying T = some (.array len E)) (hi : (P.info? E).map (·.size) = some 1) (x y : Operand) (g off k off' : Nat) (hk : k < len) (he : off + k = off') (ho : o.op = .indexAddr T x y) (hg : Region.wanted o (yielded ops a.tmps) = true) (hx : a.eval x = .pointer (some ⟨g, off, none⟩)) (hy : a.eval y = .int .i64 (k : Int)) (h : wpList P ops Q rest (a.put o.dst (.pointer (some ⟨g, off', none⟩))) w) : wpList P ops Q (o :: rest) a w := by
  subst he
  refine kPure _ hg ?_ h
  have hrun : (Instr.indexAt T (.pointer (some ⟨g, off, none⟩)) (.int .i64 (k : Int))).run P w = .ok (.pointer (some ⟨g, off + k, none⟩)) w := by
    cases hq : P.info? E with
    | none => simp [hq] at hi
    | some t =>
      have hs' : t.size = 1 := by simpa [hq] using hi
      simp [Instr.indexAt, Instr.sureAddr, asIntOf, run_underlying ht, sizeOf, typeInfo, hq, hs', hk, add_none]
  unfold execOp
  simp only [ho, hx, hy, Sem.run_bind, hrun, Result.andThen_ok, Sem.run_pure]
end
theorem num4 {l : List UInt8} (h : 4 ≤ l.length) : (at8 l 0).toNat + 256 * (at8 l 1).toNat + 65536 * (at8 l 2).toNat + 16777216 * (at8 l 3).toNat = numL (l.take 4) := by
  match l, h with
  | a :: b :: c :: d :: r, _ => simp [at8, numL]; omega
set_option maxRecDepth 100000 in
set_option maxHeartbeats 8000000 in
theorem xNumber_any {l : List UInt8} {v : Value} (w : World) (hv : IsVals w v (l.map VB)) (h4 : 4 ≤ l.length) : Calls Tryz.prog 88 #[v] w fun e w' => e = .returned (.int .u32 (numL (l.take 4) : Int)) ∧ Below w.heap.size w w' := by
  have hnum := num4 h4
  obtain ⟨b0, hb0, hc0⟩ := bytes_addr (j := 0) hv (by omega)
  obtain ⟨b1, hb1, hc1⟩ := bytes_addr (j := 1) hv (by omega)
  obtain ⟨b2, hb2, hc2⟩ := bytes_addr (j := 2) hv (by omega)
  obtain ⟨b3, hb3, hc3⟩ := bytes_addr (j := 3) hv (by omega)
  have l0 := (at8 l 0).toNat_lt
  have l1 := (at8 l 1).toNat_lt
  have l2 := (at8 l 2).toNat_lt
  have l3 := (at8 l 3).toNat_lt
  have hlt : ∀ {b : Addr} {u : Value}, w.cell? b = some u → b.block < w.heap.size := fun h => block_lt_of_cell h
  go_enter Tryz.func88, Tryz.ntmps88
  go_wp2
  refine region_mixD [(0, true), (1, true), (2, true), (3, true), (4, true), (5, true), (6, true), (7, true), (8, true), (9, true), (10, true), (11, true), (12, true), (13, true), (14, true), (15, true), (16, true), (17, true), (18, true), (19, true), (20, true), (21, true), (22, true)] (fun w => w.cell? b0 = some (VB (at8 l 0)) ∧ w.cell? b1 = some (VB (at8 l 1)) ∧ w.cell? b2 = some (VB (at8 l 2)) ∧ w.cell? b3 = some (VB (at8 l 3))) (by kernel_rfl) (by kernel_rfl) rfl ?_
  intro z0 hBd hsd
  clear hsd
  have hS : z0.cell? b0 = some (VB (at8 l 0)) ∧ z0.cell? b1 = some (VB (at8 l 1)) ∧ z0.cell? b2 = some (VB (at8 l 2)) ∧ z0.cell? b3 = some (VB (at8 l 3)) := ⟨(hBd.cell (hlt hc0)).trans hc0, (hBd.cell (hlt hc1)).trans hc1, (hBd.cell (hlt hc2)).trans hc2, (hBd.cell (hlt hc3)).trans hc3⟩
  simp only [List.map_cons, List.map_nil]
  dsimp only [List.filterMap, List.getElem?_cons_zero, List.getElem?_cons_succ]
  refine dY _ hS (yMove _ v rfl rfl rfl) ?_; go_frame
  refine dY _ hS (yIndexAt _ _ _ v 0 b0 hb0 rfl rfl rfl rfl) ?_; go_frame
  refine dY _ hS (yLoadCellB _ b0 (at8 l 0) (fun _ h => h.1) rfl rfl rfl) ?_; go_frame
  refine dY _ hS (yConvBW _ (at8 l 0).toNat l0 rfl rfl rfl) ?_; go_frame
  refine dY _ hS (yMove _ v rfl rfl rfl) ?_; go_frame
  refine dY _ hS (yIndexAt _ _ _ v 1 b1 hb1 rfl rfl rfl rfl) ?_; go_frame
  refine dY _ hS (yLoadCellB _ b1 (at8 l 1) (fun _ h => h.2.1) rfl rfl rfl) ?_; go_frame
  refine dY _ hS (yConvBW _ (at8 l 1).toNat l1 rfl rfl rfl) ?_; go_frame
  refine dY _ hS (yMulW _ _ _ _ 256 (at8 l 1).toNat (by omega) rfl rfl rfl rfl) ?_; go_frame
  refine dY _ hS (yAddW _ _ _ _ ((at8 l 0).toNat) (256 * (at8 l 1).toNat) (by omega) rfl rfl rfl rfl) ?_; go_frame
  refine dY _ hS (yMove _ v rfl rfl rfl) ?_; go_frame
  refine dY _ hS (yIndexAt _ _ _ v 2 b2 hb2 rfl rfl rfl rfl) ?_; go_frame
  refine dY _ hS (yLoadCellB _ b2 (at8 l 2) (fun _ h => h.2.2.1) rfl rfl rfl) ?_; go_frame
  refine dY _ hS (yConvBW _ (at8 l 2).toNat l2 rfl rfl rfl) ?_; go_frame
  refine dY _ hS (yMulW _ _ _ _ 65536 (at8 l 2).toNat (by omega) rfl rfl rfl rfl) ?_; go_frame
  refine dY _ hS (yAddW _ _ _ _ ((at8 l 0).toNat + 256 * (at8 l 1).toNat) (65536 * (at8 l 2).toNat) (by omega) rfl rfl rfl rfl) ?_; go_frame
  refine dY _ hS (yMove _ v rfl rfl rfl) ?_; go_frame
  refine dY _ hS (yIndexAt _ _ _ v 3 b3 hb3 rfl rfl rfl rfl) ?_; go_frame
  refine dY _ hS (yLoadCellB _ b3 (at8 l 3) (fun _ h => h.2.2.2) rfl rfl rfl) ?_; go_frame
  refine dY _ hS (yConvBW _ (at8 l 3).toNat l3 rfl rfl rfl) ?_; go_frame
  refine dY _ hS (yMulW _ _ _ _ 16777216 (at8 l 3).toNat (by omega) rfl rfl rfl rfl) ?_; go_frame
  refine dY _ hS (yAddW _ _ _ _ ((at8 l 0).toNat + 256 * (at8 l 1).toNat + 65536 * (at8 l 2).toNat) (16777216 * (at8 l 3).toNat) (by omega) rfl rfl rfl rfl) ?_; go_frame
  refine dY _ hS (yAssign _ (.int .u32 (((at8 l 0).toNat + 256 * (at8 l 1).toNat + 65536 * (at8 l 2).toNat + 16777216 * (at8 l 3).toNat : Nat) : Int)) rfl rfl rfl) ?_; go_frame
  refine dDone ?_
  go_wp2
  go_ret
  rw [hnum]
  exact ⟨rfl, hBd⟩
def headOf (l : List UInt8) : HeadP := ⟨numL (l.take 4), (l.drop 4).take 32, (l.drop 36).take 32, numL ((l.drop 68).take 4), numL ((l.drop 72).take 4), numL ((l.drop 76).take 4)⟩
theorem raw_ok {l : List UInt8} {e n : Nat} (hn : 1 ≤ n) (h : (rawS ⟨l, e⟩ (n : Int)).2.err = 0) : e = 0 ∧ rawS ⟨l, e⟩ (n : Int) = (l.take n, ⟨l.drop n, 0⟩) ∧ n ≤ l.length := by
  unfold rawS at h ⊢
  split at h
  · rename_i hc; rcases hc with hc | hc
    · exact absurd h hc
    · omega
  · rename_i hc
    split at h
    · cases h
    · rename_i hd
      rw [if_neg hc, if_neg hd]
      exact ⟨by simp at hc; omega, by simp, by simp at hd; omega⟩
theorem fixed_ok4 {l : List UInt8} {e : Nat} (h : (fixedS ⟨l, e⟩ 4).2.err = 0) : e = 0 ∧ fixedS ⟨l, e⟩ 4 = (numL (l.take 4), ⟨l.drop 4, 0⟩) ∧ 4 ≤ l.length := by
  have h' : (rawS ⟨l, e⟩ ((4 : Nat) : Int)).2.err = 0 := h
  obtain ⟨h1, h2, h3⟩ := raw_ok (by decide) h'
  refine ⟨h1, ?_, h3⟩
  show (numL (rawS ⟨l, e⟩ ((4 : Nat) : Int)).1, (rawS ⟨l, e⟩ ((4 : Nat) : Int)).2) = _
  rw [h2]
theorem hash_ok {l : List UInt8} {e : Nat} (h : (hashS ⟨l, e⟩).2.err = 0) : e = 0 ∧ hashS ⟨l, e⟩ = (l.take 32, ⟨l.drop 32, 0⟩) ∧ 32 ≤ l.length := by
  have h' : (rawS ⟨l, e⟩ ((32 : Nat) : Int)).2.err = 0 := h
  obtain ⟨h1, h2, h3⟩ := raw_ok (by decide) h'
  refine ⟨h1, ?_, h3⟩
  have h2' : rawS ⟨l, e⟩ 32 = (l.take 32, ⟨l.drop 32, 0⟩) := h2
  unfold hashS
  rw [h2']
  dsimp only
  rw [if_pos (by rw [List.length_take]; omega)]
theorem head_of {l : List UInt8} (h : (headS ⟨l, 0⟩).2.err = 0) : (headS ⟨l, 0⟩).1 = headOf l ∧ 80 ≤ l.length := by
  obtain ⟨v, hv⟩ : ∃ v, fixedS ⟨l, 0⟩ 4 = v := ⟨_, rfl⟩
  obtain ⟨p, hp⟩ : ∃ p, hashS v.2 = p := ⟨_, rfl⟩
  obtain ⟨r, hr⟩ : ∃ r, hashS p.2 = r := ⟨_, rfl⟩
  obtain ⟨t, ht⟩ : ∃ t, fixedS r.2 4 = t := ⟨_, rfl⟩
  obtain ⟨b, hb⟩ : ∃ b, fixedS t.2 4 = b := ⟨_, rfl⟩
  obtain ⟨n, hn⟩ : ∃ n, fixedS b.2 4 = n := ⟨_, rfl⟩
  rw [headS_eq hv hp hr ht hb hn] at h ⊢
  dsimp only at h
  obtain ⟨a6, b6, c6⟩ := fixed_ok4 (l := b.2.rest) (e := b.2.err) (by show (fixedS b.2 4).2.err = 0; rw [hn]; exact h)
  obtain ⟨a5, b5, c5⟩ := fixed_ok4 (l := t.2.rest) (e := t.2.err) (by show (fixedS t.2 4).2.err = 0; rw [hb]; exact a6)
  obtain ⟨a4, b4, c4⟩ := fixed_ok4 (l := r.2.rest) (e := r.2.err) (by show (fixedS r.2 4).2.err = 0; rw [ht]; exact a5)
  obtain ⟨a3, b3, c3⟩ := hash_ok (l := p.2.rest) (e := p.2.err) (by show (hashS p.2).2.err = 0; rw [hr]; exact a4)
  obtain ⟨a2, b2, c2⟩ := hash_ok (l := v.2.rest) (e := v.2.err) (by show (hashS v.2).2.err = 0; rw [hp]; exact a3)
  obtain ⟨a1, b1, c1⟩ := fixed_ok4 (l := l) (e := 0) (by rw [hv]; exact a2)
  rw [hv] at b1
  subst b1
  have b2' : hashS ⟨l.drop 4, 0⟩ = _ := b2
  dsimp only at hp b2 c2
  rw [hp] at b2
  subst b2
  dsimp only at hr b3 c3
  rw [hr] at b3
  subst b3
  dsimp only at ht b4 c4
  rw [ht] at b4
  subst b4
  dsimp only at hb b5 c5
  rw [hb] at b5
  subst b5
  dsimp only at hn b6 c6
  rw [hn] at b6
  subst b6
  simp only [List.length_drop] at c2 c3 c4 c5 c6
  refine ⟨?_, by omega⟩
  unfold headOf
  simp only [List.drop_drop]
theorem head_fill {v t b n : Nat} {p r x y : List UInt8} (hx : x.length = 32) (hy : y.length = 32) {k : Nat} (hk : k < 32) (hp : p = fill32 x k) (hr : r = fill32 y k) : ((headC ⟨v, p, r, t, b, n⟩).setIfInBounds (1 + k) (VB (at8 x k))).setIfInBounds (33 + k) (VB (at8 y k)) = headC ⟨v, fill32 x (k + 1), fill32 y (k + 1), t, b, n⟩ := by
  have e1 : ∀ z : List UInt8, z.length = 32 → (List.range 32).map (fun q => VB (at8 z q)) = z.map VB := fun z hz => list_at32 hz
  have lx := fill32_len hx (Nat.le_of_lt hk)
  have ly := fill32_len hy (Nat.le_of_lt hk)
  subst hp hr
  unfold headC headR
  dsimp only
  rw [e1 _ lx, e1 _ ly, e1 _ (fill32_len hx hk), e1 _ (fill32_len hy hk), ← fill32_step hx hk, ← fill32_step hy hk, List.map_set, List.map_set]
  have m1 : ((fill32 x k).map VB).length = 32 := by rw [List.length_map, lx]
  have m2 : ((fill32 y k).map VB).length = 32 := by rw [List.length_map, ly]
  generalize (fill32 x k).map VB = A at *
  generalize (fill32 y k).map VB = C at *
  rw [List.setIfInBounds_toArray, List.setIfInBounds_toArray, show 1 + k = k + 1 by omega, List.set_cons_succ, List.set_append_left _ _ (by omega), show 33 + k = (32 + k) + 1 by omega, List.set_cons_succ, List.set_append_right _ _ (by rw [List.length_set]; omega), List.length_set, m1, show 32 + k - 32 = k by omega, List.set_append_left _ _ (by omega)]
set_option maxRecDepth 100000 in
set_option maxHeartbeats 8000000 in
theorem xHeadOf_any {l : List UInt8} {v : Value} (W0 : World) (hv : IsVals W0 v (l.map VB)) (h80 : 80 ≤ l.length) : Calls Tryz.prog 53 #[v] W0 fun e w' => e = .returned (.agg (headC (headOf l))) ∧ Below W0.heap.size W0 w' := by
  obtain ⟨HO, hHO⟩ : ∃ HO, headOf l = HO := ⟨_, rfl⟩
  rw [hHO]
  go_enter Tryz.func53, Tryz.ntmps53
  go_wp2_with (first
    | ((with_reducible change wpList _ _ _ (Oper.mk (some 2) _ _ _ _ _ :: _) _ _); refine kAllocL _ _ rfl rfl zero_HeadC ?_; intro w1 hRA hz1 hB1; have hv1 := hv.below hB1; go_frame))
  have hf68 : IsVals w1 (fromV v 68) ((l.drop 68).map VB) := by
    have h := isVals_from (n := 68) hv1 (by rw [List.length_map]; omega)
    rwa [← List.map_drop] at h
  have hf72 : IsVals w1 (fromV v 72) ((l.drop 72).map VB) := by
    have h := isVals_from (n := 72) hv1 (by rw [List.length_map]; omega)
    rwa [← List.map_drop] at h
  have hf76 : IsVals w1 (fromV v 76) ((l.drop 76).map VB) := by
    have h := isVals_from (n := 76) hv1 (by rw [List.length_map]; omega)
    rwa [← List.map_drop] at h
  refine region_symT 13 _ [] [] [.val (v), .val (.int .u32 (numL (l.take 4) : Int)), .val (v), .val (fromV v 68), .val (.int .u32 (numL ((l.drop 68).take 4) : Int)), .val (v), .val (fromV v 72), .val (.int .u32 (numL ((l.drop 72).take 4) : Int)), .val (v), .val (fromV v 76), .val (.int .u32 (numL ((l.drop 76).take 4) : Int)), .val (.agg (headC ⟨numL (l.take 4), z32, z32, numL ((l.drop 68).take 4), numL ((l.drop 72).take 4), numL ((l.drop 76).take 4)⟩)), .hold w1.heap.size 26 (headC noHead)] rfl (by kernel_rfl) (by kernel_rfl) (by kernel_rfl) (by kernel_rfl) rfl (by intro s hs; cases hs) (steps_all ⟨?_, ?_, ?_, ?_, ?_, ?_, ?_, ?_, ?_, ?_, ?_, ?_, ?_, trivial⟩) ?_
  · exact fun A W sz ot hbel ap dp => kMoveV _ _ rfl rfl (tO ot 0) (tV ap sz (Below.refl _ _) rfl)
  · exact fun A W sz ot hbel ap dp => kCall1 88 _ _ _ rfl rfl (by kernel_rfl) (tD dp 0 .data) ((xNumber_any _ (hv1.below hbel) (by omega)).mono (fun e W1 ⟨he, hB'⟩ => ⟨_, he, tV ap sz hB' rfl⟩))
  · exact fun A W sz ot hbel ap dp => kMoveV _ _ rfl rfl (tO ot 0) (tV ap sz (Below.refl _ _) rfl)
  · exact fun A W sz ot hbel ap dp => kSliceFromB _ _ v l 68 (hv1.below hbel) (by omega) rfl rfl (tD dp 2 .data) rfl (fun _ => (tV ap sz (Below.refl _ _) rfl))
  · exact fun A W sz ot hbel ap dp => kCall1 88 _ _ _ rfl rfl (by kernel_rfl) (tD dp 3 .data) ((xNumber_any (l := l.drop 68) _ (hf68.below hbel) (by rw [List.length_drop]; omega)).mono (fun e W1 ⟨he, hB'⟩ => ⟨_, he, tV ap sz hB' rfl⟩))
  · exact fun A W sz ot hbel ap dp => kMoveV _ _ rfl rfl (tO ot 0) (tV ap sz (Below.refl _ _) rfl)
  · exact fun A W sz ot hbel ap dp => kSliceFromB _ _ v l 72 (hv1.below hbel) (by omega) rfl rfl (tD dp 5 .data) rfl (fun _ => (tV ap sz (Below.refl _ _) rfl))
  · exact fun A W sz ot hbel ap dp => kCall1 88 _ _ _ rfl rfl (by kernel_rfl) (tD dp 6 .data) ((xNumber_any (l := l.drop 72) _ (hf72.below hbel) (by rw [List.length_drop]; omega)).mono (fun e W1 ⟨he, hB'⟩ => ⟨_, he, tV ap sz hB' rfl⟩))
  · exact fun A W sz ot hbel ap dp => kMoveV _ _ rfl rfl (tO ot 0) (tV ap sz (Below.refl _ _) rfl)
  · exact fun A W sz ot hbel ap dp => kSliceFromB _ _ v l 76 (hv1.below hbel) (by omega) rfl rfl (tD dp 8 .data) rfl (fun _ => (tV ap sz (Below.refl _ _) rfl))
  · exact fun A W sz ot hbel ap dp => kCall1 88 _ _ _ rfl rfl (by kernel_rfl) (tD dp 9 .data) ((xNumber_any (l := l.drop 76) _ (hf76.below hbel) (by rw [List.length_drop]; omega)).mono (fun e W1 ⟨he, hB'⟩ => ⟨_, he, tV ap sz hB' rfl⟩))
  · exact fun A W sz ot hbel ap dp => kY (yBuildHead4 _ _ _ _ _ _ _ _ rfl rfl (tD dp 1 .data) (tD dp 4 .data) (tD dp 7 .data) (tD dp 10 .data)) (tV ap sz (Below.refl _ _) rfl)
  · exact fun A W sz ot hbel ap dp => kAllocL _ _ rfl rfl zero_HeadC (fun W1 hR hz hB' => tV ap sz hB' ⟨_, rfl, hbel.size, hR⟩)
  intro w2 hB2
  dsimp only [AllV]
  intro g hg hRH hap
  dsimp only [putAll, List.take, List.drop]
  go_frame
  clear hap
  go_wp2_with (first
    | ((with_reducible change wpList _ _ _ (Oper.mk none (Op.store _ _ _) _ _ _ _ :: _) _ _); refine kStoreHead _ _ g _ _ hRH (headC_size _) rfl rfl rfl rfl ?_; intro w3 hR3 hW3; go_frame))
  have hB3 := hB1.trans ((hB2.trans (hW3.below hg)).mono hB1.size)
  have hRA3 := hW3.row (hRA.below hB2 hRA.lt) (by omega)
  have hgA : W0.heap.size < g := by omega
  have x32 : ((l.drop 4).take 32).length = 32 := by rw [List.length_take, List.length_drop]; omega
  have y32 : ((l.drop 36).take 32).length = 32 := by rw [List.length_take, List.length_drop]; omega
  obtain ⟨X, hX⟩ : ∃ X, (l.drop 4).take 32 = X := ⟨_, rfl⟩
  obtain ⟨Y, hY⟩ : ∃ Y, (l.drop 36).take 32 = Y := ⟨_, rfl⟩
  have hXat : ∀ k, k < 32 → (l.map VB)[4 + k]? = some (VB (at8 X k)) := fun k hk => by
    subst hX
    rw [List.getElem?_map, List.getElem?_eq_getElem (by omega)]
    simp [at8, show k < ((l.drop 4).take 32).length by omega, show k < l.length - 4 by omega, hk]
  have hYat : ∀ k, k < 32 → (l.map VB)[36 + k]? = some (VB (at8 Y k)) := fun k hk => by
    subst hY
    rw [List.getElem?_map, List.getElem?_eq_getElem (by omega)]
    simp [at8, show k < ((l.drop 36).take 32).length by omega, show k < l.length - 36 by omega, hk]
  have hO : headOf l = ⟨numL (l.take 4), X, Y, numL ((l.drop 68).take 4), numL ((l.drop 72).take 4), numL ((l.drop 76).take 4)⟩ := by unfold headOf; rw [hX, hY]
  rw [hHO] at hO
  rw [hX] at x32
  rw [hY] at y32
  generalize numL (l.take 4) = nv at *
  generalize numL ((l.drop 68).take 4) = nt at *
  generalize numL ((l.drop 72).take 4) = nb at *
  generalize numL ((l.drop 76).take 4) = nn at *
  clear hHO
  subst hO
  clear hX hY hRH hW3 hB2 hRA hB1 hv1 hf68 hf72 hf76
  have hf0 : ∀ x : List UInt8, fill32 x 0 = z32 := fun x => by simp [fill32, z32]
  go_loopw [4] (fun i wr => ∃ j : Nat, j ≤ 32 ∧ i = .int .i64 j ∧ Row wr W0.heap.size 26 (headC noHead) ∧ Row wr g 26 (headC ⟨nv, fill32 X j, fill32 Y j, nt, nb, nn⟩) ∧ Below W0.heap.size W0 wr) (fun i _ => 32 - (intOf i).toNat)
  case atStart => exact ⟨0, by omega, rfl, hRA3, by rw [hf0, hf0]; exact hR3, hB3⟩
  case round =>
    clear hRA3 hR3 hB3 hf0
    obtain ⟨j, hj, rfl, hRA, hRB, hB⟩ := hrel
    have hV := hv.below hB
    have hge : Hid (W0.heap.size ≤ g) := Nat.le_of_lt hgA
    by_cases hlt : j < 32
    · have hd : decide ((j : Int) < 32) = true := by simp; omega
      have hx := hXat j hlt
      have hy := hYat j hlt
      go_wp2_with (first
        | ((with_reducible change wpList _ _ _ (Oper.mk (some 18) _ _ _ _ _ :: _) _ _); refine kLssI _ _ _ _ .i64 (j : Int) 32 true rfl rfl rfl rfl hd ?_; go_frame)
        | ((with_reducible change wpList _ _ _ (Oper.mk (some 24) _ _ _ _ _ :: _) _ _); refine kAddI _ _ _ _ 4 (j : Int) ((4 + j : Nat) : Int) (by omega) rfl rfl rfl rfl ?_; go_frame)
        | ((with_reducible change wpList _ _ _ (Oper.mk (some 25) _ _ _ _ _ :: _) _ _); refine kIndexAddrV _ _ _ _ .i64 v _ ((4 + j : Nat) : Int) (4 + j) (VB (at8 X j)) rfl rfl rfl hV rfl Tryz.underlying38 info_b8P rfl hx ?_; intro b hb; go_frame)
        | ((with_reducible change wpList _ _ _ (Oper.mk (some 26) _ _ _ _ _ :: _) _ _); refine kLoadCell _ _ b (VB (at8 X j)) _ rfl rfl rfl hb Tryz.underlying5 rfl ?_; clear hb; go_frame)
        | ((with_reducible change wpList _ _ _ (Oper.mk (some 27) _ _ _ _ _ :: _) _ _); refine kFld headF1 _ _ 0 1 rfl rfl rfl rfl ?_; go_frame)
        | ((with_reducible change wpList _ _ _ (Oper.mk (some 28) _ _ _ _ _ :: _) _ _); refine kIdxArr Tryz.underlying24 info_b8P _ _ g 1 j (1 + j) hlt rfl rfl rfl rfl rfl ?_; go_frame)
        | ((with_reducible change wpList _ _ _ (Oper.mk none (Op.store _ (Operand.tmp 28) _) _ _ _ _ :: _) _ _); refine kStore1 _ _ _ _ _ (1 + j) _ (VB (at8 X j)) rfl rfl rfl rfl hRB info_b8P (by rw [headC_size]; omega) rfl ?_; intro w7 hRB7 hW7; have hRA7 := hW7.row hRA (Nat.ne_of_lt hgA); have hB7 := hB.trans (hW7.below hge.out); have hV7 := hv.below hB7; clear hRA hRB hB hV hW7; go_frame)
        | ((with_reducible change wpList _ _ _ (Oper.mk (some 32) _ _ _ _ _ :: _) _ _); refine kAddI _ _ _ _ 36 (j : Int) ((36 + j : Nat) : Int) (by omega) rfl rfl rfl rfl ?_; go_frame)
        | ((with_reducible change wpList _ _ _ (Oper.mk (some 33) _ _ _ _ _ :: _) _ _); refine kIndexAddrV _ _ _ _ .i64 v _ ((36 + j : Nat) : Int) (36 + j) (VB (at8 Y j)) rfl rfl rfl hV7 rfl Tryz.underlying38 info_b8P rfl hy ?_; intro b hb; go_frame)
        | ((with_reducible change wpList _ _ _ (Oper.mk (some 34) _ _ _ _ _ :: _) _ _); refine kLoadCell _ _ b (VB (at8 Y j)) _ rfl rfl rfl hb Tryz.underlying5 rfl ?_; clear hb; go_frame)
        | ((with_reducible change wpList _ _ _ (Oper.mk (some 35) _ _ _ _ _ :: _) _ _); refine kFld headF2 _ _ 0 33 rfl rfl rfl rfl ?_; go_frame)
        | ((with_reducible change wpList _ _ _ (Oper.mk (some 36) _ _ _ _ _ :: _) _ _); refine kIdxArr Tryz.underlying24 info_b8P _ _ g 33 j (33 + j) hlt rfl rfl rfl rfl rfl ?_; go_frame)
        | ((with_reducible change wpList _ _ _ (Oper.mk none (Op.store _ (Operand.tmp 36) _) _ _ _ _ :: _) _ _); refine kStore1 _ _ _ _ _ (33 + j) _ (VB (at8 Y j)) rfl rfl rfl rfl hRB7 info_b8P (by rw [Array.size_setIfInBounds, headC_size]; omega) rfl ?_; intro w8 hRB8 hW8; rw [head_fill x32 y32 hlt rfl rfl] at hRB8; have hRA8 := hW8.row hRA7 (Nat.ne_of_lt hgA); have hB8 := hB7.trans (hW8.below hge.out); clear hRA7 hRB7 hB7 hV7 hW8; go_frame)
        | ((with_reducible change wpList _ _ _ (Oper.mk (some 20) _ _ _ _ _ :: _) _ _); refine kAddI _ _ _ _ (j : Int) 1 ((j + 1 : Nat) : Int) (by omega) rfl rfl rfl rfl ?_; go_frame))
      go_roundw
      case rel => exact ⟨j + 1, by omega, rfl, hRA8, hRB8, hB8⟩
      case measure => simp [intOf]; omega
    · have hd : decide ((j : Int) < 32) = false := by simp; omega
      have hj32 : j = 32 := by omega
      subst hj32
      rw [fill32_all x32, fill32_all y32] at hRB
      go_wp2_with (first
        | ((with_reducible change wpList _ _ _ (Oper.mk (some 18) _ _ _ _ _ :: _) _ _); refine kLssI _ _ _ _ .i64 ((32 : Nat) : Int) 32 false rfl rfl rfl rfl hd ?_; go_frame)
        | ((with_reducible change wpList _ _ _ (Oper.mk (some 37) _ _ _ _ _ :: _) _ _); refine kLoadHead _ _ _ hRB rfl rfl rfl ?_; go_frame)
        | ((with_reducible change wpList _ _ _ (Oper.mk none _ _ _ _ _ :: _) _ _); refine kStoreHead _ _ W0.heap.size _ _ hRA (headC_size _) rfl rfl rfl rfl ?_; intro w9 hRA9 hW9; have hB9 := hB.trans (hW9.below (Nat.le_refl _)); go_frame))
      (try simp only [Exit.inBlock, Exit.then])
      exact result_row rfl rfl hRA9 Tryz.underlying26 rfl (info_HeadS _) rfl ⟨rfl, hB9⟩
end Go.Proofs.YtmfjgehlkbndjaaGreatDoor

/-
  Layer 11: the reference's Parse of blocks, whole.
-/
namespace Go.Proofs.YtmfjgehlkbndjaaGreatDoor
open Go Go.RowKit

def rawF : List Int → Scn → Scn
  | [], s => s
  | n :: ns, s => rawF ns (rawS s n).2
def headNs : List Int := [4, 32, 32, 4, 4, 4]
theorem fixed_raw (s : Scn) : (fixedS s 4).2 = (rawS s 4).2 := by unfold fixedS; rw [clamp4]; rfl
theorem rawF_head (s : Scn) : rawF headNs s = (headS s).2 := by
  rw [headS_eq rfl rfl rfl rfl rfl rfl]
  show (rawS (rawS (rawS (rawS (rawS (rawS s 4).2 32).2 32).2 4).2 4).2 4).2 = _
  rw [← fixed_raw, ← fixed_raw, ← fixed_raw, ← fixed_raw]; rfl
theorem rawF_step {k : Nat} {n : Int} (h : headNs[k]? = some n) (s : Scn) : rawF (headNs.drop k) s = rawF (headNs.drop (k + 1)) (rawS s n).2 := by
  obtain ⟨hk, rfl⟩ := List.getElem?_eq_some_iff.1 h
  rw [List.drop_eq_getElem_cons hk]; rfl
def nsV : List Value := headNs.map (Value.int .i64)
theorem built_ns : ∀ w, (Instr.buildSlice 90 6 #[(0, .int .i64 4), (1, .int .i64 32), (2, .int .i64 32), (3, .int .i64 4), (4, .int .i64 4), (5, .int .i64 4)]).run Tryz.prog w = .ok (.slice (some ⟨w.heap.size, 0, none⟩) 6 6) (w.alloc (.cells #[.int .i64 4, .int .i64 32, .int .i64 32, .int .i64 4, .int .i64 4, .int .i64 4] 3)) := fun _ => by kernel_rfl
theorem info_intB : (Tryz.prog.info? 3).map (·.size) = some 1 := by kernel_rfl
section
variable {ops : Array Oper} {Q : Exit → Act → World → Prop} {rest : List Oper} {o : Oper} {a : Act} {w : World}
theorem kBuildNs (ho : o.op = .buildSlice 90 6 #[(0, .const (.int .i64 4)), (1, .const (.int .i64 32)), (2, .const (.int .i64 32)), (3, .const (.int .i64 4)), (4, .const (.int .i64 4)), (5, .const (.int .i64 4))]) (hg : Region.wanted o (yielded ops a.tmps) = true)
    (h : ∀ w1, Row w1 w.heap.size 3 nsV.toArray → w.heap.size < w1.heap.size → Below w.heap.size w w1 → wpList Tryz.prog ops Q rest (a.put o.dst (.slice (some ⟨w.heap.size, 0, none⟩) 6 6)) w1) : wpList Tryz.prog ops Q (o :: rest) a w := by
  refine BigFrame.wpList_want hg fun K hK => ?_
  have hb := built_ns w
  unfold Oper.wp execOp
  simp only [ho, List.map_toArray, List.map_cons, List.map_nil, Act.eval, Sem.run_bind, hb, Result.andThen_ok, Sem.run_pure]
  exact hK _ _ (h _ (heap_alloc_new w _) (by simp) ((Below.refl _ _).alloc (Nat.le_refl _) _))
end
theorem ns_vals {w : World} {g : Nat} (h : Row w g 3 nsV.toArray) : IsVals w (.slice (some ⟨g, 0, none⟩) 6 6) nsV := isVals_lit (l := nsV) h
set_option maxRecDepth 100000 in
set_option maxHeartbeats 8000000 in
theorem xParse_any {l : List UInt8} {v : Value} (W0 : World) (hv : IsVals W0 v (l.map VB)) (hl : l.length ≤ 1000000) : Calls Tryz.prog 28 #[v] W0 (BlkParse W0 (parseB l)) := by
  obtain ⟨R, hR⟩ : ∃ R, parseB l = R := ⟨_, rfl⟩
  rw [hR]
  unfold parseB at hR
  obtain ⟨p, hp⟩ : ∃ p, headS ⟨l, 0⟩ = p := ⟨_, rfl⟩
  obtain ⟨q, hq⟩ : ∃ q, txsS p.2 = q := ⟨_, rfl⟩
  rw [rawB_eq hp hq] at hR
  have hpr : p.2.rest.length ≤ 1000000 := by rw [← hp]; exact Nat.le_trans (head_restLe _) hl
  have hF : rawF (headNs.drop 0) ⟨l, 0⟩ = p.2 := by rw [List.drop_zero, rawF_head, hp]
  have hbad : q.2.err = 0 → p.1 = headOf l ∧ 80 ≤ l.length := fun he => by
    have h0 : p.2.err = 0 := by
      by_cases h : p.2.err = 0
      · exact h
      · have := txsS_bad p.2 h; rw [hq] at this; rw [this] at he; exact absurd he h
    have := head_of (l := l) (by rw [hp]; exact h0)
    rw [hp] at this; exact this
  obtain ⟨E, hE⟩ : ∃ E, q.2.err = E := ⟨_, rfl⟩
  obtain ⟨n, hn⟩ : ∃ n, q.2.rest.length = n := ⟨_, rfl⟩
  dsimp only at hR
  rw [hE, hn] at hR
  rw [hE] at hbad
  unfold txsS at hq
  obtain ⟨c, hc⟩ : ∃ c, countS p.2 100 = c := ⟨_, rfl⟩
  have hcr : c.2.rest.length ≤ 1000000 := by rw [← hc]; exact Nat.le_trans (count_restLe _ 100) hpr
  have hN : c.1 ≤ 100 := by rw [← hc]; exact count_le _ 100
  rw [hc] at hq
  obtain ⟨N, s1⟩ := c
  dsimp only at hcr hN hq
  obtain ⟨ps, hps⟩ : ∃ ps, p.2 = ps := ⟨_, rfl⟩
  rw [hps] at hF hpr hc
  go_enter Tryz.func28, Tryz.ntmps28
  go_wp2_with (first
    | ((with_reducible change wpList _ _ _ (Oper.mk (some 2) _ _ _ _ _ :: _) _ _); refine kAllocL _ _ rfl rfl zero_BlkC ?_; intro w1 hRA hz1 hB1; have hv1 := hv.below hB1; go_frame)
    | ((with_reducible change wpList _ _ _ (Oper.mk (some 11) _ _ _ _ _ :: _) _ _); refine kBuildScanC _ v hv1 rfl rfl rfl ?_; go_frame)
    | ((with_reducible change wpList _ _ _ (Oper.mk (some 12) _ _ _ _ _ :: _) _ _); refine kBoxL _ _ _ rfl rfl rfl ?_; intro w2 hRS hz2 hB2; have h2 : Rd w1.heap.size 89 w2 w1.heap.size ⟨l, 0⟩ := ⟨v, hRS, hv1.below hB2, limR_vals hv1⟩; have hRA2 := hRA.below hB2 hRA.lt; have hgA : W0.heap.size ≠ w1.heap.size := (Nat.ne_of_lt hz1); have hge : Hid (W0.heap.size ≤ w1.heap.size) := (Nat.le_of_lt hz1); have hgl : Hid (W0.heap.size < w1.heap.size) := hz1; have hB3 := hB1.trans (hB2.mono hB1.size); clear hRA hRS hB1 hB2 hv1 hz1; go_frame)
    | ((with_reducible change wpList _ _ _ (Oper.mk (some 13) _ _ _ _ _ :: _) _ _); refine kBuildNs rfl rfl ?_; intro w3 hRI hz3 hBq; have hRA3 := hRA2.below hBq hRA2.lt; have h3 := h2.below hBq; have hB4 := hB3.trans (hBq.mono hB3.size); have hgI : Hid (w2.heap.size ≠ w1.heap.size) := Ne.symm (Nat.ne_of_lt hz2); have hz3h : Hid (w1.heap.size < w3.heap.size) := Nat.lt_trans hz2 hz3; clear hRA2 h2 hB3 hBq hz2 hz3; go_frame)
    | ((with_reducible change wpList _ _ _ (Oper.mk (some 14) _ _ _ _ _ :: _) _ _); refine kLenN _ _ _ _ nsV 6 rfl rfl rfl (ns_vals hRI) rfl Tryz.underlying90 ?_; go_frame))
  go_loopw [15] (fun x wr => ∃ (k : Nat) (s : Scn), k ≤ 6 ∧ x = .int .i64 (k : Int) ∧ Row wr W0.heap.size 29 (blkC noHead (.slice none 0 0)) ∧ Row wr w2.heap.size 3 nsV.toArray ∧ Rd w1.heap.size 89 wr w1.heap.size s ∧ s.rest.length ≤ 1000000 ∧ rawF (headNs.drop k) s = ps ∧ Below W0.heap.size W0 wr ∧ w3.heap.size ≤ wr.heap.size) (fun x _ => 6 - (intOf x).toNat)
  case atStart => exact ⟨0, _, by omega, rfl, hRA3, hRI, h3, hl, hF, hB4, Nat.le_refl _⟩
  case round =>
    clear hRA3 hRI h3 hF hB4
    obtain ⟨k, s, hk, rfl, hRA, hRI, hr, hsr, hF, hB, hsz⟩ := hrel
    by_cases hlt : k < 6
    · have hd : decide ((k : Int) < 6) = true := by simp; omega
      obtain ⟨z, hz⟩ : ∃ z, headNs[k]? = some z := ⟨_, List.getElem?_eq_getElem (by exact hlt)⟩
      have hzV : nsV[k]? = some (.int .i64 z) := by unfold nsV; rw [List.getElem?_map, hz]; rfl
      rw [rawF_step hz] at hF
      have hV := ns_vals hRI
      have hsr2 : (rawS s z).2.rest.length ≤ 1000000 := Nat.le_trans (raw_restLeC s z) hsr
      go_wp2_with (first
        | ((with_reducible change wpList _ _ _ (Oper.mk (some 16) _ _ _ _ _ :: _) _ _); refine kLssI _ _ _ _ .i64 (k : Int) 6 true rfl rfl rfl rfl hd ?_; go_frame)
        | ((with_reducible change wpList _ _ _ (Oper.mk (some 17) _ _ _ _ _ :: _) _ _); refine kIndexAddrV _ _ _ _ .i64 _ nsV (k : Int) k (.int .i64 z) rfl rfl rfl hV rfl Tryz.underlying90 info_intB rfl hzV ?_; intro b hb; go_frame)
        | ((with_reducible change wpList _ _ _ (Oper.mk (some 18) _ _ _ _ _ :: _) _ _); refine kLoadCell _ _ b (.int .i64 z) _ rfl rfl rfl hb Tryz.underlying3 rfl ?_; clear hb hV; go_frame)
        | (go_at_call 50; refine (jRaw_any (z := z) _ hr hsr).mono ?_; rintro e w4 ⟨u4, rfl, hV4, hr4, hX⟩; have hRA4 := hX.row hRA hgA; have hRI4 := hX.row hRI hgI.out; have hB5 := hB.trans (hX.below hge.out hB.size); have hsz5 := Nat.le_trans hsz hX.size; clear hRA hRI hr hB hsz hX hV4; go_frame)
        | ((with_reducible change wpList _ _ _ (Oper.mk (some 22) _ _ _ _ _ :: _) _ _); refine kAddI _ _ _ _ (k : Int) 1 ((k + 1 : Nat) : Int) (by omega) rfl rfl rfl rfl ?_; go_frame))
      go_roundw
      case rel => exact ⟨k + 1, _, by omega, rfl, hRA4, hRI4, hr4, hsr2, hF, hB5, hsz5⟩
      case measure => simp [intOf]; omega
    · have hd : decide ((k : Int) < 6) = false := by simp; omega
      have hk6 : k = 6 := by omega
      subst hk6
      have hFs : s = ps := hF
      subst hFs
      clear hRI hsr hF
      go_wp2_with (first
        | ((with_reducible change wpList _ _ _ (Oper.mk (some 16) _ _ _ _ _ :: _) _ _); refine kLssI _ _ _ _ .i64 ((6 : Nat) : Int) 6 false rfl rfl rfl rfl hd ?_; go_frame)
        | (go_at_call 51; refine (jCountOf_any (most := 100) _ hr hpr).mono ?_; rintro e w5 ⟨rfl, hr5, hX⟩; rw [hc] at hr5 ⊢; have hRA5 := hX.row hRA hgA; have hB5 := hB.trans (hX.below hge.out hB.size); have hsz5 := Nat.le_trans hsz hX.size; clear hRA hr hB hsz hX hc; go_frame)
        | ((with_reducible change wpList _ _ _ (Oper.mk (some 25) _ _ _ _ _ :: _) _ _); refine kConvUI _ N (by omega) rfl rfl rfl ?_; go_frame)
        | ((with_reducible change wpList _ _ _ (Oper.mk (some 26) _ _ _ _ _ :: _) _ _); refine kY (yBuildBlk0 rfl rfl) ?_; go_frame)
        | ((with_reducible change wpList _ _ _ (Oper.mk (some 8) _ _ _ _ _ :: _) _ _); refine kAllocL _ _ rfl rfl zero_BlkC ?_; intro w6 hRO hz6 hBq; have hRA6 := hRA5.below hBq hRA5.lt; have hr6 := hr5.below hBq; have hB6 := hB5.trans (hBq.mono hB5.size); have hgO : Hid (W0.heap.size < w5.heap.size) := hRA5.lt; have hsO : Hid (w1.heap.size < w5.heap.size) := Nat.lt_of_lt_of_le hz3h.out hsz5; clear hRA5 hr5 hB5 hsz5 hBq; go_frame)
        | ((with_reducible change wpList _ _ _ (Oper.mk none (Op.store _ (Operand.tmp 8) _) _ _ _ _ :: _) _ _); refine kStoreBlk _ _ _ noHead (.slice none 0 0) _ hRO (blkC_size _ _) rfl rfl rfl rfl rfl ?_; intro w7 hRO7 hW7; have hRA7 := hW7.row hRA6 (Nat.ne_of_lt hgO.out); have hr7 := hr6.wrote hW7 (Nat.le_of_lt hsO.out) (Nat.ne_of_lt hsO.out); have hB7 := hB6.trans (hW7.below (Nat.le_of_lt hgO.out)); have hz7 : Hid (w5.heap.size < w7.heap.size) := (by rw [hW7.size]; exact hz6); clear hRA6 hr6 hB6 hW7 hRO hz6; go_frame))
      clear hd hlt hk
      obtain ⟨P, hP⟩ : ∃ P, listS readS N s1 = P := ⟨_, rfl⟩
      rw [hP] at hq
      subst hq
      go_loopw [9] (fun x wr => ∃ (k : Nat) (zs : List TxZ) (s : Scn) (y : Value), k ≤ N ∧ x = .int .i64 (k : Int) ∧ Row wr W0.heap.size 29 (blkC noHead (.slice none 0 0)) ∧ Row wr w5.heap.size 29 (blkC noHead y) ∧ OwnR 4 34 wr w7.heap.size y (zs.map txR) ∧ (∀ z ∈ zs, OwnIns wr w7.heap.size z.2.1 z.1.ins ∧ OwnOuts wr w7.heap.size z.2.2 z.1.outs) ∧ zs.length = k ∧ Rd w1.heap.size 89 wr w1.heap.size s ∧ s.rest.length ≤ 1000000 ∧ (zs.map Prod.fst ++ (listS readS (N - k) s).1, (listS readS (N - k) s).2) = P ∧ Below W0.heap.size W0 wr ∧ w7.heap.size ≤ wr.heap.size) (fun x _ => N - (intOf x).toNat)
      case atStart => exact ⟨0, [], s1, _, by omega, rfl, hRA7, hRO7, ownR_nil _ _ _ _, (fun z hz => by cases hz), rfl, hr7, hcr, by rw [← hP]; rfl, hB7, Nat.le_refl _⟩
      case round =>
        clear hRA7 hRO7 hr7 hB7 hP
        obtain ⟨k, zs, s, y, hk, rfl, hRA, hRO, hO, hU, hzl, hr, hsr, hPP, hB, hsz⟩ := hrel
        have hg7 : Hid (w1.heap.size < w7.heap.size) := Nat.lt_trans hsO.out hz7.out
        have hA7 : Hid (W0.heap.size < w7.heap.size) := Nat.lt_trans hgO.out hz7.out
        by_cases hlt : k < N
        · have hd : decide ((k : Int) < (N : Int)) = true := by simp; omega
          have hPP2 : (zs.map Prod.fst ++ ((readS s).1 :: (listS readS (N - (k + 1)) (readS s).2).1), (listS readS (N - (k + 1)) (readS s).2).2) = P := by
            rw [show N - k = (N - (k + 1)) + 1 by omega] at hPP; exact hPP
          clear hPP
          have hsr2 : (readS s).2.rest.length ≤ 1000000 := Nat.le_trans (read_restLe s) hsr
          obtain ⟨⟨t, s2⟩, hrd⟩ : ∃ p, readS s = p := ⟨_, rfl⟩
          rw [hrd] at hPP2 hsr2
          dsimp only at hPP2 hsr2
          have hLm : w1.heap.size ≤ wr.heap.size := Nat.le_of_lt (Nat.lt_of_lt_of_le hg7.out hsz)
          go_wp2_with (first
            | ((with_reducible change wpList _ _ _ (Oper.mk (some 29) _ _ _ _ _ :: _) _ _); refine kLssI _ _ _ _ .i64 (k : Int) (N : Int) true rfl rfl rfl rfl hd ?_; go_frame))
          refine region_mixE [(0, true), (1, true), (2, true), (3, false), (4, false), (5, false), (6, true)] 7 _ (fun w => Row w w5.heap.size 29 (blkC noHead y)) (by kernel_rfl) (by kernel_rfl) rfl rfl ?_
          intro z0 hBd hsd
          clear hsd
          have hRA0 := hRA.below hBd hRA.lt
          have hS := hRO.below hBd hRO.lt
          have hO0 := hO.below hBd
          have hU0 := fun z hz => (⟨(hU z hz).1.below hBd, (hU z hz).2.below hBd⟩ : OwnIns z0 w7.heap.size z.2.1 z.1.ins ∧ OwnOuts z0 w7.heap.size z.2.2 z.1.outs)
          have hr0 := hr.below hBd
          have hB0 := hB.trans (hBd.mono hB.size)
          have hsz0 := Nat.le_trans hsz hBd.size
          have hLm0 := Nat.le_trans hLm hBd.size
          clear hRA hRO hO hU hr hB hsz hBd hLm
          simp only [List.map_cons, List.map_nil]
          dsimp only [List.filterMap, List.getElem?_cons_zero, List.getElem?_cons_succ]
          refine dY _ hS (yFld blkF1 _ _ 0 68 rfl rfl rfl rfl) ?_; go_frame
          refine dY _ hS (yLoad1 _ _ _ w5.heap.size 68 (blkC noHead y) y _ rfl rfl rfl (fun _ h => h) Tryz.underlying27 rfl (blkC_68 _ _)) ?_; go_frame
          refine dY _ hS (yMove _ (.pointer (some ⟨w1.heap.size, 0, none⟩)) rfl rfl rfl) ?_; go_frame
          refine dLoud ?_
          refine kCall1 52 _ _ _ rfl rfl (by kernel_rfl) rfl ?_
          refine (yRead_any _ hr0 hsr hLm0).mono ?_
          rintro e w8 ⟨a, b, rfl, hoa, hob, hr8, hX⟩
          rw [hrd] at hr8 hoa hob ⊢
          have hg0 : Hid (w1.heap.size < w7.heap.size) := hg7
          have hRA8 := hX.row hRA0 hgA
          have hRO8 := hX.row hS (Ne.symm (Nat.ne_of_lt hsO.out))
          have hO8 := hO0.over (over_exc hX hg7.out)
          have hU8 := fun z hz => (⟨(hU0 z hz).1.over (over_exc hX hg7.out), (hU0 z hz).2.over (over_exc hX hg7.out)⟩ : OwnIns w8 w7.heap.size z.2.1 z.1.ins ∧ OwnOuts w8 w7.heap.size z.2.2 z.1.outs)
          have hB8 := hB0.trans (hX.below hge.out hB0.size)
          have hoa8 := hoa.less hsz0
          have hob8 := hob.less hsz0
          have hsz8 := Nat.le_trans hsz0 hX.size
          clear hS hRA0 hO0 hU0 hr0 hB0 hX hoa hob hsz0 hLm0 hg0
          refine ⟨_, rfl, mixOn ⟨(fun w => Row w w5.heap.size 29 (blkC noHead y)), (fun _ h => h), hRO8, ?_⟩⟩
          go_frame
          refine dLoud ?_
          refine kBuildTxs1 _ t.version t.end' a b hoa8.of.sl hob8.of.sl rfl rfl rfl ?_
          intro w9 hR9 hz9 hB9
          have hRA9 := hRA8.below hB9 hRA8.lt
          have hRO9 := hRO8.below hB9 hRO8.lt
          have hO9 := hO8.below hB9
          have hU9 := fun z hz => (⟨(hU8 z hz).1.below hB9, (hU8 z hz).2.below hB9⟩ : OwnIns w9 w7.heap.size z.2.1 z.1.ins ∧ OwnOuts w9 w7.heap.size z.2.2 z.1.outs)
          have hoa9 := hoa8.below hB9
          have hob9 := hob8.below hB9
          have hr9 := hr8.below hB9
          have hBB9 := hB8.trans (hB9.mono hB8.size)
          have hsz9 := Nat.le_trans hsz8 hB9.size
          have hrow : IsRows 4 w9 (.slice (some ⟨w8.heap.size, 0, none⟩) 1 1) ([(t, a, b)].map txR) := isRows_one hR9 (txR_len _)
          clear hRA8 hRO8 hO8 hU8 hoa8 hob8 hr8 hB8 hB9 hz9 hR9 hsz8
          refine mixOn ⟨(fun w => Row w w5.heap.size 29 (blkC noHead y)), (fun _ h => h), hRO9, ?_⟩
          go_frame
          refine dLoud ?_
          refine kAppTxs _ _ rfl rfl w7.heap.size _ _ zs [(t, a, b)] rfl hO9 rfl hrow (by intro z hz; simp at hz; subst hz; exact ⟨hoa9.of.sl.one, hob9.of.sl.one⟩) (by simp; omega) hsz9 ?_
          intro y2 wa hOa hBa hga
          have hUa := fun z (hz : z ∈ zs) => (⟨ownIns_grownT (hU9 z hz).1 hO9 (by decide) (by decide) hga, ownOuts_grownT (hU9 z hz).2 hO9 (by decide) (by decide) hga⟩ : OwnIns wa w7.heap.size z.2.1 z.1.ins ∧ OwnOuts wa w7.heap.size z.2.2 z.1.outs)
          have hoaa := ownIns_grownT hoa9 hO9 (by decide) (by decide) hga
          have hoba := ownOuts_grownT hob9 hO9 (by decide) (by decide) hga
          have hra := hr9.under hBa hg7.out (Nat.le_of_lt hg7.out)
          have hRAa := hRA9.below hBa hA7.out
          have hROa := hRO9.below hBa hz7.out
          have hBBa := hBB9.trans (hBa.mono (Nat.le_of_lt hA7.out))
          have hsza := Nat.le_trans hsz9 hBa.size
          clear hRA9 hRO9 hO9 hU9 hoa9 hob9 hr9 hBB9 hBa hga hrow hsz9
          refine mixOn ⟨(fun w => Row w w5.heap.size 29 (blkC noHead y)), (fun _ h => h), hROa, ?_⟩
          go_frame
          refine dY _ hROa (yFld blkF1 _ _ 0 68 rfl rfl rfl rfl) ?_; go_frame
          refine dDone ?_
          refine kStore1 _ _ _ _ _ 68 _ y2 rfl rfl rfl rfl hROa info_txsC (by rw [blkC_size]; decide) (OwnR.rows hOa).sl.one ?_
          intro wb hROb hWb
          rw [blkC_set] at hROb
          have hRAb := hWb.row hRAa (Nat.ne_of_lt hgO.out)
          have hOb := hOa.over (over_wrote hWb hz7.out)
          have hUb := fun z (hz : z ∈ zs) => (⟨(hUa z hz).1.over (over_wrote hWb hz7.out), (hUa z hz).2.over (over_wrote hWb hz7.out)⟩ : OwnIns wb w7.heap.size z.2.1 z.1.ins ∧ OwnOuts wb w7.heap.size z.2.2 z.1.outs)
          have hoab := hoaa.over (over_wrote hWb hz7.out)
          have hobb := hoba.over (over_wrote hWb hz7.out)
          have hrb := hra.wrote hWb (Nat.le_of_lt hsO.out) (Nat.ne_of_lt hsO.out)
          have hBBb := hBBa.trans (hWb.below (Nat.le_of_lt hgO.out))
          have hszb : w7.heap.size ≤ wb.heap.size := by rw [hWb.size]; exact hsza
          clear hRAa hROa hOa hUa hoaa hoba hra hBBa hWb hsza
          refine mixOn ?_
          go_frame
          go_wp2_with (first
            | ((with_reducible change wpList _ _ _ (Oper.mk (some 31) _ _ _ _ _ :: _) _ _); refine kAddI _ _ _ _ (k : Int) 1 ((k + 1 : Nat) : Int) (by omega) rfl rfl rfl rfl ?_; go_frame))
          go_roundw
          case rel =>
            refine ⟨k + 1, zs ++ [(t, a, b)], s2, y2, by omega, rfl, hRAb, hROb, hOb, fun z hz => ?_, by simp; omega, hrb, hsr2, by rw [← hPP2]; simp, hBBb, hszb⟩
            rcases List.mem_append.1 hz with hz | hz
            · exact hUb z hz
            · simp at hz; subst hz; exact ⟨hoab, hobb⟩
          case measure => simp [intOf]; omega
        · have hd : decide ((k : Int) < (N : Int)) = false := by simp; omega
          rw [show N - k = 0 by omega] at hPP
          have hPP2 : (zs.map Prod.fst ++ [], s) = P := hPP
          rw [List.append_nil] at hPP2
          subst hPP2
          dsimp only at hE hn hR
          obtain ⟨vS, hRS, hVS, hLS⟩ := id hr
          rw [hE] at hRS
          clear hPP hlt hk hsr
          have hOT : OwnTxs wr w7.heap.size y (zs.map Prod.fst) := ⟨zs, rfl, hO, hU⟩
          by_cases e0 : E ≠ 0
          · rw [if_pos e0] at hR
            subst hR
            have he : (!decide ((E : Int) = 0)) = true := by simp; exact e0
            clear e0
            go_wp2_with (first
              | ((with_reducible change wpList _ _ _ (Oper.mk (some 29) _ _ _ _ _ :: _) _ _); refine kLssI _ _ _ _ .i64 (k : Int) (N : Int) false rfl rfl rfl rfl hd ?_; go_frame)
              | ((with_reducible change wpList _ _ _ (Oper.mk (some 41) _ _ _ _ _ :: _) _ _); refine kS1 _ w1.heap.size rfl rfl rfl ?_; go_frame)
              | ((with_reducible change wpList _ _ _ (Oper.mk (some 42) _ _ _ _ _ :: _) _ _); refine kLoad1 _ _ _ w1.heap.size 1 _ (.int .i64 (E : Int)) _ rfl rfl rfl hRS Tryz.underlying3 rfl rfl ?_; go_frame)
              | ((with_reducible change wpList _ _ _ (Oper.mk (some 43) _ _ _ _ _ :: _) _ _); refine kNeqI _ _ _ _ .i64 (E : Int) 0 true rfl rfl rfl rfl he ?_; go_frame))
            refine region_mixD [(0, true), (1, true), (2, true), (3, true), (4, true), (5, false), (6, true)] (fun w => Row w w1.heap.size 89 #[vS, .int .i64 (E : Int)]) (by kernel_rfl) (by kernel_rfl) rfl ?_
            intro z0 hBd hsd
            have hRA8 := hRA.below hBd hRA.lt
            have hRS8 := hRS.below hBd hRS.lt
            have hB8 := hB.trans (hBd.mono hB.size)
            clear hRA hRS hB hBd hsd
            simp only [List.map_cons, List.map_nil]
            dsimp only [List.filterMap, List.getElem?_cons_zero, List.getElem?_cons_succ]
            refine dY _ hRS8 (yBuildBlk0 rfl rfl) ?_; go_frame
            refine dY _ hRS8 (yMove _ (.pointer (some ⟨w1.heap.size, 0, none⟩)) rfl rfl rfl) ?_; go_frame
            refine dY _ hRS8 (yNil _ ⟨w1.heap.size, 0, none⟩ rfl rfl rfl) ?_; go_frame
            refine dY _ hRS8 (yFld scanF1 _ _ 0 1 rfl rfl rfl rfl) ?_; go_frame
            refine dY _ hRS8 (yLoad1 _ _ _ _ 1 _ (.int .i64 (E : Int)) _ rfl rfl rfl (fun _ h => h) Tryz.underlying3 rfl rfl) ?_; go_frame
            refine dLoud ?_
            refine kStoreBlk _ _ W0.heap.size noHead (.slice none 0 0) _ hRA8 (blkC_size _ _) rfl rfl rfl rfl rfl ?_
            intro w9 hRA9 hW9
            have hB9 := hB8.trans (hW9.below (Nat.le_refl _))
            have hRS9 := hW9.row hRS8 (Ne.symm hgA)
            refine mixOn ⟨fun w => Row w w1.heap.size 89 #[vS, .int .i64 (E : Int)], fun _ h => h, hRS9, ?_⟩
            go_frame
            refine dY _ hRS9 (yAssign _ (.int .i64 (E : Int)) rfl rfl rfl) ?_; go_frame
            refine dDone ?_
            go_wp2
            (try simp only [Exit.inBlock, Exit.then])
            exact result_row_tmp rfl rfl rfl hRA9 Tryz.underlying29 rfl (info_BlkS _ _) rfl ⟨_, rfl, ownTxs_nil _ _, hB9⟩
          rw [if_neg e0] at hR
          have he : (!decide ((E : Int) = 0)) = false := by simp; omega
          have e0' : E = 0 := by omega
          obtain ⟨hh, h80⟩ := hbad e0'
          clear e0 hbad
          by_cases n0 : 0 < n
          · rw [if_pos n0] at hR
            subst hR
            have hn0 : decide ((n : Int) > 0) = true := by simp; omega
            clear n0
            go_wp2_with (first
              | ((with_reducible change wpList _ _ _ (Oper.mk (some 29) _ _ _ _ _ :: _) _ _); refine kLssI _ _ _ _ .i64 (k : Int) (N : Int) false rfl rfl rfl rfl hd ?_; go_frame)
              | ((with_reducible change wpList _ _ _ (Oper.mk (some 41) _ _ _ _ _ :: _) _ _); refine kS1 _ w1.heap.size rfl rfl rfl ?_; go_frame)
              | ((with_reducible change wpList _ _ _ (Oper.mk (some 42) _ _ _ _ _ :: _) _ _); refine kLoad1 _ _ _ w1.heap.size 1 _ (.int .i64 (E : Int)) _ rfl rfl rfl hRS Tryz.underlying3 rfl rfl ?_; go_frame)
              | ((with_reducible change wpList _ _ _ (Oper.mk (some 43) _ _ _ _ _ :: _) _ _); refine kNeqI _ _ _ _ .i64 (E : Int) 0 false rfl rfl rfl rfl he ?_; go_frame)
              | ((with_reducible change wpList _ _ _ (Oper.mk (some 51) _ _ _ _ _ :: _) _ _); refine kS0 _ w1.heap.size rfl rfl rfl ?_; go_frame)
              | ((with_reducible change wpList _ _ _ (Oper.mk (some 52) _ _ _ _ _ :: _) _ _); refine kLoad1 _ _ _ w1.heap.size 0 _ vS _ rfl rfl rfl hRS Tryz.underlying38 rfl rfl ?_; go_frame)
              | ((with_reducible change wpList _ _ _ (Oper.mk (some 53) _ _ _ _ _ :: _) _ _); refine kLenN _ _ _ vS _ n rfl rfl rfl hVS (by rw [List.length_map, hn]) Tryz.underlying38 ?_; go_frame)
              | ((with_reducible change wpList _ _ _ (Oper.mk (some 54) _ _ _ _ _ :: _) _ _); refine kGtrI _ _ _ _ .i64 (n : Int) 0 true rfl rfl rfl rfl hn0 ?_; go_frame)
              | ((with_reducible change wpList _ _ _ (Oper.mk (some 55) _ _ _ _ _ :: _) _ _); refine kY (yBuildBlk0 rfl rfl) ?_; go_frame)
              | ((with_reducible change wpList _ _ _ (Oper.mk none (Op.store _ (Operand.tmp 2) _) _ _ _ _ :: _) _ _); refine kStoreBlk _ _ W0.heap.size noHead (.slice none 0 0) _ hRA (blkC_size _ _) rfl rfl rfl rfl rfl ?_; intro w9 hRA9 hW9; have hB9 := hB.trans (hW9.below (Nat.le_refl _)); go_frame))
            (try simp only [Exit.inBlock, Exit.then])
            exact result_row_tmp rfl rfl rfl hRA9 Tryz.underlying29 rfl (info_BlkS _ _) rfl ⟨_, rfl, ownTxs_nil _ _, hB9⟩
          · rw [if_neg n0] at hR
            subst hR
            have hn0 : decide ((n : Int) > 0) = false := by simp; omega
            clear n0
            have hvr := hv.below hB
            go_wp2_with (first
              | ((with_reducible change wpList _ _ _ (Oper.mk (some 29) _ _ _ _ _ :: _) _ _); refine kLssI _ _ _ _ .i64 (k : Int) (N : Int) false rfl rfl rfl rfl hd ?_; go_frame)
              | ((with_reducible change wpList _ _ _ (Oper.mk (some 41) _ _ _ _ _ :: _) _ _); refine kS1 _ w1.heap.size rfl rfl rfl ?_; go_frame)
              | ((with_reducible change wpList _ _ _ (Oper.mk (some 42) _ _ _ _ _ :: _) _ _); refine kLoad1 _ _ _ w1.heap.size 1 _ (.int .i64 (E : Int)) _ rfl rfl rfl hRS Tryz.underlying3 rfl rfl ?_; go_frame)
              | ((with_reducible change wpList _ _ _ (Oper.mk (some 43) _ _ _ _ _ :: _) _ _); refine kNeqI _ _ _ _ .i64 (E : Int) 0 false rfl rfl rfl rfl he ?_; go_frame)
              | ((with_reducible change wpList _ _ _ (Oper.mk (some 51) _ _ _ _ _ :: _) _ _); refine kS0 _ w1.heap.size rfl rfl rfl ?_; go_frame)
              | ((with_reducible change wpList _ _ _ (Oper.mk (some 52) _ _ _ _ _ :: _) _ _); refine kLoad1 _ _ _ w1.heap.size 0 _ vS _ rfl rfl rfl hRS Tryz.underlying38 rfl rfl ?_; go_frame)
              | ((with_reducible change wpList _ _ _ (Oper.mk (some 53) _ _ _ _ _ :: _) _ _); refine kLenN _ _ _ vS _ n rfl rfl rfl hVS (by rw [List.length_map, hn]) Tryz.underlying38 ?_; go_frame)
              | ((with_reducible change wpList _ _ _ (Oper.mk (some 54) _ _ _ _ _ :: _) _ _); refine kGtrI _ _ _ _ .i64 (n : Int) 0 false rfl rfl rfl rfl hn0 ?_; go_frame)
              | (go_at_call 53; refine (xHeadOf_any _ hvr h80).mono ?_; rintro e w8 ⟨rfl, hBq⟩; rw [← hh]; have hRA8 := hRA.below hBq hRA.lt; have hRO8 := hRO.below hBq hRO.lt; have hOT8 := hOT.below hBq; have hB8 := hB.trans (hBq.mono hB.size); clear hRA hRO hOT hB hBq hvr; go_frame)
              | ((with_reducible change wpList _ _ _ (Oper.mk (some 58) _ _ _ _ _ :: _) _ _); refine kY (yFld blkF0 _ _ 0 0 rfl rfl rfl rfl) ?_; go_frame)
              | ((with_reducible change wpList _ _ _ (Oper.mk none (Op.store _ (Operand.tmp 58) _) _ _ _ _ :: _) _ _); refine kStorePart _ _ _ _ w5.heap.size 0 _ (headC p.1) rfl rfl rfl rfl hRO8 (info_HeadS _) (by rw [headC_size, blkC_size]; decide) (headC_one _) ?_; intro w9 hRO9 hW9; rw [blkC_splice] at hRO9; have hRA9 := hW9.row hRA8 (Nat.ne_of_lt hgO.out); have hOT9 := hOT8.over (over_wrote hW9 hz7.out); have hB9 := hB8.trans (hW9.below (Nat.le_of_lt hgO.out)); clear hRA8 hRO8 hOT8 hB8 hW9; go_frame)
              | ((with_reducible change wpList _ _ _ (Oper.mk (some 59) _ _ _ _ _ :: _) _ _); refine kLoadBlk _ _ p.1 y hRO9 rfl rfl rfl ?_; go_frame)
              | ((with_reducible change wpList _ _ _ (Oper.mk none (Op.store _ (Operand.tmp 2) _) _ _ _ _ :: _) _ _); refine kStoreBlk _ _ W0.heap.size p.1 y _ hRA9 (blkC_size _ _) hOT9.of.sl.one rfl rfl rfl rfl ?_; intro w10 hRA10 hW9; have hB10 := hB9.trans (hW9.below (Nat.le_refl _)); have hOT10 := (hOT9.over (over_wrote hW9 hA7.out)).less (Nat.le_of_lt hA7.out); go_frame))
            (try simp only [Exit.inBlock, Exit.then])
            exact result_row_tmp rfl rfl rfl hRA10 Tryz.underlying29 rfl (info_BlkS _ _) rfl ⟨_, rfl, hOT10, hB10⟩
end Go.Proofs.YtmfjgehlkbndjaaGreatDoor
