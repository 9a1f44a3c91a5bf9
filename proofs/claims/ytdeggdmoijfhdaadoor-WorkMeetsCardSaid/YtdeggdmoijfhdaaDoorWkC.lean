/-
  Joined: WkMeet, WkMeet2, WkLaw6.
-/
import Derived.Test.YtdeggdmoijfhdaaDoorBkA
import Derived.Test.YtdeggdmoijfhdaaDoorWkB
import Derived.Test.YtdeggdmoijfhdaaDoorKit12
/-
  Layer 12: was it hard enough? 32 bytes turned round; a block's name as a number; the program's Meets and the reference's.
-/
namespace Go.Proofs.YtdeggdmoijfhdaaDoor
open Go Go.RowKit

section
variable {P : Program} {ops : Array Oper} {Q : Exit → Act → World → Prop} {L : Act → World → Prop} {o : Oper} {a : Act} {w : World}
/-- two quiet ones that may come in either order -/
theorem tTwoYY {k k' : Nat} {t : PT} {o' : Oper} {d d' : Tmp} (v v' : Value) (h0 : ops.toList[k]? = some o) (h0' : ops.toList[k']? = some o') (hd : o.dst = some d) (hd' : o'.dst = some d') (hne : d ≠ d')
    (hy1 : YieldsIf P ops (fun x => x = w) o v a) (hy2 : YieldsIf P ops (fun x => x = w) o' v' (a.put o.dst v)) (hy3 : YieldsIf P ops (fun x => x = w) o' v' a) (hy4 : YieldsIf P ops (fun x => x = w) o v (a.put o'.dst v'))
    (h : wpPT P ops Q L t (fun _ => True) ((a.put o.dst v).put o'.dst v') w) : wpPT P ops Q L (.two k (.one k' t) k' (.one k t)) (fun _ => True) a w := by
  have e : (a.put o'.dst v').put o.dst v = (a.put o.dst v).put o'.dst v' := by
    rw [hd, hd']
    simp only [Act.put]
    rw [Array.setIfInBounds_comm _ _ (Ne.symm hne)]
  refine tTwo h0 h0' (kYw hy1 (mixOn ⟨fun _ => True, fun _ h => h, trivial, tOne h0' (kYw hy2 (mixOn ⟨fun _ => True, fun _ h => h, trivial, h⟩))⟩)) (kYw hy3 (mixOn ⟨fun _ => True, fun _ h => h, trivial, tOne h0 (kYw hy4 (mixOn ⟨fun _ => True, fun _ h => h, trivial, ?_⟩))⟩))
  rw [e]
  exact h
end
theorem yIndexG {ops : Array Oper} {o : Oper} {a : Act} {S : World → Prop} (T E : TypeId) (x y : Operand) (g n c j : Nat) (ht : Tryd.prog.underlying T = some (.slice E)) (hs : (Tryd.prog.info? E).map (·.size) = some 1) (hj : j < n) (ho : o.op = .indexAddr T x y) (hg : Region.wanted o (yielded ops a.tmps) = true) (hx : a.eval x = .slice (some ⟨g, 0, none⟩) n c) (hy : a.eval y = .int .i64 (j : Int)) : YieldsIf Tryd.prog ops S o (.pointer (some ⟨g, j, none⟩)) a := by
  have := yIndexK (ops := ops) (S := S) (o := o) (a := a) T E x y ⟨g, 0, none⟩ n c j ht hs hj ho hg hx hy
  rw [add_none, Nat.zero_add] at this; exact this
theorem wk_wrote {g : Nat} (w : World) : Wrote g w w := ⟨rfl, rfl, rfl, rfl, fun _ _ => rfl⟩
theorem wk_trans {g : Nat} {w1 w2 w3 : World} (h1 : Wrote g w1 w2) (h2 : Wrote g w2 w3) : Wrote g w1 w3 :=
  ⟨h2.os.trans h1.os, h2.tape.trans h1.tape, h2.output.trans h1.output, h2.size.trans h1.size, fun k hk => (h2.other k hk).trans (h1.other k hk)⟩
theorem wk_drawn {g : Nat} {w w' : World} (h : Below w.heap.size w w') (hs : w'.heap.size = w.heap.size) : Wrote g w w' :=
  ⟨h.os, h.tape, h.output, hs, fun k _ => by
    by_cases hk : k < w.heap.size
    · exact h.block k hk
    · rw [Array.getElem?_eq_none (by omega), Array.getElem?_eq_none (by omega)]⟩
theorem yIdxA {ops : Array Oper} {o : Oper} {a : Act} {S : World → Prop} {T E : TypeId} {len : Nat} (ht : Tryd.prog.underlying T = some (.array len E)) (hi : (Tryd.prog.info? E).map (·.size) = some 1) (x y : Operand) (g k : Nat) (hk : k < len) (ho : o.op = .indexAddr T x y) (hg : Region.wanted o (yielded ops a.tmps) = true) (hx : a.eval x = .pointer (some ⟨g, 0, none⟩)) (hy : a.eval y = .int .i64 (k : Int)) : YieldsIf Tryd.prog ops S o (.pointer (some ⟨g, k, none⟩)) a :=
  yOf hg fun w _ => by
    have hrun : (Instr.indexAt T (.pointer (some ⟨g, 0, none⟩)) (.int .i64 (k : Int))).run Tryd.prog w = .ok (.pointer (some ⟨g, k, none⟩)) w := by
      cases hq : Tryd.prog.info? E with
      | none => simp [hq] at hi
      | some t =>
        have hs' : t.size = 1 := by simpa [hq] using hi
        simp [Instr.indexAt, Instr.sureAddr, asIntOf, run_underlying ht, sizeOf, typeInfo, hq, hs', hk, add_none]
    unfold execOp
    simp only [ho, hx, hy, Sem.run_bind, hrun, Result.andThen_ok, Sem.run_pure]
theorem yMulN {P : Program} {ops : Array Oper} {o : Oper} {a : Act} {S : World → Prop} (k : IntKind) (T T2 : TypeId) (x y : Operand) (m n z : Nat) (hz : m * n = z ∧ k.wrap (z : Nat) = (z : Nat)) (ho : o.op = .binOp .mul T x y T2) (hg : Region.wanted o (yielded ops a.tmps) = true) (hx : a.eval x = .int k (m : Int)) (hy : a.eval y = .int k (n : Int)) : YieldsIf P ops S o (.int k (z : Int)) a :=
  yOf hg fun w _ => by
    obtain ⟨rfl, h1⟩ := hz
    rw [Int.natCast_mul] at h1
    unfold execOp; simp only [ho, hx, hy]; simp [eqGuard, binOp, Op.intArith, h1]
theorem yAddN {P : Program} {ops : Array Oper} {o : Oper} {a : Act} {S : World → Prop} (k : IntKind) (T T2 : TypeId) (x y : Operand) (m n z : Nat) (hz : m + n = z ∧ k.wrap (z : Nat) = (z : Nat)) (ho : o.op = .binOp .add T x y T2) (hg : Region.wanted o (yielded ops a.tmps) = true) (hx : a.eval x = .int k (m : Int)) (hy : a.eval y = .int k (n : Int)) : YieldsIf P ops S o (.int k (z : Int)) a :=
  yOf hg fun w _ => by
    obtain ⟨rfl, h1⟩ := hz
    rw [Int.natCast_add] at h1
    unfold execOp; simp only [ho, hx, hy]; simp [eqGuard, binOp, Op.intArith, h1]
/-- turned round as far as k at both ends -/
def revF (f : Nat → Value) (k : Nat) : Nat → Value := fun p => if p < k ∨ 31 - p < k then f (31 - p) else f p
theorem revF_zero (f : Nat → Value) : tab 32 (revF f 0) = tab 32 f := tab_congr fun p _ => by unfold revF; rw [if_neg (by omega)]
theorem revF_all (f : Nat → Value) : tab 32 (revF f 16) = tab 32 fun p => f (31 - p) := tab_congr fun p hp => by unfold revF; rw [if_pos (by omega)]
theorem revF_step (f : Nat → Value) {k : Nat} (hk : k < 16) : ((tab 32 (revF f k)).setIfInBounds k (f (31 - k))).setIfInBounds (31 - k) (f k) = tab 32 (revF f (k + 1)) := by
  rw [tab_set (g := fun p => if p = k then f (31 - k) else revF f k p) (fun p _ => rfl)]
  refine tab_set fun p hp => ?_
  unfold revF
  by_cases h1 : p = 31 - k
  · subst h1
    rw [if_pos rfl, if_pos (by omega), show 31 - (31 - k) = k by omega]
  · rw [if_neg h1]
    by_cases h2 : p = k
    · subst h2
      rw [if_pos (.inl (by omega)), if_pos rfl]
    · rw [if_neg h2]
      by_cases h3 : p < k ∨ 31 - p < k
      · rw [if_pos (by omega), if_pos h3]
      · rw [if_neg (by omega), if_neg h3]
set_option maxRecDepth 100000 in
set_option maxHeartbeats 16000000 in
theorem hReverse_32 {g : Nat} {f : Nat → Value} {U : TypeId} (hf : ∀ j, j < 32 → (f j).oneCell' = true) (w : World) (h : Row w g U (tab 32 f)) : Calls Tryd.prog 25 #[.slice (some ⟨g, 0, none⟩) 32 32] w (fun e w' => e = .returned (.tuple #[]) ∧ Row w' g U (tab 32 fun p => f (31 - p)) ∧ Wrote g w w') := by
  go_enter Tryd.func25, Tryd.ntmps25
  go_wp2_with (first
    | ((with_reducible change wpList _ _ _ (Oper.mk (some 5) _ _ _ _ _ :: _) _ _); refine kYw (yLenK _ _ _ (some ⟨g, 0, none⟩) 32 32 Tryd.underlying57 rfl rfl rfl) ?_; go_frame)
    | ((with_reducible change wpList _ _ _ (Oper.mk (some 6) _ _ _ _ _ :: _) _ _); refine kYw (ySubZ _ _ _ _ 32 1 31 (by decide) rfl rfl rfl rfl) ?_; go_frame))
  go_loopw [2, 3] (fun i j wr => ∃ (k : Nat) (z : Int), k ≤ 16 ∧ Hid (z = 31 - (k : Int)) ∧ i = .int .i64 (k : Int) ∧ j = .int .i64 z ∧ Row wr g U (tab 32 (revF f k)) ∧ Wrote g w wr) (fun i _ _ => 16 - (intOf i).toNat)
  case atStart => exact ⟨0, 31, by omega, Lib.hid (by decide), rfl, rfl, by rw [revF_zero]; exact h, wk_wrote w⟩
  case round =>
    obtain ⟨k, z, hk, Hz, rfl, rfl, hR, hW⟩ := hrel
    clear h
    by_cases hlt : k < 16
    · have hd : decide ((k : Int) < z) = true := by have := Hz.out; simp; omega
      obtain ⟨m, Hm⟩ : ∃ m, Hid (31 - k = m) := ⟨_, Lib.hid rfl⟩
      obtain rfl : z = (m : Int) := by have := Hz.out; have := Hm.out; omega
      have hm : m < 32 := by have := Hm.out; omega
      have hk32 : k < 32 := by omega
      have a1 : (tab 32 (revF f k))[m]? = some (f m) := by rw [tab_get _ _ _ hm]; unfold revF; rw [if_neg (by have := Hm.out; omega)]
      have a2 : (tab 32 (revF f k))[k]? = some (f k) := by rw [tab_get _ _ _ hk32]; unfold revF; rw [if_neg (by omega)]
      go_wp2_with (first
        | ((with_reducible change wpList _ _ _ (Oper.mk (some 9) _ _ _ _ _ :: _) _ _); refine kYw (yLssK _ _ _ _ .i64 (k : Int) (m : Int) true hd rfl rfl rfl rfl) ?_; go_frame))
      refine region_tree (.q 0 (.q 1 (.q 2 (.q 3 (.q 4 (.q 5 (.q 6 (.q 8 (.q 9 (.q 10 (.two 7 (.one 11 (.q 12 (.one 13 (.q 14 (.one 15 .fin))))) 11 (.one 7 (.q 12 (.one 13 (.q 14 (.one 15 .fin)))))))))))))))) (fun _ => True) (by kernel_rfl) (by kernel_rfl) ?_
      intro y hBd hsd
      have hRy : Row y g U (tab 32 (revF f k)) := hR.below hBd hR.lt
      have hWy : Wrote g w y := wk_trans hW (wk_drawn hBd hsd)
      clear hR hW hBd hsd
      have hS : (fun _ : World => True) y := trivial
      refine tY _ hS rfl (yMove _ (.slice (some ⟨g, 0, none⟩) 32 32) rfl rfl rfl) ?_; go_frame
      refine tY _ hS rfl (yMove _ (.int .i64 (k : Int)) rfl rfl rfl) ?_; go_frame
      refine tY _ hS rfl (yMove _ (.slice (some ⟨g, 0, none⟩) 32 32) rfl rfl rfl) ?_; go_frame
      refine tY _ hS rfl (yMove _ (.int .i64 (m : Int)) rfl rfl rfl) ?_; go_frame
      refine tY _ hS rfl (yMove _ (.slice (some ⟨g, 0, none⟩) 32 32) rfl rfl rfl) ?_; go_frame
      refine tY _ hS rfl (yMove _ (.int .i64 (m : Int)) rfl rfl rfl) ?_; go_frame
      refine tY _ hS rfl (yIndexG _ _ _ _ g 32 32 m Tryd.underlying57 info_b8P hm rfl rfl rfl rfl) ?_; go_frame
      refine tY _ hS rfl (yMove _ (.slice (some ⟨g, 0, none⟩) 32 32) rfl rfl rfl) ?_; go_frame
      refine tY _ hS rfl (yMove _ (.int .i64 (k : Int)) rfl rfl rfl) ?_; go_frame
      refine tY _ hS rfl (yIndexG _ _ _ _ g 32 32 k Tryd.underlying57 info_b8P hk32 rfl rfl rfl rfl) ?_; go_frame
      refine tTwoYY (f m) (f k) rfl rfl rfl rfl (by decide) (yLoad1 _ _ _ g m _ (f m) _ rfl rfl rfl (fun _ e => by cases e; exact hRy) Tryd.underlying5 rfl a1) (yLoad1 _ _ _ g k _ (f k) _ rfl rfl rfl (fun _ e => by cases e; exact hRy) Tryd.underlying5 rfl a2) (yLoad1 _ _ _ g k _ (f k) _ rfl rfl rfl (fun _ e => by cases e; exact hRy) Tryd.underlying5 rfl a2) (yLoad1 _ _ _ g m _ (f m) _ rfl rfl rfl (fun _ e => by cases e; exact hRy) Tryd.underlying5 rfl a1) ?_; go_frame
      refine tY _ hS rfl (yIndexG _ _ _ _ g 32 32 k Tryd.underlying57 info_b8P hk32 rfl rfl rfl rfl) ?_; go_frame
      refine tOne rfl ?_
      refine kStore1 _ _ _ _ g k _ (f m) rfl rfl rfl rfl hRy info_b8P (by rw [tab_size]; exact hk32) (hf _ (by omega)) ?_
      intro y2 hR2 hWn
      have hW2 := wk_trans hWy hWn
      clear hWn hRy hS
      have hS : (fun _ : World => True) y2 := trivial
      refine mixOn ⟨_, (fun _ h => h), hS, ?_⟩
      go_frame
      refine tY _ hS rfl (yIndexG _ _ _ _ g 32 32 m Tryd.underlying57 info_b8P hm rfl rfl rfl rfl) ?_; go_frame
      refine tOne rfl ?_
      refine kStore1 _ _ _ _ g m _ (f k) rfl rfl rfl rfl hR2 info_b8P (by rw [Array.size_setIfInBounds, tab_size]; exact hm) (hf _ (by omega)) ?_
      intro y3 hR3 hWn
      have hW3 := wk_trans hW2 hWn
      clear hWn hR2 hS
      have hS : (fun _ : World => True) y3 := trivial
      refine mixOn ⟨_, (fun _ h => h), hS, ?_⟩
      go_frame
      refine tDone ?_
      clear hS
      go_wp2_with (first
        | ((with_reducible change wpList _ _ _ (Oper.mk (some 11) _ _ _ _ _ :: _) _ _); refine kYw (yAddZ _ _ _ _ (k : Int) 1 ((k + 1 : Nat) : Int) (by omega) rfl rfl rfl rfl) ?_; go_frame)
        | ((with_reducible change wpList _ _ _ (Oper.mk (some 13) _ _ _ _ _ :: _) _ _); refine kYw (ySubZ _ _ _ _ (m : Int) 1 ((m : Int) - 1) (by omega) rfl rfl rfl rfl) ?_; go_frame))
      have hR4 : Row y3 g U (tab 32 (revF f (k + 1))) := by rw [← revF_step f hlt, Hm.out]; exact hR3
      go_roundw
      case rel => exact ⟨k + 1, (m : Int) - 1, by omega, Lib.hid (by have := Hm.out; omega), rfl, rfl, hR4, hW3⟩
      case measure => simp [intOf]; omega
    · obtain rfl : k = 16 := by omega
      have hd : decide (((16 : Nat) : Int) < z) = false := by have := Hz.out; simp; omega
      go_wp2_with (first
        | ((with_reducible change wpList _ _ _ (Oper.mk (some 9) _ _ _ _ _ :: _) _ _); refine kYw (yLssK _ _ _ _ .i64 ((16 : Nat) : Int) z false hd rfl rfl rfl rfl) ?_; go_frame))
      go_end0
      exact ⟨rfl, by rw [← revF_all]; exact hR, hW⟩
/-- a block's name as a number: the lowest byte first -/
def nameN (h : HeadP) : Nat := bnum (fun i => (at8 (hidL h) i).toNat) 32
theorem nameN_lt (h : HeadP) : nameN h < M256 := bnum_M256 _ fun i => UInt8.toNat_lt _
theorem bnum_congr {f g : Nat → Nat} : ∀ k, (∀ i, i < k → f i = g i) → bnum f k = bnum g k
  | 0, _ => rfl
  | k + 1, h => by show bnum f k + f k * _ = bnum g k + g k * _; rw [bnum_congr k (fun i hi => h i (by omega)), h k (by omega)]
theorem nameN_from (h : HeadP) : bnum (fun i => (at8 (hidL h) (31 - (31 - i))).toNat) 32 = nameN h := bnum_congr 32 fun i hi => by rw [show 31 - (31 - i) = i by omega]
set_option maxRecDepth 100000 in
set_option maxHeartbeats 16000000 in
theorem kNamed_any {h : HeadP} {n : Nat} (hn : nameN h = n) (W0 : World) (hh : h.Is) (hK : Keys W0) : Calls Tryd.prog 12 #[.agg (headC h)] W0 fun e w' => e = .returned (WV n) ∧ Below W0.heap.size W0 w' := by
  go_enter Tryd.func12, Tryd.ntmps12
  have hB00 := Below.refl W0.heap.size W0
  go_wp2_with (first
    | ((with_reducible change wpList _ _ _ (Oper.mk (some 1) _ _ _ _ _ :: _) _ _); refine kBoxL _ _ _ rfl rfl rfl ?_; intro y1 hV1 hzq hBq; clear hzq; have hB1 := hB00.trans (hBq.mono hB00.size); clear hB00 hBq; go_frame)
    | ((with_reducible change wpList _ _ _ (Oper.mk (some 2) _ _ _ _ _ :: _) _ _); refine kAllocL _ _ rfl rfl zero_Wide ?_; intro y2 hV2 hzq hBq; clear hzq; have hg2 : Hid (W0.heap.size ≤ y1.heap.size) := Lib.hid hB1.size; have hV1 := hV1.below hBq hV1.lt; have hB2 := hB1.trans (hBq.mono hB1.size); clear hB1 hBq; go_frame)
    | ((with_reducible change wpList _ _ _ (Oper.mk (some 4) _ _ _ _ _ :: _) _ _); refine kY (yLoadRowC Tryd.underlying26 rfl _ _ (headC h) (info_HeadS _) (fun _ e => by cases e; exact hV1) rfl rfl rfl) ?_; clear hV1; go_frame)
    | (go_at_call 24; refine (blId_any (h := h) _ hh (hK.below hB2)).mono ?_; rintro e y3 ⟨rfl, hBq⟩; have hV3 := hV2.below hBq hV2.lt; have hB3 := hB2.trans (hBq.mono hB2.size); clear hV2 hB2 hBq; go_frame)
    | ((with_reducible change wpList _ _ _ (Oper.mk (some 3) _ _ _ _ _ :: _) _ _); refine kAllocL _ _ rfl rfl zero_Hash ?_; intro y4 hX4 hzq hBq; clear hzq; have hg4 : Hid (W0.heap.size ≤ y3.heap.size) := Lib.hid hB3.size; have hne : Hid (y1.heap.size ≠ y3.heap.size) := Lib.hid (by have := hV3.lt; omega); have hV4 := hV3.below hBq hV3.lt; have hB4 := hB3.trans (hBq.mono hB3.size); clear hV3 hB3 hBq; go_frame)
    | ((with_reducible change wpList _ _ _ (Oper.mk none (Op.store _ (Operand.tmp 3) _) _ _ _ _ :: _) _ _); refine kStoreHash _ _ _ (hidL h) _ hX4 (tab_size _ _) rfl rfl rfl rfl ?_; intro y5 hX5 hWq; have hV5 := hWq.row hV4 hne.out; have hB5 := hB4.trans (hWq.below hg4.out); clear hV4 hX4 hB4 hWq; go_frame)
    | ((with_reducible change wpList _ _ _ (Oper.mk (some 6) _ _ _ _ _ :: _) _ _); refine kSliceArr _ _ _ 32 _ 0 rfl rfl rfl Tryd.underlying24 info_b8P ?_; go_frame)
    | (go_at_call 25; refine (hReverse_32 (f := fun p => VB (at8 (hidL h) p)) (fun _ _ => rfl) _ hX5).mono ?_; rintro e y6 ⟨rfl, hX6, hWq⟩; have hV6 := hWq.row hV5 hne.out; have hB6 := hB5.trans (hWq.below hg4.out); clear hV5 hX5 hB5 hWq; go_frame)
    | ((with_reducible change wpList _ _ _ (Oper.mk (some 8) _ _ _ _ _ :: _) _ _); refine kY (yLoadRowC (U := 24) Tryd.underlying24 rfl _ _ (bcells fun p => (at8 (hidL h) (31 - p)).toNat) (by rw [bcells_size]; exact info_HashCo) (fun _ e => by cases e; exact hX6) rfl rfl rfl) ?_; clear hX6; go_frame)
    | (go_at_call 26; refine (wFrom_any (fun p => (at8 (hidL h) (31 - p)).toNat) (fun _ => UInt8.toNat_lt _) _).mono ?_; rintro e y7 ⟨rfl, hBq⟩; rw [nameN_from, hn]; have hV7 := hV6.below hBq hV6.lt; have hB7 := hB6.trans (hBq.mono hB6.size); clear hV6 hB6 hBq; unfold WV; go_frame)
    | ((with_reducible change wpList _ _ _ (Oper.mk none (Op.store _ (Operand.tmp 2) _) _ _ _ _ :: _) _ _); refine kStoreRow _ _ _ _ _ _ (wcells n) rfl rfl rfl rfl hV7 (info_WideC _) (by simp only [wcells_size]) (wcells_one _) ?_; intro y8 hV8 hWq; have hB8 := hB7.trans (hWq.below hg2.out); clear hV7 hB7 hWq; go_frame))
  (try simp only [Exit.inBlock, Exit.then])
  exact result_row rfl rfl hV8 Tryd.underlying31 rfl (info_WideC _) rfl ⟨rfl, hB8⟩
/-- the digits of a block's name -/
def nameD (h : HeadP) (j : Nat) : List Nat := (List.range j).map fun k => (at8 (hidL h) (2 * k)).toNat + 256 * (at8 (hidL h) (2 * k + 1)).toNat
theorem nameD_len (h : HeadP) (j : Nat) : (nameD h j).length = j := by simp [nameD]
theorem nameD_succ (h : HeadP) (j : Nat) : nameD h (j + 1) = nameD h j ++ [(at8 (hidL h) (2 * j)).toNat + 256 * (at8 (hidL h) (2 * j + 1)).toNat] := by simp [nameD, List.range_succ]
theorem nameD_digs (h : HeadP) (j : Nat) : Digs (nameD h j) := by
  intro x hx
  simp only [nameD, List.mem_map] at hx
  obtain ⟨k, -, rfl⟩ := hx
  have h1 := UInt8.toNat_lt (at8 (hidL h) (2 * k))
  have h2 := UInt8.toNat_lt (at8 (hidL h) (2 * k + 1))
  omega
theorem nameD_val (h : HeadP) : ∀ j, dval (nameD h j) = bnum (fun i => (at8 (hidL h) i).toNat) (2 * j)
  | 0 => rfl
  | j + 1 => by
    rw [nameD_succ, dval_snoc, nameD_val h j, nameD_len]
    show _ = bnum (fun i => (at8 (hidL h) i).toNat) (2 * j) + (at8 (hidL h) (2 * j)).toNat * 2 ^ (8 * (2 * j)) + (at8 (hidL h) (2 * j + 1)).toNat * 2 ^ (8 * (2 * j + 1))
    unfold P16
    rw [show (65536 : Nat) ^ j = 2 ^ (8 * (2 * j)) by rw [show 8 * (2 * j) = 16 * j by omega, Nat.pow_mul], show 8 * (2 * j + 1) = 8 * (2 * j) + 8 by omega, Nat.pow_add]
    generalize (2 : Nat) ^ (8 * (2 * j)) = p
    rw [Nat.mul_add, Nat.add_assoc, Nat.mul_comm p (256 * _), Nat.mul_comm p, Nat.mul_comm p (2 ^ 8), ← Nat.mul_assoc, Nat.mul_comm 256]
theorem nameD_num {h : HeadP} {w : World} {b : Nat} {v : Value} (hO : OwnD w b v (nameD h 16)) : Num w v (nameN h) 16 := ⟨nameD h 16, nameD_digs h 16, hO.dig, nameD_val h 16, by rw [nameD_len]; decide⟩
end Go.Proofs.YtdeggdmoijfhdaaDoor

/-
  Layer 12: was it hard enough? The program's Meets and the reference's.
-/
namespace Go.Proofs.YtdeggdmoijfhdaaDoor
open Go Go.RowKit

set_option maxRecDepth 100000 in
set_option maxHeartbeats 32000000 in
theorem kMeets_any {h : HeadP} {r : Bool} (W0 : World) (hh : h.Is) (hK : Keys W0) (hr : r = decide (¬ badN h.bits ∧ nameN h ≤ rawN h.bits)) : Calls Tryd.prog 5 #[.agg (headC h)] W0 (fun e w' => e = .returned (.bool r) ∧ Below W0.heap.size W0 w') := by
  have hb : h.bits < 4294967296 := hh.2.2.2.2.1
  obtain ⟨w, hw⟩ : ∃ w : World, w = W0 := ⟨_, rfl⟩
  subst hw
  by_cases k : badN h.bits
  · have hr : r = false := by rw [hr]; exact decide_eq_false fun h => h.1 k
    subst hr
    replace k := Lib.hid k
    have hM0 := mm_nil w
    (try unfold WV)
    go_enter Tryd.func5, Tryd.ntmps5
    go_wp2_with (first
      | ((with_reducible change wpList _ _ _ (Oper.mk (some 1) _ _ _ _ _ :: _) _ _); refine mmBox hM0 _ _ (headC h) rfl rfl rfl ?_; intro w1 hM1; clear hM0; go_frame)
      | ((with_reducible change wpList _ _ _ (Oper.mk (some 6) _ _ _ _ _ :: _) _ _); refine kFld headF4 _ _ 0 66 rfl rfl rfl rfl ?_; go_frame)
      | ((with_reducible change wpList _ _ _ (Oper.mk (some 7) _ _ _ _ _ :: _) _ _); refine kLd Tryd.underlying22 rfl _ _ 66 _ (.int .u32 (h.bits : Int)) (hM1.get 0 rfl) (headC_66 _) rfl rfl rfl ?_; go_frame)
      | (go_at_call 7; (with_reducible change Calls _ _ #[Value.int .u32 ((h.bits : Int))] _ _); refine (kExpand_bad hb k.out _).mono ?_; rintro e w2 ⟨rfl, hB2⟩; have hM2 := hM1.on hB2; clear hB2 hM1; (try unfold WV); go_frame)
      | ((with_reducible change wpList _ _ _ (Oper.mk (some 3) _ _ _ _ _ :: _) _ _); refine mmAlloc hM2 _ _ rfl rfl zero_Wide ?_; intro w3 hM3; clear hM2; go_frame)
      | ((with_reducible change wpList _ _ _ (Oper.mk none (Op.store _ (Operand.tmp 3) (Operand.tmp 9)) _ _ _ _ :: _) _ _); refine mmStoreAt hM3 0 _ _ _ _ _ _ (wcells 0) rfl rfl rfl rfl rfl (info_WideC _) (by simp only [wcells_size]) (wcells_one _) ?_; intro w4 hM4; dsimp only [List.set] at hM4; clear hM3; go_frame))
    refine region_symT 10 _ [] [] [.val (.int .i64 (121)), .val (.bool false), .val (.bool false), .val (undef), .val (undef), .val (undef), .val (undef), .val (undef), .val (.bool false), .val (.bool false)] rfl (by kernel_rfl) (by kernel_rfl) (by kernel_rfl) (by kernel_rfl) rfl (by intro s hs; cases hs) (steps_all ⟨?_, ?_, ?_, ?_, ?_, ?_, ?_, ?_, ?_, ?_, trivial⟩) ?_
    · exact fun A W sz ot hbel ap dp => kMoveV _ _ rfl rfl (sO ot 4) (sE ap sz rfl)
    · exact fun A W sz ot hbel ap dp => kYw (yEqlK _ _ _ _ .i64 (121) (0) false rfl rfl rfl (sD dp 0 .data) rfl) (sE ap sz rfl)
    · exact fun A W sz ot hbel ap dp => kMoveV _ _ rfl rfl (sD dp 1 .data) (sE ap sz rfl)
    · exact fun A W sz ot hbel ap dp => wpList_skip (unwanted_of rfl rfl (sD dp 2 .guard) (.inl rfl)) (sE ap sz rfl)
    · exact fun A W sz ot hbel ap dp => wpList_skip (unwanted_of rfl rfl (sD dp 2 .guard) (.inl rfl)) (sE ap sz rfl)
    · exact fun A W sz ot hbel ap dp => wpList_skip (unwanted_of rfl rfl (sD dp 2 .chain) (.inl rfl)) (sE ap sz rfl)
    · exact fun A W sz ot hbel ap dp => wpList_skip (unwanted_of rfl rfl (sD dp 2 .guard) (.inl rfl)) (sE ap sz rfl)
    · exact fun A W sz ot hbel ap dp => wpList_skip (unwanted_of rfl rfl (sD dp 2 .guard) (.inl rfl)) (sE ap sz rfl)
    · exact fun A W sz ot hbel ap dp => kPick _ _ _ false (.bool false) rfl rfl (sD dp 2 .data) rfl (sE ap sz rfl)
    · exact fun A W sz ot hbel ap dp => kAssignV _ _ rfl rfl (sD dp 8 .data) (sE ap sz rfl)
    intro w5 hB5
    dsimp only [AllV]
    intro hap
    dsimp only [putAll, List.take, List.drop]
    go_frame
    have hM5 := hM4.on hB5
    clear hB5 hM4 hap
    go_wp2_with fail
    go_ret
    exact ⟨rfl, hM5.below⟩
  · obtain ⟨t, Ht⟩ : ∃ v_ : Nat, Hid (rawN h.bits = v_) := ⟨_, Lib.hid rfl⟩
    obtain ⟨n, Hn⟩ : ∃ v_ : Nat, Hid (nameN h = v_) := ⟨_, Lib.hid rfl⟩
    obtain ⟨l, Hl⟩ : ∃ v_ : Bool, Hid (decide (t < n) = v_) := ⟨_, Lib.hid rfl⟩
    have ht : t < M256 := by rw [← Ht.out]; exact raw_lt k
    have hn : n < M256 := by rw [← Hn.out]; exact nameN_lt h
    have hr : Hid (r = !l) := Lib.hid (by rw [hr, ← Hl.out, Ht.out, Hn.out]; by_cases hl : t < n <;> simp [k, hl] <;> omega)
    replace k := Lib.hid k
    have hM0 := mm_nil w
    (try unfold WV)
    go_enter Tryd.func5, Tryd.ntmps5
    go_wp2_with (first
      | ((with_reducible change wpList _ _ _ (Oper.mk (some 1) _ _ _ _ _ :: _) _ _); refine mmBox hM0 _ _ (headC h) rfl rfl rfl ?_; intro w1 hM1; clear hM0; go_frame)
      | ((with_reducible change wpList _ _ _ (Oper.mk (some 6) _ _ _ _ _ :: _) _ _); refine kFld headF4 _ _ 0 66 rfl rfl rfl rfl ?_; go_frame)
      | ((with_reducible change wpList _ _ _ (Oper.mk (some 7) _ _ _ _ _ :: _) _ _); refine kLd Tryd.underlying22 rfl _ _ 66 _ (.int .u32 (h.bits : Int)) (hM1.get 0 rfl) (headC_66 _) rfl rfl rfl ?_; go_frame)
      | (go_at_call 7; (with_reducible change Calls _ _ #[Value.int .u32 ((h.bits : Int))] _ _); refine (kExpand_ok hb k.out Ht.out _).mono ?_; rintro e w2 ⟨rfl, hB2⟩; have hM2 := hM1.on hB2; clear hB2 hM1; (try unfold WV); go_frame)
      | ((with_reducible change wpList _ _ _ (Oper.mk (some 3) _ _ _ _ _ :: _) _ _); refine mmAlloc hM2 _ _ rfl rfl zero_Wide ?_; intro w3 hM3; clear hM2; go_frame)
      | ((with_reducible change wpList _ _ _ (Oper.mk none (Op.store _ (Operand.tmp 3) (Operand.tmp 9)) _ _ _ _ :: _) _ _); refine mmStoreAt hM3 0 _ _ _ _ _ _ (wcells t) rfl rfl rfl rfl rfl (info_WideC _) (by simp only [wcells_size]) (wcells_one _) ?_; intro w4 hM4; dsimp only [List.set] at hM4; clear hM3; go_frame))
    refine region_symT 10 _ [] [] [.val (.int .i64 (0)), .val (.bool true), .val (.bool true), .val (.agg (wcells t)), .val (.agg (headC h)), .val (.agg (wcells n)), .val (.bool l), .val (.bool (!l)), .val (.bool (!l)), .val (.bool (!l))] rfl (by kernel_rfl) (by kernel_rfl) (by kernel_rfl) (by kernel_rfl) rfl (by intro s hs; cases hs) (steps_all ⟨?_, ?_, ?_, ?_, ?_, ?_, ?_, ?_, ?_, ?_, trivial⟩) ?_
    · exact fun A W sz ot hbel ap dp => kMoveV _ _ rfl rfl (sO ot 4) (sE ap sz rfl)
    · exact fun A W sz ot hbel ap dp => kYw (yEqlK _ _ _ _ .i64 (0) (0) true rfl rfl rfl (sD dp 0 .data) rfl) (sE ap sz rfl)
    · exact fun A W sz ot hbel ap dp => kMoveV _ _ rfl rfl (sD dp 1 .data) (sE ap sz rfl)
    · exact fun A W sz ot hbel ap dp => kLoadRow _ _ _ _ _ _ rfl (wanted_of rfl rfl (sD dp 2 .guard)) (sO ot 3) ((hM4.get 0 rfl).on hbel) Tryd.underlying31 rfl (info_WideC _) (sE ap sz rfl)
    · exact fun A W sz ot hbel ap dp => kLoadRow _ _ _ _ _ _ rfl (wanted_of rfl rfl (sD dp 2 .guard)) (sO ot 1) ((hM4.get 1 rfl).on hbel) Tryd.underlying26 rfl (info_HeadS _) (sE ap sz rfl)
    · exact fun A W sz ot hbel ap dp => sCall1 12 rfl (sD dp 4 .data) (sC (kNamed_any Hn.out W hh ((hK.below hM4.below).below hbel)) ap sz (fun _ => rfl)) (wanted_of rfl rfl (sD dp 2 .chain))
    · exact fun A W sz ot hbel ap dp => sCall2 11 rfl (sD dp 3 .data) (sD dp 5 .data) (sC (wLess_k ht hn Hl.out W) ap sz (fun _ => rfl)) (wanted_of rfl rfl (sD dp 2 .guard))
    · exact fun A W sz ot hbel ap dp => kNot _ _ l rfl (wanted_of rfl rfl (sD dp 2 .guard)) (sD dp 6 .data) (sE ap sz rfl)
    · exact fun A W sz ot hbel ap dp => kPick _ _ _ true (.bool (!l)) rfl rfl (sD dp 2 .data) (sD dp 7 .data) (sE ap sz rfl)
    · exact fun A W sz ot hbel ap dp => kAssignV _ _ rfl rfl (sD dp 8 .data) (sE ap sz rfl)
    intro w5 hB5
    dsimp only [AllV]
    intro hap
    dsimp only [putAll, List.take, List.drop]
    go_frame
    have hM5 := hM4.on hB5
    clear hB5 hM4 hap
    go_wp2_with fail
    go_ret
    exact ⟨by rw [hr.out]; rfl, hM5.below⟩
theorem name_two (h : HeadP) (j : Nat) : (at8 (hidL h) (2 * j)).toNat + 256 * (at8 (hidL h) (2 * j + 1)).toNat < 65536 := by
  have h1 := UInt8.toNat_lt (at8 (hidL h) (2 * j))
  have h2 := UInt8.toNat_lt (at8 (hidL h) (2 * j + 1))
  omega
theorem cmp_leq (x y : Nat) : decide (cmpI x y ≤ 0) = decide (x ≤ y) := by
  unfold cmpI; split
  · next h => simp; omega
  · split
    · next h => simp; omega
    · next h => simp; omega
set_option maxRecDepth 100000 in
set_option maxHeartbeats 32000000 in
theorem qMeets_bad {h : HeadP} {r : Bool} (W0 : World) (hh : h.Is) (k : badN h.bits) (hr : r = false) : Calls Tryd.prog 6 #[.agg (headC h)] W0 (fun e w' => e = .returned (.bool r) ∧ Below W0.heap.size W0 w') := by
  have hb : h.bits < 4294967296 := hh.2.2.2.2.1
  obtain ⟨ix, hix, hzx, hsx, hbx⟩ := w64Info
  subst hr
  have hB00 := Below.refl W0.heap.size W0
  go_enter Tryd.func6, Tryd.ntmps6
  go_wp2_with (first
    | ((with_reducible change wpList _ _ _ (Oper.mk (some 1) _ _ _ _ _ :: _) _ _); refine kBoxL _ _ _ rfl rfl rfl ?_; intro y1 hV1 hzq hBq; clear hzq; have hB1 := hB00.trans (hBq.mono hB00.size); clear hB00 hBq; go_frame)
    | ((with_reducible change wpList _ _ _ (Oper.mk (some 9) _ _ _ _ _ :: _) _ _); refine kFld headF4 _ _ 0 66 rfl rfl rfl rfl ?_; go_frame)
    | ((with_reducible change wpList _ _ _ (Oper.mk (some 10) _ _ _ _ _ :: _) _ _); refine kLd Tryd.underlying22 rfl _ _ 66 _ (.int .u32 (h.bits : Int)) hV1 (headC_66 _) rfl rfl rfl ?_; go_frame)
    | (go_at_call 13; refine (qExpand_bad hb k _).mono ?_; rintro e y2 ⟨v1, rfl, hN1, hBq⟩; have hV2 := hV1.below hBq hV1.lt; have hB2 := hB1.trans (hBq.mono hB1.size); clear hV1 hB1 hBq; go_frame)
    | ((with_reducible change wpList _ _ _ (Oper.mk (some 14) _ _ _ _ _ :: _) _ _); refine kY (yLoadRowC Tryd.underlying26 rfl _ _ (headC h) (info_HeadS _) (fun _ e => by cases e; exact hV2) rfl rfl rfl) ?_; clear hV2; go_frame)
    | (go_at_call 14; refine (xId_any (h := h) _ hh).mono ?_; rintro e y3 ⟨rfl, hBq⟩; have hN2 := hN1.below hBq; have hB3 := hB2.trans (hBq.mono hB2.size); clear hN1 hB2 hBq; go_frame)
    | ((with_reducible change wpList _ _ _ (Oper.mk (some 5) _ _ _ _ _ :: _) _ _); refine kAllocL _ _ rfl rfl zero_Hash ?_; intro y4 hX4 hzq hBq; clear hzq; have hg4 : Hid (W0.heap.size ≤ y3.heap.size) := Lib.hid hB3.size; have hN3 := hN2.below hBq; have hs3 : Hid (y3.heap.size ≤ y4.heap.size) := Lib.hid hBq.size; have hB4 := hB3.trans (hBq.mono hB3.size); have hN2o := hBq; clear hB3 hBq; go_frame)
    | ((with_reducible change wpList _ _ _ (Oper.mk none (Op.store _ (Operand.tmp 5) _) _ _ _ _ :: _) _ _); refine kStoreHash _ _ _ (hidL h) _ hX4 (tab_size _ _) rfl rfl rfl rfl ?_; intro y5 hX5 hWq; have hN4 := hN2.below (hN2o.trans (hWq.below (Nat.le_refl _))); have hB5 := hB4.trans (hWq.below hg4.out); clear hN2 hN3 hX4 hB4 hWq hN2o; go_frame)
    | ((with_reducible change wpList _ _ _ (Oper.mk (some 16) _ _ _ _ _ :: _) _ _); refine kBuildSlice0 _ _ rfl rfl Tryd.underlying41 ix hix ?_; intro y6 hR6 hzq hBq; clear hzq; have hO6 := own_empty (base := y5.heap.size) (Nat.le_refl _) hR6; have hX6 := hX5; have hN6 := hN4; have hs5 : Hid (W0.heap.size ≤ y5.heap.size) := Lib.hid hB5.size; have hB6 := hB5.trans (hBq.mono hB5.size); clear hX5 hN4 hR6; have hQ6 := hBq; clear hBq; go_frame))
  go_loopw [7, 6] (fun i u wr => ∃ (j m : Nat), j ≤ 16 ∧ Hid (2 * j = m) ∧ i = .int .i64 (m : Int) ∧ OwnD wr y5.heap.size u (nameD h j) ∧ Below y5.heap.size y5 wr) (fun i _ _ => 32 - (intOf i).toNat)
  case atStart => exact ⟨0, 0, by omega, Lib.hid rfl, rfl, hO6, hQ6⟩
  case round =>
    obtain ⟨j, m, hj, Hm, rfl, hO, hQ⟩ := hrel
    clear hO6 hQ6
    have hm2 := Hm.out
    have hX := hX6.below hQ hX6.lt
    by_cases hlt : j < 16
    · have hd : decide ((m : Int) < 32) = true := by simp; omega
      obtain ⟨p, Hp⟩ : ∃ v_ : Nat, Hid (m + 1 = v_) := ⟨_, Lib.hid rfl⟩
      obtain ⟨c, Hc⟩ : ∃ v_ : Nat, Hid ((at8 (hidL h) m).toNat = v_) := ⟨_, Lib.hid rfl⟩
      obtain ⟨d, Hd⟩ : ∃ v_ : Nat, Hid ((at8 (hidL h) p).toNat = v_) := ⟨_, Lib.hid rfl⟩
      obtain ⟨d2, Hd2⟩ : ∃ v_ : Nat, Hid (256 * d = v_) := ⟨_, Lib.hid rfl⟩
      obtain ⟨z, Hz⟩ : ∃ v_ : Nat, Hid (c + d2 = v_) := ⟨_, Lib.hid rfl⟩
      have hp := Hp.out
      have hc : c < 256 := by rw [← Hc.out]; exact UInt8.toNat_lt _
      have hdd : d < 256 := by rw [← Hd.out]; exact UInt8.toNat_lt _
      have f25 : Hid (IntKind.u64.wrap (c : Int) = (c : Int)) := Lib.hid (wrap_u64N (by omega))
      have f30 : Hid (IntKind.u64.wrap (d : Int) = (d : Int)) := Lib.hid (wrap_u64N (by omega))
      have f31 : Hid (256 * d = d2 ∧ IntKind.u64.wrap (d2 : Nat) = (d2 : Nat)) := Lib.hid ⟨Hd2.out, wrap_u64N (by have := Hd2.out; omega)⟩
      have f32 : Hid (c + d2 = z ∧ IntKind.u64.wrap (z : Nat) = (z : Nat)) := Lib.hid ⟨Hz.out, wrap_u64N (by have := Hd2.out; have := Hz.out; omega)⟩
      have hz : nameD h (j + 1) = nameD h j ++ [z] := by rw [nameD_succ, hm2, Hc.out, hp, Hd.out, Hd2.out, Hz.out]
      have a1 : (tab 32 fun q => VB (at8 (hidL h) q))[m]? = some (.int .u8 (c : Int)) := by rw [tab_get _ _ _ (by omega), ← Hc.out]; rfl
      have a2 : (tab 32 fun q => VB (at8 (hidL h) q))[p]? = some (.int .u8 (d : Int)) := by rw [tab_get _ _ _ (by omega), ← Hd.out]; rfl
      have hm32 : m < 32 := by omega
      have hp32 : p < 32 := by omega
      replace hz := Lib.hid hz
      clear hp Hc Hd Hd2 Hz
      go_wp2_with (first
        | ((with_reducible change wpList _ _ _ (Oper.mk (some 18) _ _ _ _ _ :: _) _ _); refine kYw (yLssK _ _ _ _ .i64 (m : Int) 32 true hd rfl rfl rfl rfl) ?_; go_frame))
      refine region_mixD [(0, true), (1, true), (2, true), (3, true), (4, true), (5, true), (6, true), (7, true), (8, true), (9, true), (10, true), (11, true), (12, false), (13, false), (14, true)] (fun q => Row q y3.heap.size 24 (tab 32 fun q => VB (at8 (hidL h) q))) (by kernel_rfl) (by kernel_rfl) rfl ?_
      intro x1 hBd hsd; clear hsd
      simp only [List.map_cons, List.map_nil]
      dsimp only [List.filterMap, List.getElem?_cons_zero, List.getElem?_cons_succ]
      have hS : Row x1 y3.heap.size 24 (tab 32 fun q => VB (at8 (hidL h) q)) := hX.below hBd hX.lt
      have hO1 := ownsRow_below hO hBd
      have hQ1 := hQ.trans (hBd.mono hQ.size)
      clear hX hO hQ hBd
      refine dY _ hS (yMove _ _ rfl rfl rfl) ?_; go_frame
      refine dY _ hS (yMove _ (.int .i64 (m : Int)) rfl rfl rfl) ?_; go_frame
      refine dY _ hS (yIdxA Tryd.underlying24 info_b8P _ _ y3.heap.size m hm32 rfl rfl rfl rfl) ?_; go_frame
      refine dY _ hS (yLoad1 _ _ _ y3.heap.size m _ (.int .u8 (c : Int)) _ rfl rfl rfl (fun _ h => h) Tryd.underlying5 rfl a1) ?_; go_frame
      refine dY _ hS (yConvK Tryd.underlying5 Tryd.underlying29 _ (c : Int) (c : Int) f25.out rfl rfl rfl) ?_; go_frame
      refine dY _ hS (yMove _ (.int .i64 (m : Int)) rfl rfl rfl) ?_; go_frame
      refine dY _ hS (yAddZ _ _ _ _ (m : Int) 1 (p : Int) (by have := Hp.out; omega) rfl rfl rfl rfl) ?_; go_frame
      refine dY _ hS (yIdxA Tryd.underlying24 info_b8P _ _ y3.heap.size p hp32 rfl rfl rfl rfl) ?_; go_frame
      refine dY _ hS (yLoad1 _ _ _ y3.heap.size p _ (.int .u8 (d : Int)) _ rfl rfl rfl (fun _ h => h) Tryd.underlying5 rfl a2) ?_; go_frame
      refine dY _ hS (yConvK Tryd.underlying5 Tryd.underlying29 _ (d : Int) (d : Int) f30.out rfl rfl rfl) ?_; go_frame
      refine dY _ hS (yMulN .u64 _ _ _ _ 256 d d2 f31.out rfl rfl rfl rfl) ?_; go_frame
      refine dY _ hS (yAddN .u64 _ _ _ _ c d2 z f32.out rfl rfl rfl rfl) ?_; go_frame
      refine dLoud ?_
      refine kBuildSlice1 _ _ _ (VU z) rfl rfl Tryd.underlying41 ix _ hix hzx hsx rfl rfl ?_
      intro x2 hR2 hzz hBq; clear hzz
      have hS2 : Row x2 y3.heap.size 24 (tab 32 fun q => VB (at8 (hidL h) q)) := hS.below hBq hS.lt
      have hO2 := ownsRow_below hO1 hBq
      have hQ2 := hQ1.trans (hBq.mono hQ1.size)
      clear hS hO1 hQ1 hBq
      refine mixOn ⟨_, (fun _ h => h), hS2, ?_⟩
      go_frame
      refine dLoud ?_
      have hlq : ((nameD h j).map VU).length = j := by rw [List.length_map, nameD_len]
      refine kAppend _ _ _ _ rfl rfl y5.heap.size ix _ Tryd.underlying41 hix hzx hsx rfl _ _ _ [VU z] rfl hO2 rfl (isVals_lit hR2) (vu_one [_]) (by unfold maxLen; rw [hlq]; simp; omega) (by rw [hbx, hlq]; simp; omega) hQ2.size ?_
      intro v3 x3 hO3 hG
      have hBq := below_grown hO2 hG hQ2.size
      have hS3 : Row x3 y3.heap.size 24 (tab 32 fun q => VB (at8 (hidL h) q)) := hS2.below hBq (Nat.lt_of_lt_of_le hX6.lt (Nat.le_refl _))
      have hQ3 := hQ2.trans hBq
      clear hS2 hO2 hQ2 hBq hR2 hG
      refine mixOn ⟨_, (fun _ h => h), hS3, ?_⟩
      go_frame
      refine dY _ hS3 (yAssign _ _ rfl rfl rfl) ?_; go_frame
      refine dDone ?_
      clear hS3
      go_wp2_with (first
        | ((with_reducible change wpList _ _ _ (Oper.mk (some 20) _ _ _ _ _ :: _) _ _); refine kYw (yAddZ _ _ _ _ (m : Int) 2 ((m + 2 : Nat) : Int) (by omega) rfl rfl rfl rfl) ?_; go_frame))
      have hO4 : OwnD x3 y5.heap.size v3 (nameD h (j + 1)) := by
        rw [hz.out]
        unfold OwnD
        rw [List.map_append (l₂ := [_])]
        exact hO3
      go_roundw
      case rel => exact ⟨j + 1, m + 2, by omega, Lib.hid (by omega), rfl, hO4, hQ3⟩
      case measure => simp [intOf]; omega
    · have hd : decide ((m : Int) < 32) = false := by simp; omega
      have hj16 : j = 16 := by omega
      go_wp2_with (first
        | ((with_reducible change wpList _ _ _ (Oper.mk (some 18) _ _ _ _ _ :: _) _ _); refine kYw (yLssK _ _ _ _ .i64 (m : Int) 32 false hd rfl rfl rfl rfl) ?_; go_frame)
        | ((with_reducible change wpList _ _ _ (Oper.mk (some 36) _ _ _ _ _ :: _) _ _); refine kYw (yEqlK _ _ _ _ .i64 121 0 false rfl rfl rfl rfl rfl) ?_; go_frame))
      go_ret
      exact ⟨rfl, hB5.trans (hQ.mono hB5.size)⟩
set_option maxRecDepth 100000 in
set_option maxHeartbeats 32000000 in
theorem qMeets_ok {h : HeadP} {r : Bool} (W0 : World) (hh : h.Is) (k : ¬ badN h.bits) (hr : r = decide (nameN h ≤ rawN h.bits)) : Calls Tryd.prog 6 #[.agg (headC h)] W0 (fun e w' => e = .returned (.bool r) ∧ Below W0.heap.size W0 w') := by
  have hb : h.bits < 4294967296 := hh.2.2.2.2.1
  obtain ⟨ix, hix, hzx, hsx, hbx⟩ := w64Info
  obtain ⟨t, Ht⟩ : ∃ v_ : Nat, Hid (rawN h.bits = v_) := ⟨_, Lib.hid rfl⟩
  obtain ⟨n, Hn⟩ : ∃ v_ : Nat, Hid (nameN h = v_) := ⟨_, Lib.hid rfl⟩
  obtain ⟨C, HC⟩ : ∃ v_ : Int, Hid (cmpI n t = v_) := ⟨_, Lib.hid rfl⟩
  have d41 : Hid (decide (C ≤ 0) = r) := Lib.hid (by rw [hr, ← HC.out, cmp_leq, ← Ht.out, ← Hn.out])
  clear hr
  have hB00 := Below.refl W0.heap.size W0
  go_enter Tryd.func6, Tryd.ntmps6
  go_wp2_with (first
    | ((with_reducible change wpList _ _ _ (Oper.mk (some 1) _ _ _ _ _ :: _) _ _); refine kBoxL _ _ _ rfl rfl rfl ?_; intro y1 hV1 hzq hBq; clear hzq; have hB1 := hB00.trans (hBq.mono hB00.size); clear hB00 hBq; go_frame)
    | ((with_reducible change wpList _ _ _ (Oper.mk (some 9) _ _ _ _ _ :: _) _ _); refine kFld headF4 _ _ 0 66 rfl rfl rfl rfl ?_; go_frame)
    | ((with_reducible change wpList _ _ _ (Oper.mk (some 10) _ _ _ _ _ :: _) _ _); refine kLd Tryd.underlying22 rfl _ _ 66 _ (.int .u32 (h.bits : Int)) hV1 (headC_66 _) rfl rfl rfl ?_; go_frame)
    | (go_at_call 13; refine (qExpand_ok hb k Ht.out _).mono ?_; rintro e y2 ⟨v1, rfl, hN1, hBq⟩; have hV2 := hV1.below hBq hV1.lt; have hB2 := hB1.trans (hBq.mono hB1.size); clear hV1 hB1 hBq; go_frame)
    | ((with_reducible change wpList _ _ _ (Oper.mk (some 14) _ _ _ _ _ :: _) _ _); refine kY (yLoadRowC Tryd.underlying26 rfl _ _ (headC h) (info_HeadS _) (fun _ e => by cases e; exact hV2) rfl rfl rfl) ?_; clear hV2; go_frame)
    | (go_at_call 14; refine (xId_any (h := h) _ hh).mono ?_; rintro e y3 ⟨rfl, hBq⟩; have hN2 := hN1.below hBq; have hB3 := hB2.trans (hBq.mono hB2.size); clear hN1 hB2 hBq; go_frame)
    | ((with_reducible change wpList _ _ _ (Oper.mk (some 5) _ _ _ _ _ :: _) _ _); refine kAllocL _ _ rfl rfl zero_Hash ?_; intro y4 hX4 hzq hBq; clear hzq; have hg4 : Hid (W0.heap.size ≤ y3.heap.size) := Lib.hid hB3.size; have hN3 := hN2.below hBq; have hs3 : Hid (y3.heap.size ≤ y4.heap.size) := Lib.hid hBq.size; have hB4 := hB3.trans (hBq.mono hB3.size); have hN2o := hBq; clear hB3 hBq; go_frame)
    | ((with_reducible change wpList _ _ _ (Oper.mk none (Op.store _ (Operand.tmp 5) _) _ _ _ _ :: _) _ _); refine kStoreHash _ _ _ (hidL h) _ hX4 (tab_size _ _) rfl rfl rfl rfl ?_; intro y5 hX5 hWq; have hN4 := hN2.below (hN2o.trans (hWq.below (Nat.le_refl _))); have hB5 := hB4.trans (hWq.below hg4.out); clear hN2 hN3 hX4 hB4 hWq hN2o; go_frame)
    | ((with_reducible change wpList _ _ _ (Oper.mk (some 16) _ _ _ _ _ :: _) _ _); refine kBuildSlice0 _ _ rfl rfl Tryd.underlying41 ix hix ?_; intro y6 hR6 hzq hBq; clear hzq; have hO6 := own_empty (base := y5.heap.size) (Nat.le_refl _) hR6; have hX6 := hX5; have hN6 := hN4; have hs5 : Hid (W0.heap.size ≤ y5.heap.size) := Lib.hid hB5.size; have hB6 := hB5.trans (hBq.mono hB5.size); clear hX5 hN4 hR6; have hQ6 := hBq; clear hBq; go_frame))
  go_loopw [7, 6] (fun i u wr => ∃ (j m : Nat), j ≤ 16 ∧ Hid (2 * j = m) ∧ i = .int .i64 (m : Int) ∧ OwnD wr y5.heap.size u (nameD h j) ∧ Below y5.heap.size y5 wr) (fun i _ _ => 32 - (intOf i).toNat)
  case atStart => exact ⟨0, 0, by omega, Lib.hid rfl, rfl, hO6, hQ6⟩
  case round =>
    obtain ⟨j, m, hj, Hm, rfl, hO, hQ⟩ := hrel
    clear hO6 hQ6
    have hm2 := Hm.out
    have hX := hX6.below hQ hX6.lt
    by_cases hlt : j < 16
    · have hd : decide ((m : Int) < 32) = true := by simp; omega
      obtain ⟨p, Hp⟩ : ∃ v_ : Nat, Hid (m + 1 = v_) := ⟨_, Lib.hid rfl⟩
      obtain ⟨c, Hc⟩ : ∃ v_ : Nat, Hid ((at8 (hidL h) m).toNat = v_) := ⟨_, Lib.hid rfl⟩
      obtain ⟨d, Hd⟩ : ∃ v_ : Nat, Hid ((at8 (hidL h) p).toNat = v_) := ⟨_, Lib.hid rfl⟩
      obtain ⟨d2, Hd2⟩ : ∃ v_ : Nat, Hid (256 * d = v_) := ⟨_, Lib.hid rfl⟩
      obtain ⟨z, Hz⟩ : ∃ v_ : Nat, Hid (c + d2 = v_) := ⟨_, Lib.hid rfl⟩
      have hp := Hp.out
      have hc : c < 256 := by rw [← Hc.out]; exact UInt8.toNat_lt _
      have hdd : d < 256 := by rw [← Hd.out]; exact UInt8.toNat_lt _
      have f25 : Hid (IntKind.u64.wrap (c : Int) = (c : Int)) := Lib.hid (wrap_u64N (by omega))
      have f30 : Hid (IntKind.u64.wrap (d : Int) = (d : Int)) := Lib.hid (wrap_u64N (by omega))
      have f31 : Hid (256 * d = d2 ∧ IntKind.u64.wrap (d2 : Nat) = (d2 : Nat)) := Lib.hid ⟨Hd2.out, wrap_u64N (by have := Hd2.out; omega)⟩
      have f32 : Hid (c + d2 = z ∧ IntKind.u64.wrap (z : Nat) = (z : Nat)) := Lib.hid ⟨Hz.out, wrap_u64N (by have := Hd2.out; have := Hz.out; omega)⟩
      have hz : nameD h (j + 1) = nameD h j ++ [z] := by rw [nameD_succ, hm2, Hc.out, hp, Hd.out, Hd2.out, Hz.out]
      have a1 : (tab 32 fun q => VB (at8 (hidL h) q))[m]? = some (.int .u8 (c : Int)) := by rw [tab_get _ _ _ (by omega), ← Hc.out]; rfl
      have a2 : (tab 32 fun q => VB (at8 (hidL h) q))[p]? = some (.int .u8 (d : Int)) := by rw [tab_get _ _ _ (by omega), ← Hd.out]; rfl
      have hm32 : m < 32 := by omega
      have hp32 : p < 32 := by omega
      replace hz := Lib.hid hz
      clear hp Hc Hd Hd2 Hz
      go_wp2_with (first
        | ((with_reducible change wpList _ _ _ (Oper.mk (some 18) _ _ _ _ _ :: _) _ _); refine kYw (yLssK _ _ _ _ .i64 (m : Int) 32 true hd rfl rfl rfl rfl) ?_; go_frame))
      refine region_mixD [(0, true), (1, true), (2, true), (3, true), (4, true), (5, true), (6, true), (7, true), (8, true), (9, true), (10, true), (11, true), (12, false), (13, false), (14, true)] (fun q => Row q y3.heap.size 24 (tab 32 fun q => VB (at8 (hidL h) q))) (by kernel_rfl) (by kernel_rfl) rfl ?_
      intro x1 hBd hsd; clear hsd
      simp only [List.map_cons, List.map_nil]
      dsimp only [List.filterMap, List.getElem?_cons_zero, List.getElem?_cons_succ]
      have hS : Row x1 y3.heap.size 24 (tab 32 fun q => VB (at8 (hidL h) q)) := hX.below hBd hX.lt
      have hO1 := ownsRow_below hO hBd
      have hQ1 := hQ.trans (hBd.mono hQ.size)
      clear hX hO hQ hBd
      refine dY _ hS (yMove _ _ rfl rfl rfl) ?_; go_frame
      refine dY _ hS (yMove _ (.int .i64 (m : Int)) rfl rfl rfl) ?_; go_frame
      refine dY _ hS (yIdxA Tryd.underlying24 info_b8P _ _ y3.heap.size m hm32 rfl rfl rfl rfl) ?_; go_frame
      refine dY _ hS (yLoad1 _ _ _ y3.heap.size m _ (.int .u8 (c : Int)) _ rfl rfl rfl (fun _ h => h) Tryd.underlying5 rfl a1) ?_; go_frame
      refine dY _ hS (yConvK Tryd.underlying5 Tryd.underlying29 _ (c : Int) (c : Int) f25.out rfl rfl rfl) ?_; go_frame
      refine dY _ hS (yMove _ (.int .i64 (m : Int)) rfl rfl rfl) ?_; go_frame
      refine dY _ hS (yAddZ _ _ _ _ (m : Int) 1 (p : Int) (by have := Hp.out; omega) rfl rfl rfl rfl) ?_; go_frame
      refine dY _ hS (yIdxA Tryd.underlying24 info_b8P _ _ y3.heap.size p hp32 rfl rfl rfl rfl) ?_; go_frame
      refine dY _ hS (yLoad1 _ _ _ y3.heap.size p _ (.int .u8 (d : Int)) _ rfl rfl rfl (fun _ h => h) Tryd.underlying5 rfl a2) ?_; go_frame
      refine dY _ hS (yConvK Tryd.underlying5 Tryd.underlying29 _ (d : Int) (d : Int) f30.out rfl rfl rfl) ?_; go_frame
      refine dY _ hS (yMulN .u64 _ _ _ _ 256 d d2 f31.out rfl rfl rfl rfl) ?_; go_frame
      refine dY _ hS (yAddN .u64 _ _ _ _ c d2 z f32.out rfl rfl rfl rfl) ?_; go_frame
      refine dLoud ?_
      refine kBuildSlice1 _ _ _ (VU z) rfl rfl Tryd.underlying41 ix _ hix hzx hsx rfl rfl ?_
      intro x2 hR2 hzz hBq; clear hzz
      have hS2 : Row x2 y3.heap.size 24 (tab 32 fun q => VB (at8 (hidL h) q)) := hS.below hBq hS.lt
      have hO2 := ownsRow_below hO1 hBq
      have hQ2 := hQ1.trans (hBq.mono hQ1.size)
      clear hS hO1 hQ1 hBq
      refine mixOn ⟨_, (fun _ h => h), hS2, ?_⟩
      go_frame
      refine dLoud ?_
      have hlq : ((nameD h j).map VU).length = j := by rw [List.length_map, nameD_len]
      refine kAppend _ _ _ _ rfl rfl y5.heap.size ix _ Tryd.underlying41 hix hzx hsx rfl _ _ _ [VU z] rfl hO2 rfl (isVals_lit hR2) (vu_one [_]) (by unfold maxLen; rw [hlq]; simp; omega) (by rw [hbx, hlq]; simp; omega) hQ2.size ?_
      intro v3 x3 hO3 hG
      have hBq := below_grown hO2 hG hQ2.size
      have hS3 : Row x3 y3.heap.size 24 (tab 32 fun q => VB (at8 (hidL h) q)) := hS2.below hBq (Nat.lt_of_lt_of_le hX6.lt (Nat.le_refl _))
      have hQ3 := hQ2.trans hBq
      clear hS2 hO2 hQ2 hBq hR2 hG
      refine mixOn ⟨_, (fun _ h => h), hS3, ?_⟩
      go_frame
      refine dY _ hS3 (yAssign _ _ rfl rfl rfl) ?_; go_frame
      refine dDone ?_
      clear hS3
      go_wp2_with (first
        | ((with_reducible change wpList _ _ _ (Oper.mk (some 20) _ _ _ _ _ :: _) _ _); refine kYw (yAddZ _ _ _ _ (m : Int) 2 ((m + 2 : Nat) : Int) (by omega) rfl rfl rfl rfl) ?_; go_frame))
      have hO4 : OwnD x3 y5.heap.size v3 (nameD h (j + 1)) := by
        rw [hz.out]
        unfold OwnD
        rw [List.map_append (l₂ := [_])]
        exact hO3
      go_roundw
      case rel => exact ⟨j + 1, m + 2, by omega, Lib.hid (by omega), rfl, hO4, hQ3⟩
      case measure => simp [intOf]; omega
    · have hd : decide ((m : Int) < 32) = false := by simp; omega
      have hj16 : j = 16 := by omega
      have hN7 := hN6.below hQ
      rw [hj16] at hO
      have hN8 := nameD_num hO
      rw [Hn.out] at hN8
      go_wp2_with (first
        | ((with_reducible change wpList _ _ _ (Oper.mk (some 18) _ _ _ _ _ :: _) _ _); refine kYw (yLssK _ _ _ _ .i64 (m : Int) 32 false hd rfl rfl rfl rfl) ?_; go_frame)
        | ((with_reducible change wpList _ _ _ (Oper.mk (some 36) _ _ _ _ _ :: _) _ _); refine kYw (yEqlK _ _ _ _ .i64 0 0 true rfl rfl rfl rfl rfl) ?_; go_frame)
        | (go_at_call 15; refine (dCompare_r hN8 hN7 (by decide) (by decide) HC.out).mono ?_; rintro e x9 ⟨rfl, rfl⟩; go_frame)
        | ((with_reducible change wpList _ _ _ (Oper.mk (some 41) _ _ _ _ _ :: _) _ _); refine kYw (yLeqK _ _ _ _ .i64 C 0 r d41.out rfl rfl rfl rfl) ?_; go_frame))
      go_ret
      exact ⟨rfl, hB5.trans (hQ.mono hB5.size)⟩
theorem qMeets_any {h : HeadP} {r : Bool} (W0 : World) (hh : h.Is) (hr : r = decide (¬ badN h.bits ∧ nameN h ≤ rawN h.bits)) : Calls Tryd.prog 6 #[.agg (headC h)] W0 (fun e w' => e = .returned (.bool r) ∧ Below W0.heap.size W0 w') := by
  by_cases k : badN h.bits
  · exact qMeets_bad W0 hh k (by rw [hr]; exact decide_eq_false fun h => h.1 k)
  · exact qMeets_ok W0 hh k (by rw [hr]; simp [k])
end Go.Proofs.YtdeggdmoijfhdaaDoor

/-
  bynamelaw12.WorkMeets, walked.
-/
namespace Go.Proofs.YtdeggdmoijfhdaaDoor
open Go Go.RowKit

set_option maxRecDepth 100000 in
set_option maxHeartbeats 32000000 in
theorem workMeets_walk {h : HeadP} (w : World) (hK : Keys w) (hh : h.Is) : Calls Tryd.prog 3 #[.agg (headC h)] w (fun e w' => e = .returned (.bool true) ∧ Below w.heap.size w w') := by
  obtain ⟨r, Hr⟩ : ∃ v_ : Bool, Hid (decide (¬ badN h.bits ∧ nameN h ≤ rawN h.bits) = v_) := ⟨_, Lib.hid rfl⟩
  have hM0 := mm_nil w
  (try unfold WV)
  go_enter Tryd.func3, Tryd.ntmps3
  go_wp2_with (first
    | ((with_reducible change wpList _ _ _ (Oper.mk (some 1) _ _ _ _ _ :: _) _ _); refine mmBox hM0 _ _ (headC h) rfl rfl rfl ?_; intro w1 hM1; clear hM0; go_frame)
    | (go_at_call 4; refine (workAlive_any _).mono ?_; rintro e w2 ⟨rfl, hB2⟩; have hM2 := hM1.on hB2; clear hB2 hM1; (try unfold WV); go_frame))
  refine region_symT 6 _ [] [] [.val (.agg (headC h)), .val (.bool r), .val (.agg (headC h)), .val (.bool r), .val (.bool true), .val (.bool true)] rfl (by kernel_rfl) (by kernel_rfl) (by kernel_rfl) (by kernel_rfl) rfl (by intro s hs; cases hs) (steps_all ⟨?_, ?_, ?_, ?_, ?_, ?_, trivial⟩) ?_
  · exact fun A W sz ot hbel ap dp => kLoadRow _ _ _ _ _ _ rfl rfl (sO ot 1) ((hM2.get 0 rfl).on hbel) Tryd.underlying26 rfl (info_HeadS _) (sE ap sz rfl)
  · exact fun A W sz ot hbel ap dp => sCall1 5 rfl (sD dp 0 .data) (sC (kMeets_any W hh ((hK.below hM2.below).below hbel) Hr.out.symm) ap sz (fun _ => rfl))
  · exact fun A W sz ot hbel ap dp => kLoadRow _ _ _ _ _ _ rfl rfl (sO ot 1) ((hM2.get 0 rfl).on hbel) Tryd.underlying26 rfl (info_HeadS _) (sE ap sz rfl)
  · exact fun A W sz ot hbel ap dp => sCall1 6 rfl (sD dp 2 .data) (sC (qMeets_any W hh Hr.out.symm) ap sz (fun _ => rfl))
  · exact fun A W sz ot hbel ap dp => kEqlBool _ _ _ _ r r true rfl rfl (sD dp 1 .data) (sD dp 3 .data) Tryd.underlying4 (by simp) (sE ap sz rfl)
  · exact fun A W sz ot hbel ap dp => kAssignV _ _ rfl rfl (sD dp 4 .data) (sE ap sz rfl)
  intro w3 hB3
  dsimp only [AllV]
  intro hap
  dsimp only [putAll, List.take, List.drop]
  go_frame
  have hM3 := hM2.on hB3
  clear hB3 hM2 hap
  go_wp2_with fail
  go_ret
  exact ⟨rfl, hM3.below⟩
end Go.Proofs.YtdeggdmoijfhdaaDoor
