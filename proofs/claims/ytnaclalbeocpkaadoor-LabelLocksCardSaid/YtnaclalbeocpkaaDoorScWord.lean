/-
  Layer 7: the walks of the program's words: isSmall, isPush, headSize, cut, sizeBehind, split, Next, headOf, Push, True, check, truth, lengthBytes, needs.
-/
import Derived.Test.YtnaclalbeocpkaaDoorScRef1
import Derived.Test.YtnaclalbeocpkaaDoorPcWrite
namespace Go.Proofs.YtnaclalbeocpkaaDoor
open Go Go.RowKit

/-- is it a push of one byte that the code itself tells? -/
def smallB (c : UInt8) : Bool := decide (80 < c.toNat) && decide (c.toNat < 97)
theorem pushes_small (c : UInt8) : pushesB c = (decide (c.toNat < 78) || smallB c) := rfl
theorem ret3 {fn : Func} {R : Ending → World → Prop} {P : Program} {a : Act} {w : World} {t u v : Tmp} (h : fn.results = #[.tmp t, .tmp u, .tmp v]) (hd : a.defers = []) (hR : R (.returned (.tuple #[a.tmps.getD t undef, a.tmps.getD u undef, a.tmps.getD v undef])) w) : bodyPost P fn R .ret a w :=
  bodyPost_ret (by simp [results, h]) hd hR
theorem run_shr8 (n : Nat) (w : World) : (Op.shift .shr .i64 (n : Int) .u64 8).run Tryd.prog w = .ok (.int .i64 ((n / 256 : Nat) : Int)) w := by
  have e : (n : Int) / 2 ^ (8 : Int).toNat = ((n / 256 : Nat) : Int) := by norm_cast
  rw [shift_shr .i64 .u64 (n : Int) 8 (by omega) (by decide), e]; rfl
theorem run_shl8 (n : Nat) (hn : n < 256) (w : World) : (Op.shift .shl .i64 (n : Int) .u64 8).run Tryd.prog w = .ok (.int .i64 ((256 * n : Nat) : Int)) w := by
  have e : IntKind.i64.wrap ((n : Int) * 2 ^ min 8 IntKind.i64.bits) = 256 * (n : Int) := by
    rw [show (2 : Int) ^ min 8 IntKind.i64.bits = 256 by decide, IntKind.wrap_i64]; omega
  simp [Op.shift, e]
theorem run_or8 (m n : Nat) (hm : m < 256) (hn : n < 256) (w : World) : (Op.intBits .or .i64 (m : Int) ((256 * n : Nat) : Int)).run Tryd.prog w = .ok (.int .i64 ((m + 256 * n : Nat) : Int)) w := by
  have e1 : m ||| 256 * n = m + 256 * n := by
    have := Nat.two_pow_add_eq_or_of_lt (i := 8) (b := m) (by simpa using hm) n
    rw [Nat.or_comm]; simp at this; omega
  have e2 : (BitVec.ofInt IntKind.i64.bits (m : Int) ||| BitVec.ofInt IntKind.i64.bits ((256 * n : Nat) : Int)).toNat = m + 256 * n := by
    rw [BitVec.toNat_or, BitVec.ofInt_natCast, BitVec.ofInt_natCast, BitVec.toNat_ofNat, BitVec.toNat_ofNat, show IntKind.i64.bits = 64 from rfl, Nat.mod_eq_of_lt (show m < 2 ^ 64 by omega), Nat.mod_eq_of_lt (show 256 * n < 2 ^ 64 by omega), e1]
  have e3 : IntKind.i64.wrap ((m + 256 * n : Nat) : Int) = ((m + 256 * n : Nat) : Int) := by rw [IntKind.wrap_i64]; omega
  show Result.ok (Value.int .i64 (IntKind.i64.wrap (BitVec.ofInt IntKind.i64.bits (m : Int) ||| BitVec.ofInt IntKind.i64.bits ((256 * n : Nat) : Int)).toNat)) w = _
  rw [e2, e3]
section
variable {ops : Array Oper} {Q : Exit → Act → World → Prop} {rest : List Oper} {o : Oper} {a : Act} {w : World} {S : World → Prop}
theorem kSubB (T T2 : TypeId) (x y : Operand) (m n z : Int) (hz : m - n = z ∧ 0 ≤ z ∧ z < 256) (ho : o.op = .binOp .sub T x y T2) (hg : Region.wanted o (yielded ops a.tmps) = true) (hx : a.eval x = .int .u8 m) (hy : a.eval y = .int .u8 n) (h : wpList Tryd.prog ops Q rest (a.put o.dst (.int .u8 z)) w) : wpList Tryd.prog ops Q (o :: rest) a w := by
  obtain ⟨rfl, h1, h2⟩ := hz
  refine kPure _ hg ?_ h
  unfold execOp
  simp only [ho, hx, hy]
  have e : IntKind.u8.wrap (m - n) = m - n := by rw [IntKind.wrap_u8]; omega
  simp [eqGuard, binOp, Op.intArith, e]
theorem kAddB (T T2 : TypeId) (x y : Operand) (m n z : Int) (hz : m + n = z ∧ 0 ≤ z ∧ z < 256) (ho : o.op = .binOp .add T x y T2) (hg : Region.wanted o (yielded ops a.tmps) = true) (hx : a.eval x = .int .u8 m) (hy : a.eval y = .int .u8 n) (h : wpList Tryd.prog ops Q rest (a.put o.dst (.int .u8 z)) w) : wpList Tryd.prog ops Q (o :: rest) a w := by
  obtain ⟨rfl, h1, h2⟩ := hz
  refine kPure _ hg ?_ h
  unfold execOp
  simp only [ho, hx, hy]
  have e : IntKind.u8.wrap (m + n) = m + n := by rw [IntKind.wrap_u8]; omega
  simp [eqGuard, binOp, Op.intArith, e]
theorem kShr8I (T T2 : TypeId) (x y : Operand) (n : Nat) (ho : o.op = .binOp .shr T x y T2) (hg : Region.wanted o (yielded ops a.tmps) = true) (hx : a.eval x = .int .i64 (n : Int)) (hy : a.eval y = .int .u64 8) (h : wpList Tryd.prog ops Q rest (a.put o.dst (.int .i64 ((n / 256 : Nat) : Int))) w) : wpList Tryd.prog ops Q (o :: rest) a w := by
  refine kPure _ hg ?_ h
  unfold execOp
  simp only [ho, hx, hy]
  simp [eqGuard, binOp, run_shr8]
theorem ySliceTo (x y : Operand) (v : Value) (l : List UInt8) (n : Nat) (hv : ∀ w, S w → IsVals w v (l.map VB)) (hn : n ≤ l.length) (ho : o.op = .slice 22 x none (some y) none) (hg : Region.wanted o (yielded ops a.tmps) = true) (hx : a.eval x = v) (hy : a.eval y = .int .i64 (n : Int)) : YieldsIf Tryd.prog ops S o (toV v n) a :=
  yOf hg fun w hS => by
    unfold execOp
    simp only [ho, hx, hy, Option.map_some, Option.map_none, Sem.run_bind, run_sliceToV (n := n) Tryd.underlying22 info_b8P (hv w hS) rfl (by simpa using hn), Result.andThen_ok, Sem.run_pure]
theorem ySliceFrom (x y : Operand) (v : Value) (l : List UInt8) (n : Nat) (hv : ∀ w, S w → IsVals w v (l.map VB)) (hn : n ≤ l.length) (ho : o.op = .slice 22 x (some y) none none) (hg : Region.wanted o (yielded ops a.tmps) = true) (hx : a.eval x = v) (hy : a.eval y = .int .i64 (n : Int)) : YieldsIf Tryd.prog ops S o (fromV v n) a :=
  yOf hg fun w hS => by
    unfold execOp
    simp only [ho, hx, hy, Option.map_some, Option.map_none, Sem.run_bind, run_sliceFromV (n := n) Tryd.underlying22 info_b8P (hv w hS) rfl (by simpa using hn), Result.andThen_ok, Sem.run_pure]
theorem yIndexB (T E : TypeId) (x y : Operand) (b : Addr) (n c j : Nat) (ho : o.op = .indexAddr T x y) (hg : Region.wanted o (yielded ops a.tmps) = true) (hx : a.eval x = .slice (some b) n c) (hy : a.eval y = .int .i64 (j : Int)) (ht : Tryd.prog.underlying T = some (.slice E)) (hs : (Tryd.prog.info? E).map (·.size) = some 1) (hj : j < n) : YieldsIf Tryd.prog ops S o (.pointer (some (b.add j))) a :=
  yOf hg fun w _ => by
    have hrun : (Instr.indexAt T (.slice (some b) n c) (.int .i64 (j : Int))).run Tryd.prog w = .ok (.pointer (some (b.add j))) w := by
      cases hq : Tryd.prog.info? E with
      | none => simp [hq] at hs
      | some t =>
        have hs' : t.size = 1 := by simpa [hq] using hs
        have hc : (0 : Int) ≤ (j : Int) ∧ (j : Int) < (n : Int) := by omega
        simp [Instr.indexAt, asIntOf, run_underlying ht, hc, sizeOf, typeInfo, hq, hs']
        intro hle; omega
    unfold execOp
    simp only [ho, hx, hy, Sem.run_bind, hrun, Result.andThen_ok, Sem.run_pure]
theorem yLoadC (T : TypeId) (x : Operand) (b : Addr) (v : Value) (d : TypeDesc) (ho : o.op = .load T x) (hg : Region.wanted o (yielded ops a.tmps) = true) (hx : a.eval x = .pointer (some b)) (hr : ∀ w, S w → w.cell? b = some v) (hu : Tryd.prog.underlying T = some d) (hd : aggDesc d = false) : YieldsIf Tryd.prog ops S o v a :=
  yOf hg fun w hS => by
    have hl : (loadVar T b).run Tryd.prog w = .ok v w := by simp [loadVar, Sem.run_bind, run_isAgg hu, hd, load, Sem.run, hr w hS]
    unfold execOp
    simp only [ho, hx, Instr.loadAt, Instr.sureAddr, Sem.run_bind, Sem.run_pure, Result.andThen_ok, hl]
theorem yConv8I (x : Operand) (k : Nat) (hk : k < 256) (ho : o.op = .convert 5 3 x) (hg : Region.wanted o (yielded ops a.tmps) = true) (hx : a.eval x = .int .u8 (k : Int)) : YieldsIf Tryd.prog ops S o (.int .i64 (k : Int)) a :=
  yOf hg fun w _ => by
    unfold execOp
    have e : IntKind.i64.wrap (k : Int) = (k : Int) := by rw [IntKind.wrap_i64]; omega
    simp [ho, hx, convert, run_underlying Tryd.underlying3, run_underlying Tryd.underlying5, e, Conv.intToInt]
theorem yShl8I (T T2 : TypeId) (x y : Operand) (n : Nat) (hn : n < 256) (ho : o.op = .binOp .shl T x y T2) (hg : Region.wanted o (yielded ops a.tmps) = true) (hx : a.eval x = .int .i64 (n : Int)) (hy : a.eval y = .int .u64 8) : YieldsIf Tryd.prog ops S o (.int .i64 ((256 * n : Nat) : Int)) a :=
  yOf hg fun w _ => by
    unfold execOp
    simp only [ho, hx, hy]
    simp [eqGuard, binOp, run_shl8 n hn]
theorem yOrI (T T2 : TypeId) (x y : Operand) (m n : Nat) (hm : m < 256) (hn : n < 256) (ho : o.op = .binOp .or T x y T2) (hg : Region.wanted o (yielded ops a.tmps) = true) (hx : a.eval x = .int .i64 (m : Int)) (hy : a.eval y = .int .i64 ((256 * n : Nat) : Int)) : YieldsIf Tryd.prog ops S o (.int .i64 ((m + 256 * n : Nat) : Int)) a :=
  yOf hg fun w _ => by
    have e := run_or8 m n hm hn w
    unfold execOp
    simp only [ho, hx, hy]
    rw [Sem.run_bind]
    show ((binOp .or T (.int .i64 (m : Int)) (.int .i64 ((256 * n : Nat) : Int))).run Tryd.prog w).andThen _ = _
    rw [show binOp .or T (.int .i64 (m : Int)) (.int .i64 ((256 * n : Nat) : Int)) = Op.intBits .or .i64 (m : Int) ((256 * n : Nat) : Int) from rfl, e]
    rfl
end
set_option maxRecDepth 100000 in
set_option maxHeartbeats 8000000 in
theorem scIsSmall_any (c : UInt8) (w : World) : Calls Tryd.prog 48 #[VB c] w fun e w' => e = .returned (.bool (smallB c)) ∧ w' = w := by
  by_cases k1 : 80 < c.toNat
  · have h1 : decide (B c ≥ 81) = true := by unfold B; simp; omega
    by_cases k2 : c.toNat < 97
    · have h2 : decide (B c ≤ 96) = true := by unfold B; simp; omega
      rw [show smallB c = true by unfold smallB; simp; omega]
      clear k1 k2
      go_enter Tryd.func48, Tryd.ntmps48
      go_wp2_with (first
        | ((with_reducible change wpList _ _ _ (Oper.mk (some 4) _ _ _ _ _ :: _) _ _); refine kGeqI _ _ _ _ .u8 (B c) 81 true rfl rfl rfl rfl h1 ?_; go_frame)
        | ((with_reducible change wpList _ _ _ (Oper.mk (some 7) _ _ _ _ _ :: _) _ _); refine kLeqI _ _ _ _ .u8 (B c) 96 true rfl rfl rfl rfl h2 ?_; go_frame))
      go_ret
      exact ⟨rfl, rfl⟩
    · have h2 : decide (B c ≤ 96) = false := by unfold B; simp; omega
      rw [show smallB c = false by unfold smallB; simp; omega]
      clear k1 k2
      go_enter Tryd.func48, Tryd.ntmps48
      go_wp2_with (first
        | ((with_reducible change wpList _ _ _ (Oper.mk (some 4) _ _ _ _ _ :: _) _ _); refine kGeqI _ _ _ _ .u8 (B c) 81 true rfl rfl rfl rfl h1 ?_; go_frame)
        | ((with_reducible change wpList _ _ _ (Oper.mk (some 7) _ _ _ _ _ :: _) _ _); refine kLeqI _ _ _ _ .u8 (B c) 96 false rfl rfl rfl rfl h2 ?_; go_frame))
      go_ret
      exact ⟨rfl, rfl⟩
  · have h1 : decide (B c ≥ 81) = false := by unfold B; simp; omega
    rw [show smallB c = false by unfold smallB; simp; omega]
    clear k1
    go_enter Tryd.func48, Tryd.ntmps48
    go_wp2_with (first
      | ((with_reducible change wpList _ _ _ (Oper.mk (some 4) _ _ _ _ _ :: _) _ _); refine kGeqI _ _ _ _ .u8 (B c) 81 false rfl rfl rfl rfl h1 ?_; go_frame))
    go_ret
    exact ⟨rfl, rfl⟩
def headN (c : UInt8) : Nat := if c = 76 then 2 else if c = 77 then 3 else 1
theorem B_neS {c d : UInt8} (h : c ≠ d) : decide (B c = B d) = false := by
  unfold B
  have : c.toNat ≠ d.toNat := fun e => h (UInt8.toNat_inj.1 e)
  simp; omega
set_option maxRecDepth 100000 in
set_option maxHeartbeats 8000000 in
theorem scHeadSize_any (c : UInt8) (w : World) : Calls Tryd.prog 54 #[VB c] w fun e w' => e = .returned (.int .i64 (headN c : Int)) ∧ w' = w := by
  by_cases k1 : c = 76
  · subst k1
    change Calls Tryd.prog 54 #[.int .u8 76] w _
    go_enter Tryd.func54, Tryd.ntmps54
    go_wp2
    go_ret
    exact ⟨rfl, rfl⟩
  by_cases k2 : c = 77
  · subst k2
    change Calls Tryd.prog 54 #[.int .u8 77] w _
    go_enter Tryd.func54, Tryd.ntmps54
    go_wp2
    go_ret
    exact ⟨rfl, rfl⟩
  rw [show headN c = 1 by unfold headN; rw [if_neg k1, if_neg k2]]
  have e1 := B_neS k1
  have e2 := B_neS k2
  clear k1 k2
  go_enter Tryd.func54, Tryd.ntmps54
  go_wp2_with (first
    | ((with_reducible change wpList _ _ _ (Oper.mk (some 5) _ _ _ _ _ :: _) _ _); refine kEqlI _ _ _ _ .u8 (B c) (B 76) false rfl rfl rfl rfl e1 ?_; go_frame)
    | ((with_reducible change wpList _ _ _ (Oper.mk (some 7) _ _ _ _ _ :: _) _ _); refine kEqlI _ _ _ _ .u8 (B c) (B 77) false rfl rfl rfl rfl e2 ?_; go_frame))
  go_ret
  exact ⟨rfl, rfl⟩
set_option maxRecDepth 100000 in
set_option maxHeartbeats 8000000 in
theorem scCut_short {l : List UInt8} {v : Value} {n : Nat} (w : World) (hv : IsVals w v (l.map VB)) (hn : l.length < n) : Calls Tryd.prog 53 #[v, .int .i64 (n : Int)] w fun e w' => e = .returned (.tuple #[.slice none 0 0, .slice none 0 0, .bool false]) ∧ w' = w := by
  obtain ⟨m, hm⟩ : ∃ m, l.length = m := ⟨_, rfl⟩
  have hd : decide ((m : Int) < (n : Int)) = true := by simp; omega
  clear hn
  go_enter Tryd.func53, Tryd.ntmps53
  go_wp2_with (first
    | ((with_reducible change wpList _ _ _ (Oper.mk (some 8) _ _ _ _ _ :: _) _ _); refine kLenN _ _ _ v _ m rfl rfl rfl hv (by rw [List.length_map, hm]) Tryd.underlying22 ?_; go_frame)
    | ((with_reducible change wpList _ _ _ (Oper.mk (some 10) _ _ _ _ _ :: _) _ _); refine kLssI _ _ _ _ .i64 (m : Int) (n : Int) true rfl rfl rfl rfl hd ?_; go_frame))
  (try simp only [Exit.inBlock, Exit.then])
  refine ret3 rfl rfl ?_
  exact ⟨rfl, rfl⟩
set_option maxRecDepth 100000 in
set_option maxHeartbeats 8000000 in
theorem scCut_ok {l : List UInt8} {v : Value} {n : Nat} (w : World) (hv : IsVals w v (l.map VB)) (hn : n ≤ l.length) : Calls Tryd.prog 53 #[v, .int .i64 (n : Int)] w fun e w' => e = .returned (.tuple #[toV v n, fromV v n, .bool true]) ∧ IsVals w' (toV v n) ((l.take n).map VB) ∧ IsVals w' (fromV v n) ((l.drop n).map VB) ∧ Below w.heap.size w w' := by
  obtain ⟨m, hm⟩ : ∃ m, l.length = m := ⟨_, rfl⟩
  have hd : decide ((m : Int) < (n : Int)) = false := by simp; omega
  go_enter Tryd.func53, Tryd.ntmps53
  go_wp2_with (first
    | ((with_reducible change wpList _ _ _ (Oper.mk (some 8) _ _ _ _ _ :: _) _ _); refine kLenN _ _ _ v _ m rfl rfl rfl hv (by rw [List.length_map, hm]) Tryd.underlying22 ?_; go_frame)
    | ((with_reducible change wpList _ _ _ (Oper.mk (some 10) _ _ _ _ _ :: _) _ _); refine kLssI _ _ _ _ .i64 (m : Int) (n : Int) false rfl rfl rfl rfl hd ?_; go_frame))
  refine region_mixD [(0, true), (1, true), (2, true), (3, true), (4, true), (5, true), (6, true), (7, true), (8, true)] (fun w => IsVals w v (l.map VB)) (by kernel_rfl) (by kernel_rfl) rfl ?_
  intro w1 hBd hsd
  have hv1 := hv.below hBd
  clear hsd
  simp only [List.map_cons, List.map_nil]
  dsimp only [List.filterMap, List.getElem?_cons_zero, List.getElem?_cons_succ]
  have hS := hv1
  refine dY _ hS (yMove _ (v) rfl rfl rfl) ?_; go_frame
  refine dY _ hS (yMove _ (.int .i64 (n : Int)) rfl rfl rfl) ?_; go_frame
  refine dY _ hS (ySliceTo _ _ v l n (fun _ h => h) hn rfl rfl rfl rfl) ?_; go_frame
  refine dY _ hS (yMove _ (v) rfl rfl rfl) ?_; go_frame
  refine dY _ hS (yMove _ (.int .i64 (n : Int)) rfl rfl rfl) ?_; go_frame
  refine dY _ hS (ySliceFrom _ _ v l n (fun _ h => h) hn rfl rfl rfl rfl) ?_; go_frame
  refine dY _ hS (yAssign _ (toV v n) rfl rfl rfl) ?_; go_frame
  refine dY _ hS (yAssign _ (fromV v n) rfl rfl rfl) ?_; go_frame
  refine dY _ hS (yAssign _ (.bool true) rfl rfl rfl) ?_; go_frame
  refine dDone ?_
  go_wp2
  (try simp only [Exit.inBlock, Exit.then])
  refine ret3 rfl rfl ?_
  have h1 := isVals_to (n := n) hv1 (by simpa using hn)
  have h2 := isVals_from (n := n) hv1 (by simpa using hn)
  rw [← List.map_take] at h1
  rw [← List.map_drop] at h2
  exact ⟨rfl, h1, h2, hBd⟩
/-- how many bytes of a word come behind its head -/
def behindN (h : List UInt8) : Nat := if (at8 h 0).toNat ≤ 75 then (at8 h 0).toNat else if at8 h 0 = 76 then (at8 h 1).toNat else if at8 h 0 = 77 then (at8 h 1).toNat + 256 * (at8 h 2).toNat else 0
theorem vb_at {l : List UInt8} {k : Nat} (hk : k < l.length) : (l.map VB)[k]? = some (VB (at8 l k)) := by
  rw [List.getElem?_map, List.getElem?_eq_getElem hk]; simp [at8, hk]
theorem vb_cell {w : World} {ad : Addr} {q c : Nat} {l : List UInt8} (h : IsVals w (.slice (some ad) q c) (l.map VB)) {k : Nat} (hk : k < l.length) : w.cell? (ad.add k) = some (VB (at8 l k)) := by
  obtain ⟨ao, c', e, _, _, hj⟩ := h
  simp only [Value.slice.injEq] at e
  obtain ⟨a, ha, hc⟩ := hj k _ (vb_at hk)
  rw [← e.1] at ha; cases ha; exact hc
theorem vals_addr {w : World} {v : Value} {l : List UInt8} (h : IsVals w v (l.map VB)) (hl : 0 < l.length) : ∃ ad c, v = .slice (some ad) l.length c := by
  obtain ⟨ao, c', rfl, _, _, hj⟩ := h
  obtain ⟨a, rfl, _⟩ := hj 0 _ (vb_at hl)
  exact ⟨a, c', by simp⟩
set_option maxRecDepth 100000 in
set_option maxHeartbeats 8000000 in
theorem scSizeBehind_any {h : List UInt8} {v : Value} (w : World) (hv : IsVals w v (h.map VB)) (hl : 0 < h.length) (hh : headN (at8 h 0) ≤ h.length) : Calls Tryd.prog 55 #[v] w fun e w' => e = .returned (.int .i64 (behindN h : Int)) ∧ Below w.heap.size w w' := by
  have hcl := (at8 h 0).toNat_lt
  by_cases k1 : (at8 h 0).toNat ≤ 75
  · rw [show behindN h = (at8 h 0).toNat by unfold behindN; rw [if_pos k1]]
    have h1 : decide (B (at8 h 0) ≤ 75) = true := by unfold B; simp; omega
    clear k1 hh
    go_enter Tryd.func55, Tryd.ntmps55
    go_wp2_with (first
      | ((with_reducible change wpList _ _ _ (Oper.mk (some 5) _ _ _ _ _ :: _) _ _); refine kIndexAddrV _ _ _ _ .i64 v _ 0 0 (VB (at8 h 0)) rfl rfl rfl hv rfl Tryd.underlying22 info_b8P rfl (vb_at (by omega)) ?_; intro b hb; go_frame)
      | ((with_reducible change wpList _ _ _ (Oper.mk (some 6) _ _ _ _ _ :: _) _ _); refine kLoadCell _ _ b (VB (at8 h 0)) _ rfl rfl rfl hb Tryd.underlying5 rfl ?_; clear hb; go_frame)
      | ((with_reducible change wpList _ _ _ (Oper.mk (some 9) _ _ _ _ _ :: _) _ _); refine kLeqI _ _ _ _ .u8 (B (at8 h 0)) 75 true rfl rfl rfl rfl h1 ?_; go_frame)
      | ((with_reducible change wpList _ _ _ (Oper.mk (some 11) _ _ _ _ _ :: _) _ _); refine kConv8I _ (at8 h 0).toNat hcl rfl rfl rfl ?_; go_frame))
    go_ret
    exact ⟨rfl, Below.refl _ _⟩
  have h1 : decide (B (at8 h 0) ≤ 75) = false := by unfold B; simp; omega
  by_cases k2 : at8 h 0 = 76
  · have hh2 : 2 ≤ h.length := by unfold headN at hh; rw [if_pos k2] at hh; exact hh
    rw [show behindN h = (at8 h 1).toNat by unfold behindN; rw [if_neg k1, if_pos k2]]
    have h2 : decide (B (at8 h 0) = B 76) = true := by rw [k2]; decide
    clear k1 k2 hh
    go_enter Tryd.func55, Tryd.ntmps55
    go_wp2_with (first
      | ((with_reducible change wpList _ _ _ (Oper.mk (some 5) _ _ _ _ _ :: _) _ _); refine kIndexAddrV _ _ _ _ .i64 v _ 0 0 (VB (at8 h 0)) rfl rfl rfl hv rfl Tryd.underlying22 info_b8P rfl (vb_at (by omega)) ?_; intro b hb; go_frame)
      | ((with_reducible change wpList _ _ _ (Oper.mk (some 6) _ _ _ _ _ :: _) _ _); refine kLoadCell _ _ b (VB (at8 h 0)) _ rfl rfl rfl hb Tryd.underlying5 rfl ?_; clear hb; go_frame)
      | ((with_reducible change wpList _ _ _ (Oper.mk (some 9) _ _ _ _ _ :: _) _ _); refine kLeqI _ _ _ _ .u8 (B (at8 h 0)) 75 false rfl rfl rfl rfl h1 ?_; go_frame)
      | ((with_reducible change wpList _ _ _ (Oper.mk (some 14) _ _ _ _ _ :: _) _ _); refine kEqlI _ _ _ _ .u8 (B (at8 h 0)) (B 76) true rfl rfl rfl rfl h2 ?_; go_frame)
      | ((with_reducible change wpList _ _ _ (Oper.mk (some 16) _ _ _ _ _ :: _) _ _); refine kIndexAddrV _ _ _ _ .i64 v _ 1 1 (VB (at8 h 1)) rfl rfl rfl hv rfl Tryd.underlying22 info_b8P rfl (vb_at (by omega)) ?_; intro b hb; go_frame)
      | ((with_reducible change wpList _ _ _ (Oper.mk (some 17) _ _ _ _ _ :: _) _ _); refine kLoadCell _ _ b (VB (at8 h 1)) _ rfl rfl rfl hb Tryd.underlying5 rfl ?_; clear hb; go_frame)
      | ((with_reducible change wpList _ _ _ (Oper.mk (some 18) _ _ _ _ _ :: _) _ _); refine kConv8I _ (at8 h 1).toNat (at8 h 1).toNat_lt rfl rfl rfl ?_; go_frame))
    go_ret
    exact ⟨rfl, Below.refl _ _⟩
  have h2 := B_neS k2
  by_cases k3 : at8 h 0 = 77
  · have hh2 : 3 ≤ h.length := by unfold headN at hh; rw [if_neg k2, if_pos k3] at hh; exact hh
    rw [show behindN h = (at8 h 1).toNat + 256 * (at8 h 2).toNat by unfold behindN; rw [if_neg k1, if_neg k2, if_pos k3]]
    have h3 : decide (B (at8 h 0) = B 77) = true := by rw [k3]; decide
    clear k1 k2 k3 hh
    obtain ⟨ad, cp, rfl⟩ := vals_addr hv hl
    obtain ⟨q, hq⟩ : ∃ q, h.length = q := ⟨_, rfl⟩
    rw [hq] at hv ⊢
    go_enter Tryd.func55, Tryd.ntmps55
    go_wp2_with (first
      | ((with_reducible change wpList _ _ _ (Oper.mk (some 5) _ _ _ _ _ :: _) _ _); refine kIndexAddrV _ _ _ _ .i64 (.slice (some ad) q cp) _ 0 0 (VB (at8 h 0)) rfl rfl rfl hv rfl Tryd.underlying22 info_b8P rfl (vb_at (by omega)) ?_; intro b hb; go_frame)
      | ((with_reducible change wpList _ _ _ (Oper.mk (some 6) _ _ _ _ _ :: _) _ _); refine kLoadCell _ _ b (VB (at8 h 0)) _ rfl rfl rfl hb Tryd.underlying5 rfl ?_; clear hb; go_frame)
      | ((with_reducible change wpList _ _ _ (Oper.mk (some 9) _ _ _ _ _ :: _) _ _); refine kLeqI _ _ _ _ .u8 (B (at8 h 0)) 75 false rfl rfl rfl rfl h1 ?_; go_frame)
      | ((with_reducible change wpList _ _ _ (Oper.mk (some 14) _ _ _ _ _ :: _) _ _); refine kEqlI _ _ _ _ .u8 (B (at8 h 0)) (B 76) false rfl rfl rfl rfl h2 ?_; go_frame)
      | ((with_reducible change wpList _ _ _ (Oper.mk (some 21) _ _ _ _ _ :: _) _ _); refine kEqlI _ _ _ _ .u8 (B (at8 h 0)) (B 77) true rfl rfl rfl rfl h3 ?_; go_frame))
    refine region_mixD [(0, true), (1, true), (2, true), (3, true), (4, true), (5, true), (6, true), (7, true), (8, true), (9, true), (10, true)] (fun w => IsVals w (.slice (some ad) q cp) (h.map VB)) (by kernel_rfl) (by kernel_rfl) rfl ?_
    intro w1 hBd hsd
    have hv1 := hv.below hBd
    clear hsd
    simp only [List.map_cons, List.map_nil]
    dsimp only [List.filterMap, List.getElem?_cons_zero, List.getElem?_cons_succ]
    have hS := hv1
    refine dY _ hS (yMove _ (.slice (some ad) q cp) rfl rfl rfl) ?_; go_frame
    refine dY _ hS (yIndexB _ _ _ _ ad q cp 1 rfl rfl rfl rfl Tryd.underlying22 info_b8P (by omega)) ?_; go_frame
    refine dY _ hS (yLoadC _ _ (ad.add 1) (VB (at8 h 1)) _ rfl rfl rfl (fun w hw => vb_cell hw (by omega)) Tryd.underlying5 rfl) ?_; go_frame
    refine dY _ hS (yConv8I _ (at8 h 1).toNat (at8 h 1).toNat_lt rfl rfl rfl) ?_; go_frame
    refine dY _ hS (yMove _ (.slice (some ad) q cp) rfl rfl rfl) ?_; go_frame
    refine dY _ hS (yIndexB _ _ _ _ ad q cp 2 rfl rfl rfl rfl Tryd.underlying22 info_b8P (by omega)) ?_; go_frame
    refine dY _ hS (yLoadC _ _ (ad.add 2) (VB (at8 h 2)) _ rfl rfl rfl (fun w hw => vb_cell hw (by omega)) Tryd.underlying5 rfl) ?_; go_frame
    refine dY _ hS (yConv8I _ (at8 h 2).toNat (at8 h 2).toNat_lt rfl rfl rfl) ?_; go_frame
    refine dY _ hS (yShl8I _ _ _ _ (at8 h 2).toNat (at8 h 2).toNat_lt rfl rfl rfl rfl) ?_; go_frame
    refine dY _ hS (yOrI _ _ _ _ (at8 h 1).toNat (at8 h 2).toNat (at8 h 1).toNat_lt (at8 h 2).toNat_lt rfl rfl rfl rfl) ?_; go_frame
    refine dY _ hS (yAssign _ _ rfl rfl rfl) ?_; go_frame
    refine dDone ?_
    go_wp2
    go_ret
    exact ⟨rfl, hBd⟩
  have h3 := B_neS k3
  rw [show behindN h = 0 by unfold behindN; rw [if_neg k1, if_neg k2, if_neg k3]]
  clear k1 k2 k3 hh
  go_enter Tryd.func55, Tryd.ntmps55
  go_wp2_with (first
    | ((with_reducible change wpList _ _ _ (Oper.mk (some 5) _ _ _ _ _ :: _) _ _); refine kIndexAddrV _ _ _ _ .i64 v _ 0 0 (VB (at8 h 0)) rfl rfl rfl hv rfl Tryd.underlying22 info_b8P rfl (vb_at (by omega)) ?_; intro b hb; go_frame)
    | ((with_reducible change wpList _ _ _ (Oper.mk (some 6) _ _ _ _ _ :: _) _ _); refine kLoadCell _ _ b (VB (at8 h 0)) _ rfl rfl rfl hb Tryd.underlying5 rfl ?_; clear hb; go_frame)
    | ((with_reducible change wpList _ _ _ (Oper.mk (some 9) _ _ _ _ _ :: _) _ _); refine kLeqI _ _ _ _ .u8 (B (at8 h 0)) 75 false rfl rfl rfl rfl h1 ?_; go_frame)
    | ((with_reducible change wpList _ _ _ (Oper.mk (some 14) _ _ _ _ _ :: _) _ _); refine kEqlI _ _ _ _ .u8 (B (at8 h 0)) (B 76) false rfl rfl rfl rfl h2 ?_; go_frame)
    | ((with_reducible change wpList _ _ _ (Oper.mk (some 21) _ _ _ _ _ :: _) _ _); refine kEqlI _ _ _ _ .u8 (B (at8 h 0)) (B 77) false rfl rfl rfl rfl h3 ?_; go_frame))
  go_ret
  exact ⟨rfl, Below.refl _ _⟩
/-- the first word where it stands: its head, and what it pushes of what is behind it -/
def splitS (b : List UInt8) : Option (List UInt8 × List UInt8) :=
  if b = [] ∨ b.length < headN (at8 b 0) then none
  else if (b.drop (headN (at8 b 0))).length < behindN (b.take (headN (at8 b 0))) then none
  else some (b.take (headN (at8 b 0)), (b.drop (headN (at8 b 0))).take (behindN (b.take (headN (at8 b 0)))))
def SplitPost (w : World) (r : Option (List UInt8 × List UInt8)) (e : Ending) (w' : World) : Prop :=
  match r with
  | none => ∃ v1 v2, e = .returned (.tuple #[v1, v2, .bool false]) ∧ Below w.heap.size w w'
  | some (h, d) => ∃ v1 v2, e = .returned (.tuple #[v1, v2, .bool true]) ∧ IsVals w' v1 (h.map VB) ∧ IsVals w' v2 (d.map VB) ∧ Below w.heap.size w w'
theorem headN_pos (c : UInt8) : 0 < headN c := by unfold headN; split <;> (try split) <;> omega
theorem at8_take {b : List UInt8} {n : Nat} (hn : 0 < n) : at8 (b.take n) 0 = at8 b 0 := by
  cases b with
  | nil => simp
  | cons x t => obtain ⟨k, rfl⟩ : ∃ k, n = k + 1 := ⟨n - 1, by omega⟩; rfl
set_option maxRecDepth 100000 in
set_option maxHeartbeats 8000000 in
theorem scSplit_any {b : List UInt8} {v : Value} (w : World) (hv : IsVals w v (b.map VB)) : Calls Tryd.prog 47 #[v] w (SplitPost w (splitS b)) := by
  obtain ⟨m, hm⟩ : ∃ m, b.length = m := ⟨_, rfl⟩
  by_cases h0 : b = []
  · have hm0 : decide ((m : Int) = 0) = true := by subst h0; simp at hm ⊢; omega
    rw [show splitS b = none by unfold splitS; rw [if_pos (.inl h0)]]
    clear h0
    go_enter Tryd.func47, Tryd.ntmps47
    go_wp2_with (first
      | ((with_reducible change wpList _ _ _ (Oper.mk (some 6) _ _ _ _ _ :: _) _ _); refine kLenN _ _ _ v _ m rfl rfl rfl hv (by rw [List.length_map, hm]) Tryd.underlying22 ?_; go_frame)
      | ((with_reducible change wpList _ _ _ (Oper.mk (some 7) _ _ _ _ _ :: _) _ _); refine kEqlI _ _ _ _ .i64 (m : Int) 0 true rfl rfl rfl rfl hm0 ?_; go_frame))
    (try simp only [Exit.inBlock, Exit.then])
    refine ret3 rfl rfl ?_
    exact ⟨_, _, rfl, Below.refl _ _⟩
  have hpos : 0 < b.length := List.length_pos_iff.2 h0
  have hm0 : decide ((m : Int) = 0) = false := by simp; omega
  obtain ⟨H, hH⟩ : ∃ H, headN (at8 b 0) = H := ⟨_, rfl⟩
  have hHp : 0 < H := by rw [← hH]; exact headN_pos _
  by_cases h1 : b.length < H
  · rw [show splitS b = none by unfold splitS; rw [hH, if_pos (.inr h1)]]
    have hc := fun w => scCut_short (v := v) (n := H) (l := b) w
    clear h0
    go_enter Tryd.func47, Tryd.ntmps47
    go_wp2_with (first
      | ((with_reducible change wpList _ _ _ (Oper.mk (some 6) _ _ _ _ _ :: _) _ _); refine kLenN _ _ _ v _ m rfl rfl rfl hv (by rw [List.length_map, hm]) Tryd.underlying22 ?_; go_frame)
      | ((with_reducible change wpList _ _ _ (Oper.mk (some 7) _ _ _ _ _ :: _) _ _); refine kEqlI _ _ _ _ .i64 (m : Int) 0 false rfl rfl rfl rfl hm0 ?_; go_frame)
      | ((with_reducible change wpList _ _ _ (Oper.mk (some 11) _ _ _ _ _ :: _) _ _); refine kIndexAddrV _ _ _ _ .i64 v _ 0 0 (VB (at8 b 0)) rfl rfl rfl hv rfl Tryd.underlying22 info_b8P rfl (vb_at (by omega)) ?_; intro p hp; go_frame)
      | ((with_reducible change wpList _ _ _ (Oper.mk (some 12) _ _ _ _ _ :: _) _ _); refine kLoadCell _ _ p (VB (at8 b 0)) _ rfl rfl rfl hp Tryd.underlying5 rfl ?_; clear hp; go_frame)
      | (go_at_call 54; refine (scHeadSize_any _ _).mono ?_; rintro e w1 ⟨rfl, rfl⟩; rw [hH]; go_frame)
      | (go_at_call 53; refine (hc _ hv h1).mono ?_; rintro e w1 ⟨rfl, rfl⟩; go_frame))
    (try simp only [Exit.inBlock, Exit.then])
    refine ret3 rfl rfl ?_
    exact ⟨_, _, rfl, Below.refl _ _⟩
  have hHl : H ≤ b.length := by omega
  obtain ⟨h, hh⟩ : ∃ h, b.take H = h := ⟨_, rfl⟩
  obtain ⟨r, hr⟩ : ∃ r, b.drop H = r := ⟨_, rfl⟩
  have hhl : h.length = H := by rw [← hh, List.length_take]; omega
  have hat : at8 h 0 = at8 b 0 := by rw [← hh]; exact at8_take hHp
  obtain ⟨N, hN⟩ : ∃ N, behindN h = N := ⟨_, rfl⟩
  have hS : splitS b = if r.length < N then none else some (h, r.take N) := by
    unfold splitS; rw [hH, if_neg (by rintro (e | e); exact h0 e; omega), hh, hr, hN]
  rw [hS]
  clear hS h0 h1
  have hsb := fun w (hv : IsVals w (toV v H) (h.map VB)) => scSizeBehind_any w hv (by omega) (by rw [hat, hH]; omega)
  rw [hN] at hsb
  have hok := fun w (hv : IsVals w v (b.map VB)) => scCut_ok w hv hHl
  rw [hh, hr] at hok
  by_cases h2 : r.length < N
  · rw [if_pos h2]
    have hc2 := fun w (hv : IsVals w (fromV v H) (r.map VB)) => scCut_short (n := N) w hv h2
    go_enter Tryd.func47, Tryd.ntmps47
    go_wp2_with (first
      | ((with_reducible change wpList _ _ _ (Oper.mk (some 6) _ _ _ _ _ :: _) _ _); refine kLenN _ _ _ v _ m rfl rfl rfl hv (by rw [List.length_map, hm]) Tryd.underlying22 ?_; go_frame)
      | ((with_reducible change wpList _ _ _ (Oper.mk (some 7) _ _ _ _ _ :: _) _ _); refine kEqlI _ _ _ _ .i64 (m : Int) 0 false rfl rfl rfl rfl hm0 ?_; go_frame)
      | ((with_reducible change wpList _ _ _ (Oper.mk (some 11) _ _ _ _ _ :: _) _ _); refine kIndexAddrV _ _ _ _ .i64 v _ 0 0 (VB (at8 b 0)) rfl rfl rfl hv rfl Tryd.underlying22 info_b8P rfl (vb_at (by omega)) ?_; intro p hp; go_frame)
      | ((with_reducible change wpList _ _ _ (Oper.mk (some 12) _ _ _ _ _ :: _) _ _); refine kLoadCell _ _ p (VB (at8 b 0)) _ rfl rfl rfl hp Tryd.underlying5 rfl ?_; clear hp; go_frame)
      | (go_at_call 54; refine (scHeadSize_any _ _).mono ?_; rintro e w1 ⟨rfl, rfl⟩; rw [hH]; go_frame)
      | (go_at_call 53; (with_reducible change Calls _ _ #[v, .int .i64 (H : Int)] _ _); refine (hok _ hv).mono ?_; rintro e w1 ⟨rfl, hT1, hF1, hB1⟩; have hsz1 := hB1.size; clear hok hv; go_frame)
      | (go_at_call 55; refine (hsb _ hT1).mono ?_; rintro e w2 ⟨rfl, hB2⟩; have hF2 := hF1.below hB2; have hB3 := hB1.trans (hB2.mono hsz1); clear hsb hF1 hT1 hB1 hB2 hsz1; go_frame)
      | (go_at_call 53; (with_reducible change Calls _ _ #[fromV v H, .int .i64 (N : Int)] _ _); refine (hc2 _ hF2).mono ?_; rintro e w3 ⟨rfl, rfl⟩; go_frame))
    (try simp only [Exit.inBlock, Exit.then])
    refine ret3 rfl rfl ?_
    exact ⟨_, _, rfl, hB3⟩
  · rw [if_neg h2]
    have hc2 := fun w (hv : IsVals w (fromV v H) (r.map VB)) => scCut_ok (n := N) w hv (by omega)
    go_enter Tryd.func47, Tryd.ntmps47
    go_wp2_with (first
      | ((with_reducible change wpList _ _ _ (Oper.mk (some 6) _ _ _ _ _ :: _) _ _); refine kLenN _ _ _ v _ m rfl rfl rfl hv (by rw [List.length_map, hm]) Tryd.underlying22 ?_; go_frame)
      | ((with_reducible change wpList _ _ _ (Oper.mk (some 7) _ _ _ _ _ :: _) _ _); refine kEqlI _ _ _ _ .i64 (m : Int) 0 false rfl rfl rfl rfl hm0 ?_; go_frame)
      | ((with_reducible change wpList _ _ _ (Oper.mk (some 11) _ _ _ _ _ :: _) _ _); refine kIndexAddrV _ _ _ _ .i64 v _ 0 0 (VB (at8 b 0)) rfl rfl rfl hv rfl Tryd.underlying22 info_b8P rfl (vb_at (by omega)) ?_; intro p hp; go_frame)
      | ((with_reducible change wpList _ _ _ (Oper.mk (some 12) _ _ _ _ _ :: _) _ _); refine kLoadCell _ _ p (VB (at8 b 0)) _ rfl rfl rfl hp Tryd.underlying5 rfl ?_; clear hp; go_frame)
      | (go_at_call 54; refine (scHeadSize_any _ _).mono ?_; rintro e w1 ⟨rfl, rfl⟩; rw [hH]; go_frame)
      | (go_at_call 53; (with_reducible change Calls _ _ #[v, .int .i64 (H : Int)] _ _); refine (hok _ hv).mono ?_; rintro e w1 ⟨rfl, hT1, hF1, hB1⟩; have hsz1 := hB1.size; clear hok hv; go_frame)
      | (go_at_call 55; refine (hsb _ hT1).mono ?_; rintro e w2 ⟨rfl, hB2⟩; have hF2 := hF1.below hB2; have hT2 := hT1.below hB2; have hB3 := hB1.trans (hB2.mono hsz1); have hsz3 := hB3.size; clear hsb hF1 hT1 hB1 hB2 hsz1; go_frame)
      | (go_at_call 53; (with_reducible change Calls _ _ #[fromV v H, .int .i64 (N : Int)] _ _); refine (hc2 _ hF2).mono ?_; rintro e w3 ⟨rfl, hT3, hF3, hB4⟩; have hT4 := hT2.below hB4; have hB5 := hB3.trans (hB4.mono hsz3); clear hc2 hF2 hT2 hB3 hB4 hF3; go_frame))
    (try simp only [Exit.inBlock, Exit.then])
    refine ret3 rfl rfl ?_
    exact ⟨_, _, rfl, hT4, hT3, hB5⟩
end Go.Proofs.YtnaclalbeocpkaaDoor
