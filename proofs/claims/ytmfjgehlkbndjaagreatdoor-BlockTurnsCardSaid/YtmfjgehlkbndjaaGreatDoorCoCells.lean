/-
  Layer 9: outputs, coins and references as cells; their fields; numbers of 64 bits with a sign.
-/
import Derived.Test.YtmfjgehlkbndjaaGreatDoorPcAll
import Derived.Test.YtmfjgehlkbndjaaGreatDoorCoPlain
import Derived.Test.YtmfjgehlkbndjaaGreatDoorKitSt
import Derived.Test.YtmfjgehlkbndjaaGreatDoorKitT
import Derived.Laws.Shifts
namespace Go.Proofs.YtmfjgehlkbndjaaGreatDoor
open Go Go.RowKit

def outC (n : Int) (v : Value) : Array Value := #[.int .i64 n, v]
def refC (l : List UInt8) (n : Nat) : Array Value := ((List.range 32).map (fun p => VB (at8 l p)) ++ [Value.int .u32 (n : Int)]).toArray
theorem refC_size (l : List UInt8) (n : Nat) : (refC l n).size = 33 := by simp [refC]
theorem refC_at (l : List UInt8) (n : Nat) : (refC l n)[32]? = some (.int .u32 (n : Int)) := by simp [refC]
theorem refC_id (l : List UInt8) (n : Nat) : (refC l n).extract 0 (0 + 32) = tab 32 fun p => VB (at8 l p) := by
  simp only [refC, tab, List.extract_toArray, List.extract_eq_take_drop]
  simp
theorem refC_one (l : List UInt8) (n : Nat) : ∀ v ∈ refC l n, v.oneCell' = true := by
  intro v hv
  simp only [refC, List.mem_toArray, List.mem_append, List.mem_map, List.mem_singleton] at hv
  rcases hv with ⟨j, -, rfl⟩ | rfl <;> rfl
theorem refC_set (l : List UInt8) (n m : Nat) : (refC l n).setIfInBounds 32 (.int .u32 (m : Int)) = refC l m := by
  simp [refC]
theorem list_at32 {l : List UInt8} {n : Nat} (h : l.length = n) : (List.range n).map (fun p => VB (at8 l p)) = l.map VB := by
  subst h
  refine List.ext_getElem? fun j => ?_
  rw [List.getElem?_map, List.getElem?_map]
  by_cases hj : j < l.length
  · rw [List.getElem?_range hj, List.getElem?_eq_getElem hj]
    simp [at8, hj]
  · rw [List.getElem?_eq_none (by simp; omega), List.getElem?_eq_none (by omega)]; rfl
theorem refC_eq {l : List UInt8} (hl : l.length = 32) (n : Nat) : refC l n = (l.map VB ++ [Value.int .u32 (n : Int)]).toArray := by unfold refC; rw [list_at32 hl]
theorem info_OutC : (Tryz.prog.info? 64).map (·.size) = some 2 := by kernel_rfl
theorem info_RefC : (Tryz.prog.info? 60).map (·.size) = some 33 := by kernel_rfl
theorem info_RefS (l : List UInt8) (n : Nat) : (Tryz.prog.info? 60).map (·.size) = some (refC l n).size := by rw [refC_size]; exact info_RefC
theorem info_u32Co : (Tryz.prog.info? 22).map (·.size) = some 1 := by kernel_rfl
theorem info_HashCo : (Tryz.prog.info? 24).map (·.size) = some 32 := by kernel_rfl
theorem zero_OutC : ((Tryz.prog.info? 64).bind (·.zero)).map Value.cells = some (outC 0 (.slice none 0 0)) := by kernel_rfl
theorem at_z32 : ∀ j, j < 32 → at8 z32 j = 0 := by decide
theorem refC_z0 : refC z32 0 = ((List.range 32).map (fun _ => VB 0) ++ [Value.int .u32 0]).toArray := by
  unfold refC
  rw [List.map_congr_left (g := fun _ => VB 0) fun j hj => by rw [at_z32 j (List.mem_range.1 hj)]]; rfl
theorem zero_RefC0 : ((Tryz.prog.info? 60).bind (·.zero)).map Value.cells = some ((List.range 32).map (fun _ => VB 0) ++ [Value.int .u32 0]).toArray := by kernel_rfl
theorem zero_RefC : ((Tryz.prog.info? 60).bind (·.zero)).map Value.cells = some (refC z32 0) := by rw [refC_z0]; exact zero_RefC0
theorem built_Ref0 : Tryz.prog.built 60 [] = some ((List.range 32).map (fun _ => VB 0) ++ [Value.int .u32 0]).toArray := by kernel_rfl
theorem built_RefC : Tryz.prog.built 60 [] = some (refC z32 0) := by rw [refC_z0]; exact built_Ref0
theorem built_Out0 : Tryz.prog.built 64 [] = some (outC 0 (.slice none 0 0)) := by kernel_rfl
theorem built_Out1 (n : Int) : Tryz.prog.built 64 [(0, .int .i64 n)] = some (outC n (.slice none 0 0)) := by kernel_rfl
theorem built_Out2s (n : Int) (ao : Option Addr) (k c : Nat) : Tryz.prog.built 64 [(0, .int .i64 n), (1, .slice ao k c)] = some (outC n (.slice ao k c)) := by kernel_rfl
theorem built_Out2 {w : World} {v : Value} {l : List Value} (h : IsVals w v l) (n : Int) : Tryz.prog.built 64 [(0, .int .i64 n), (1, v)] = some (outC n v) := by obtain ⟨ao, c, rfl, _⟩ := h; exact built_Out2s _ _ _ _
theorem outC_one {w : World} {v : Value} {l : List Value} (h : IsVals w v l) (n : Int) : ∀ u ∈ outC n v, u.oneCell' = true := by
  obtain ⟨ao, c, rfl, _⟩ := h
  intro u hu
  simp [outC] at hu
  rcases hu with rfl | rfl <;> rfl
theorem outCF0 : ∃ f fs, Tryz.prog.underlying 64 = some (.struct fs) ∧ fs[0]? = some f ∧ f.offset = 0 ∧ (Tryz.prog.info? f.type).map (·.size) = some (0 + 1) := ⟨_, _, Tryz.underlying64, rfl, rfl, by kernel_rfl⟩
theorem outCF1 : ∃ f fs, Tryz.prog.underlying 64 = some (.struct fs) ∧ fs[1]? = some f ∧ f.offset = 1 ∧ (Tryz.prog.info? f.type).map (·.size) = some (0 + 1) := ⟨_, _, Tryz.underlying64, rfl, rfl, by kernel_rfl⟩
theorem refCF0 : ∃ f fs, Tryz.prog.underlying 60 = some (.struct fs) ∧ fs[0]? = some f ∧ f.offset = 0 ∧ (Tryz.prog.info? f.type).map (·.size) = some (31 + 1) := ⟨_, _, Tryz.underlying60, rfl, rfl, by kernel_rfl⟩
theorem refCF1 : ∃ f fs, Tryz.prog.underlying 60 = some (.struct fs) ∧ fs[1]? = some f ∧ f.offset = 32 ∧ (Tryz.prog.info? f.type).map (·.size) = some (0 + 1) := ⟨_, _, Tryz.underlying60, rfl, rfl, by kernel_rfl⟩
section
variable {ops : Array Oper} {Q : Exit → Act → World → Prop} {rest : List Oper} {o : Oper} {a : Act} {w : World} {S : World → Prop}
theorem kFld {P : Program} {T : TypeId} {k n fo : Nat} (hF : ∃ f fs, P.underlying T = some (.struct fs) ∧ fs[k]? = some f ∧ f.offset = fo ∧ (P.info? f.type).map (·.size) = some (n + 1)) (x : Operand) (b off off' : Nat) (he : off + fo = off') (ho : o.op = .fieldAddr T x k) (hg : Region.wanted o (yielded ops a.tmps) = true) (hx : a.eval x = .pointer (some ⟨b, off, none⟩)) (h : wpList P ops Q rest (a.put o.dst (.pointer (some ⟨b, off', none⟩))) w) : wpList P ops Q (o :: rest) a w := by
  obtain ⟨f, fs, h1, h2, h3, h4⟩ := hF
  subst he
  exact kFieldAt _ x k n fo fs f b off ho hg hx h1 h2 h3 h4 h
theorem yFld {P : Program} {T : TypeId} {k n fo : Nat} (hF : ∃ f fs, P.underlying T = some (.struct fs) ∧ fs[k]? = some f ∧ f.offset = fo ∧ (P.info? f.type).map (·.size) = some (n + 1)) (x : Operand) (b off off' : Nat) (he : off + fo = off') (ho : o.op = .fieldAddr T x k) (hg : Region.wanted o (yielded ops a.tmps) = true) (hx : a.eval x = .pointer (some ⟨b, off, none⟩)) : YieldsIf P ops S o (.pointer (some ⟨b, off', none⟩)) a := by
  obtain ⟨f, fs, h1, h2, h3, h4⟩ := hF
  subst he
  exact yField _ x k n fo fs f b off ho hg hx h1 h2 h3 h4
theorem kLoadOut (x : Operand) (g : Nat) (n : Int) (v : Value) (hr : Row w g 64 (outC n v)) (ho : o.op = .load 64 x) (hg : Region.wanted o (yielded ops a.tmps) = true) (hx : a.eval x = .pointer (some ⟨g, 0, none⟩)) (h : wpList Tryz.prog ops Q rest (a.put o.dst (.agg (outC n v))) w) : wpList Tryz.prog ops Q (o :: rest) a w :=
  kLoadRow _ _ _ g _ _ ho hg hx hr Tryz.underlying64 rfl info_OutC h
theorem kLoadRef (x : Operand) (g : Nat) (l : List UInt8) (n : Nat) (hr : Row w g 60 (refC l n)) (ho : o.op = .load 60 x) (hg : Region.wanted o (yielded ops a.tmps) = true) (hx : a.eval x = .pointer (some ⟨g, 0, none⟩)) (h : wpList Tryz.prog ops Q rest (a.put o.dst (.agg (refC l n))) w) : wpList Tryz.prog ops Q (o :: rest) a w :=
  kLoadRow _ _ _ g _ _ ho hg hx hr Tryz.underlying60 rfl (info_RefS _ _) h
/-- one cell of a row -/
theorem kLd {P : Program} {T U : TypeId} {d : TypeDesc} (hu : P.underlying T = some d) (hd : aggDesc d = false) (x : Operand) (g off : Nat) (cs : Array Value) (v : Value) (hr : Row w g U cs) (hv : cs[off]? = some v) (ho : o.op = .load T x) (hg : Region.wanted o (yielded ops a.tmps) = true) (hx : a.eval x = .pointer (some ⟨g, off, none⟩)) (h : wpList P ops Q rest (a.put o.dst v) w) : wpList P ops Q (o :: rest) a w :=
  kLoad1 _ _ _ g off _ _ _ ho hg hx hr hu hd hv h
theorem yLoadRowC {P : Program} {T U : TypeId} {d : TypeDesc} (hu : P.underlying T = some d) (hd : aggDesc d = true) (x : Operand) (g : Nat) (cs : Array Value) (hi : (P.info? T).map (·.size) = some cs.size) (hr : ∀ w, S w → Row w g U cs) (ho : o.op = .load T x) (hg : Region.wanted o (yielded ops a.tmps) = true) (hx : a.eval x = .pointer (some ⟨g, 0, none⟩)) : YieldsIf P ops S o (.agg cs) a :=
  yOf hg fun w hS => by
    have hl := run_loadPart (w := w) (n := cs.size) (off := 0) (hr w hS) hu hd hi (by omega)
    rw [show cs.extract 0 (0 + cs.size) = cs by simp] at hl
    unfold execOp; simp only [ho, hx, Instr.loadAt, Instr.sureAddr, Sem.run_bind, Sem.run_pure, Result.andThen_ok, hl]
theorem yLoadPartC {P : Program} {T U : TypeId} {d : TypeDesc} (hu : P.underlying T = some d) (hd : aggDesc d = true) (x : Operand) (g off n : Nat) (cs vs : Array Value) (hi : (P.info? T).map (·.size) = some n) (hn : off + n ≤ cs.size) (he : cs.extract off (off + n) = vs) (hr : ∀ w, S w → Row w g U cs) (ho : o.op = .load T x) (hg : Region.wanted o (yielded ops a.tmps) = true) (hx : a.eval x = .pointer (some ⟨g, off, none⟩)) : YieldsIf P ops S o (.agg vs) a :=
  yOf hg fun w hS => by
    subst he
    unfold execOp; simp only [ho, hx, Instr.loadAt, Instr.sureAddr, Sem.run_bind, Sem.run_pure, Result.andThen_ok, run_loadPart (hr w hS) hu hd hi hn]
theorem kStoreOut (x y : Operand) (g : Nat) (n : Int) (v : Value) (cs : Array Value) (hr : Row w g 64 cs) (hc : cs.size = 2) {l : List Value} {w0 : World} (hv : IsVals w0 v l) (ho : o.op = .store 64 x y) (hg : Region.wanted o (yielded ops a.tmps) = true) (hx : a.eval x = .pointer (some ⟨g, 0, none⟩)) (hy : a.eval y = .agg (outC n v)) (h : ∀ w1, Row w1 g 64 (outC n v) → Wrote g w w1 → wpList Tryz.prog ops Q rest (a.put o.dst undef) w1) : wpList Tryz.prog ops Q (o :: rest) a w :=
  kStoreRow _ _ _ _ g _ _ ho hg hx hy hr info_OutC (by rw [hc]; rfl) (outC_one hv n) h
theorem kStoreRef (x y : Operand) (g : Nat) (l : List UInt8) (n : Nat) (cs : Array Value) (hr : Row w g 60 cs) (hc : cs.size = 33) (ho : o.op = .store 60 x y) (hg : Region.wanted o (yielded ops a.tmps) = true) (hx : a.eval x = .pointer (some ⟨g, 0, none⟩)) (hy : a.eval y = .agg (refC l n)) (h : ∀ w1, Row w1 g 60 (refC l n) → Wrote g w w1 → wpList Tryz.prog ops Q rest (a.put o.dst undef) w1) : wpList Tryz.prog ops Q (o :: rest) a w :=
  kStoreRow _ _ _ _ g _ _ ho hg hx hy hr (info_RefS _ _) (by rw [hc, refC_size]) (refC_one l n) h
theorem kBuildOut0 (ho : o.op = .build 64 #[]) (hg : Region.wanted o (yielded ops a.tmps) = true) (h : wpList Tryz.prog ops Q rest (a.put o.dst (.agg (outC 0 (.slice none 0 0)))) w) : wpList Tryz.prog ops Q (o :: rest) a w :=
  kBuildAny _ _ #[] _ ho hg (by simp) built_Out0 h
theorem kBuildOut1 (x : Operand) (n : Int) (ho : o.op = .build 64 #[(0, x)]) (hg : Region.wanted o (yielded ops a.tmps) = true) (hx : a.eval x = .int .i64 n) (h : wpList Tryz.prog ops Q rest (a.put o.dst (.agg (outC n (.slice none 0 0)))) w) : wpList Tryz.prog ops Q (o :: rest) a w :=
  kBuildAny _ _ #[(0, .int .i64 n)] _ ho hg (by simp [hx]) (built_Out1 n) h
theorem kBuildOut2 (x y : Operand) (n : Int) (v : Value) {l : List Value} {w0 : World} (hv : IsVals w0 v l) (ho : o.op = .build 64 #[(0, x), (1, y)]) (hg : Region.wanted o (yielded ops a.tmps) = true) (hx : a.eval x = .int .i64 n) (hy : a.eval y = v) (h : wpList Tryz.prog ops Q rest (a.put o.dst (.agg (outC n v))) w) : wpList Tryz.prog ops Q (o :: rest) a w :=
  kBuildAny _ _ #[(0, .int .i64 n), (1, v)] _ ho hg (by simp [hx, hy]) (built_Out2 hv n) h
theorem kBuildRef0 (ho : o.op = .build 60 #[]) (hg : Region.wanted o (yielded ops a.tmps) = true) (h : wpList Tryz.prog ops Q rest (a.put o.dst (.agg (refC z32 0))) w) : wpList Tryz.prog ops Q (o :: rest) a w :=
  kBuildAny _ _ #[] _ ho hg (by simp) built_RefC h
/-! numbers -/
theorem kConvZU (x : Operand) (z : Int) (ho : o.op = .convert 2 77 x) (hg : Region.wanted o (yielded ops a.tmps) = true) (hx : a.eval x = .int .i64 z) (h : wpList Tryz.prog ops Q rest (a.put o.dst (.int .u64 (u64N z : Int))) w) : wpList Tryz.prog ops Q (o :: rest) a w := by
  refine kPure _ hg ?_ h
  unfold execOp
  have e : IntKind.u64.wrap z = (u64N z : Int) := by rw [IntKind.wrap_u64]; unfold u64N; omega
  simp [ho, hx, convert, run_underlying Tryz.underlying77, run_underlying Tryz.underlying2, e, Conv.intToInt]
theorem kConvUZ (x : Operand) (n : Nat) (ho : o.op = .convert 77 2 x) (hg : Region.wanted o (yielded ops a.tmps) = true) (hx : a.eval x = .int .u64 (n : Int)) (h : wpList Tryz.prog ops Q rest (a.put o.dst (.int .i64 (i64Z n))) w) : wpList Tryz.prog ops Q (o :: rest) a w := by
  refine kPure _ hg ?_ h
  unfold execOp
  have e : IntKind.i64.wrap (n : Int) = i64Z n := by rw [IntKind.wrap_i64]; unfold i64Z; omega
  simp [ho, hx, convert, run_underlying Tryz.underlying77, run_underlying Tryz.underlying2, e, Conv.intToInt]
theorem kConvUW (x : Operand) (n : Nat) (ho : o.op = .convert 77 22 x) (hg : Region.wanted o (yielded ops a.tmps) = true) (hx : a.eval x = .int .u64 (n : Int)) (h : wpList Tryz.prog ops Q rest (a.put o.dst (.int .u32 ((n % 4294967296 : Nat) : Int))) w) : wpList Tryz.prog ops Q (o :: rest) a w := by
  refine kPure _ hg ?_ h
  unfold execOp
  have e : IntKind.u32.wrap (n : Int) = ((n % 4294967296 : Nat) : Int) := by rw [IntKind.wrap_u32]; omega
  simp [ho, hx, convert, run_underlying Tryz.underlying77, run_underlying Tryz.underlying22, e, Conv.intToInt]
theorem kConvWU (x : Operand) (k : Nat) (hk : k < 4294967296) (ho : o.op = .convert 22 77 x) (hg : Region.wanted o (yielded ops a.tmps) = true) (hx : a.eval x = .int .u32 (k : Int)) (h : wpList Tryz.prog ops Q rest (a.put o.dst (.int .u64 (k : Int))) w) : wpList Tryz.prog ops Q (o :: rest) a w := by
  refine kPure _ hg ?_ h
  unfold execOp
  have e : IntKind.u64.wrap (k : Int) = (k : Int) := by rw [IntKind.wrap_u64]; omega
  simp [ho, hx, convert, run_underlying Tryz.underlying77, run_underlying Tryz.underlying22, e, Conv.intToInt]
theorem kSubC (T T2 : TypeId) (x y : Operand) (m n z : Int) (hz : m - n = z ∧ -9223372036854775808 ≤ z ∧ z < 9223372036854775808) (ho : o.op = .binOp .sub T x y T2) (hg : Region.wanted o (yielded ops a.tmps) = true) (hx : a.eval x = .int .i64 m) (hy : a.eval y = .int .i64 n) (h : wpList Tryz.prog ops Q rest (a.put o.dst (.int .i64 z)) w) : wpList Tryz.prog ops Q (o :: rest) a w := by
  obtain ⟨rfl, h1, h2⟩ := hz
  refine kPure _ hg ?_ h
  unfold execOp
  simp only [ho, hx, hy]
  have e : IntKind.i64.wrap (m - n) = m - n := by rw [IntKind.wrap_i64]; omega
  simp [eqGuard, binOp, Op.intArith, e]
end
set_option maxRecDepth 100000 in
set_option maxHeartbeats 8000000 in
theorem cEqual_any {l m : List UInt8} {v u : Value} (w : World) (hv : IsVals w v (l.map VB)) (hu : IsVals w u (m.map VB)) : Calls Tryz.prog 46 #[v, u] w fun e w' => e = .returned (.bool (l == m)) ∧ w' = w := by
  go_enter Tryz.func46, Tryz.ntmps46
  go_wp2_with (first
    | ((with_reducible change wpList _ _ _ (Oper.mk (some 6) _ _ _ _ _ :: _) _ _); refine kToString _ _ _ _ v l rfl rfl rfl hv Tryz.underlying38 Tryz.underlying5 Tryz.underlying9 ?_; go_frame)
    | ((with_reducible change wpList _ _ _ (Oper.mk (some 8) _ _ _ _ _ :: _) _ _); refine kToString _ _ _ _ u m rfl rfl rfl hu Tryz.underlying38 Tryz.underlying5 Tryz.underlying9 ?_; go_frame)
    | ((with_reducible change wpList _ _ _ (Oper.mk (some 9) _ _ _ _ _ :: _) _ _); refine kEqlStr _ _ _ _ l m _ rfl rfl rfl rfl rfl ?_; go_frame))
  go_ret
  exact ⟨rfl, rfl⟩
end Go.Proofs.YtmfjgehlkbndjaaGreatDoor
