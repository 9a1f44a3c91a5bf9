/-
  Layer 5: signatures and hashes as rows of cells; single operations on them.
-/
import Derived.Test.YtfgffjmpjoipeaaDoorSgPlain
import Derived.Test.YtfgffjmpjoipeaaDoorCvBytes1
namespace Go.Proofs.YtfgffjmpjoipeaaDoor
open Go Go.RowKit
open Cv

theorem wcells2_lit (x y : Nat) : wcells2 x y = #[.int .u64 (limb x 0 : Int), .int .u64 (limb x 1 : Int), .int .u64 (limb x 2 : Int), .int .u64 (limb x 3 : Int), .int .u64 (limb y 0 : Int), .int .u64 (limb y 1 : Int), .int .u64 (limb y 2 : Int), .int .u64 (limb y 3 : Int)] := rfl
theorem wcells2_one (x y : Nat) : ∀ v ∈ wcells2 x y, v.oneCell' = true := by rw [wcells2_lit]; simp [Value.oneCell']
theorem info_Sig : (Tryd.prog.info? 35).map (·.size) = some 8 := by kernel_rfl
theorem info_SigC (x y : Nat) : (Tryd.prog.info? 35).map (·.size) = some (wcells2 x y).size := info_Sig
theorem zero_Sig0 : ((Tryd.prog.info? 35).bind (·.zero)).map Value.cells = some #[.int .u64 0, .int .u64 0, .int .u64 0, .int .u64 0, .int .u64 0, .int .u64 0, .int .u64 0, .int .u64 0] := by kernel_rfl
theorem zero_Sig : ((Tryd.prog.info? 35).bind (·.zero)).map Value.cells = some (wcells2 0 0) := zero_Sig0
theorem info_Hash : (Tryd.prog.info? 40).map (·.size) = some 32 := by kernel_rfl
theorem info_HashC (f : Nat → Nat) : (Tryd.prog.info? 40).map (·.size) = some (bcells f).size := by rw [bcells_size]; exact info_Hash
/-- a hash as a number -/
def zOf (f : Nat → Nat) : Nat := bnum (fun i => f (31 - i)) 32
section
variable {ops : Array Oper} {Q : Exit → Act → World → Prop} {rest : List Oper} {o : Oper} {a : Act} {w : World}
theorem sigField0 : ∃ f fs, Tryd.prog.underlying 35 = some (.struct fs) ∧ fs[0]? = some f ∧ f.offset = 0 ∧ (Tryd.prog.info? f.type).map (·.size) = some (3 + 1) := ⟨_, _, Tryd.underlying35, rfl, rfl, by kernel_rfl⟩
theorem sigField1 : ∃ f fs, Tryd.prog.underlying 35 = some (.struct fs) ∧ fs[1]? = some f ∧ f.offset = 4 ∧ (Tryd.prog.info? f.type).map (·.size) = some (3 + 1) := ⟨_, _, Tryd.underlying35, rfl, rfl, by kernel_rfl⟩
theorem kFieldSig0 (x : Operand) (b : Nat) (ho : o.op = .fieldAddr 35 x 0) (hg : Region.wanted o (yielded ops a.tmps) = true) (hx : a.eval x = .pointer (some ⟨b, 0, none⟩)) (h : wpList Tryd.prog ops Q rest (a.put o.dst (.pointer (some ⟨b, 0, none⟩))) w) : wpList Tryd.prog ops Q (o :: rest) a w := by
  obtain ⟨f, fs, h1, h2, h3, h4⟩ := sigField0
  exact kFieldAt _ x 0 3 0 fs f b 0 ho hg hx h1 h2 h3 h4 h
theorem kFieldSig1 (x : Operand) (b : Nat) (ho : o.op = .fieldAddr 35 x 1) (hg : Region.wanted o (yielded ops a.tmps) = true) (hx : a.eval x = .pointer (some ⟨b, 0, none⟩)) (h : wpList Tryd.prog ops Q rest (a.put o.dst (.pointer (some ⟨b, 4, none⟩))) w) : wpList Tryd.prog ops Q (o :: rest) a w := by
  obtain ⟨f, fs, h1, h2, h3, h4⟩ := sigField1
  exact kFieldAt _ x 1 3 4 fs f b 0 ho hg hx h1 h2 h3 h4 h
theorem built_sig0L : Tryd.prog.built 35 [] = some #[.int .u64 0, .int .u64 0, .int .u64 0, .int .u64 0, .int .u64 0, .int .u64 0, .int .u64 0, .int .u64 0] := by kernel_rfl
theorem built_sig0 : Tryd.prog.built 35 [] = some (wcells2 0 0) := built_sig0L
theorem built_sig2 (a0 a1 a2 a3 b0 b1 b2 b3 : Value) : Tryd.prog.built 35 [(0, .agg #[a0, a1, a2, a3]), (1, .agg #[b0, b1, b2, b3])] = some #[a0, a1, a2, a3, b0, b1, b2, b3] := by kernel_rfl
theorem kBuildSig0 (ho : o.op = .build 35 #[]) (hg : Region.wanted o (yielded ops a.tmps) = true) (h : wpList Tryd.prog ops Q rest (a.put o.dst (.agg (wcells2 0 0))) w) : wpList Tryd.prog ops Q (o :: rest) a w :=
  kBuildAny _ _ #[] _ ho hg (by simp) built_sig0 h
theorem kBuildSig2 (x y : Operand) (m n : Nat) (ho : o.op = .build 35 #[(0, x), (1, y)]) (hg : Region.wanted o (yielded ops a.tmps) = true) (hx : a.eval x = .agg (wcells m)) (hy : a.eval y = .agg (wcells n)) (h : wpList Tryd.prog ops Q rest (a.put o.dst (.agg (wcells2 m n))) w) : wpList Tryd.prog ops Q (o :: rest) a w :=
  kBuildAny _ _ #[(0, .agg (wcells m)), (1, .agg (wcells n))] _ ho hg (by simp [hx, hy]) (by rw [wcells_lit, wcells_lit]; exact built_sig2 _ _ _ _ _ _ _ _) h
/-- the X of a point that is at hand -/
theorem kFieldX (x : Operand) (p : Pt PP) (n : Nat) (hn : pX p = n) (ho : o.op = .field 30 x 0) (hg : Region.wanted o (yielded ops a.tmps) = true) (hx : a.eval x = .agg (ptc p)) (h : wpList Tryd.prog ops Q rest (a.put o.dst (.agg (wcells n))) w) : wpList Tryd.prog ops Q (o :: rest) a w := by
  subst hn
  refine kPure _ hg ?_ h
  have hL := listed_Point
  have h0 : ∃ f, (Tryd.prog.fieldsOf 30)[0]? = some f ∧ f.type = 24 ∧ f.offset = 0 := by
    rw [← Array.getElem?_toList]
    generalize (Tryd.prog.fieldsOf 30).toList = fs at hL
    cases fs with
    | nil => simp at hL
    | cons f fs => simp only [List.map_cons, List.cons.injEq, Prod.mk.injEq] at hL; exact ⟨f, rfl, hL.1.1, hL.1.2.1⟩
  obtain ⟨f, hf, ht, hoff⟩ := h0
  have hp := partW (ptc p) 0 (pX p) (ptc_at0 p) w
  unfold execOp
  simp only [ho, hx, Sem.run_bind]
  have hr : (Instr.field 30 (.agg (ptc p)) 0).run Tryd.prog w = .ok (.agg (wcells (pX p))) w := by
    simp [Instr.field, Sem.run_bind, run_underlying fields_Point, hf, ht, hoff, asAgg, hp]
  rw [hr]; rfl
/-- '==' of signatures -/
theorem eqGuard_Sig : Tryd.prog.eqGuardType Tryd.prog.depth 35 = false := by kernel_rfl
theorem stood_Sig : Tryd.prog.stoodInHeld 35 = false := by kernel_rfl
theorem fields_Sig : Tryd.prog.underlying 35 = some (.struct (Tryd.prog.fieldsOf 35)) := by kernel_rfl
theorem listed_Sig : (Tryd.prog.fieldsOf 35).toList.map (fun f => (f.type, f.offset, decide (f.name = "_"))) = [(24, 0, false), (24, 4, false)] := by kernel_rfl
theorem run_equalS (x y x' y' : Nat) (w : World) : (Op.equalIn 10000 35 (.agg (wcells2 x y)) (.agg (wcells2 x' y'))).run Tryd.prog w = .ok (decide (x % M256 = x' % M256 ∧ y % M256 = y' % M256)) w := by
  rw [show 10000 = 9999 + 1 from rfl, run_equalIn_struct w 9999 _ _ _ fields_Sig stood_Sig]
  have hL := listed_Sig
  generalize (Tryd.prog.fieldsOf 35).toList = fs at hL
  rcases fs with _ | ⟨f0, _ | ⟨f1, _ | ⟨f2, fs⟩⟩⟩
  · simp at hL
  · simp at hL
  · have hL := hL
    simp only [List.map_cons, List.map_nil, List.cons.injEq, Prod.mk.injEq, decide_eq_false_iff_not, and_true] at hL
    obtain ⟨⟨t0, o0, n0⟩, ⟨t1, o1, n1⟩⟩ := hL
    have e0 : (Op.equalIn 9999 24 (.agg (wcells x)) (.agg (wcells x'))).run Tryd.prog w = _ := run_equalW 9997 x x' w
    have e1 : (Op.equalIn 9999 24 (.agg (wcells y)) (.agg (wcells y'))).run Tryd.prog w = _ := run_equalW 9997 y y' w
    have p0 := partW (wcells2 x y) 0 x (wcells2_at0 x y) w
    have p1 := partW (wcells2 x y) 4 y (wcells2_at4 x y) w
    have q0 := partW (wcells2 x' y') 0 x' (wcells2_at0 x' y') w
    have q1 := partW (wcells2 x' y') 4 y' (wcells2_at4 x' y') w
    simp only [Op.eqFields, n0, n1, t0, t1, o0, o1, ne_eq, not_false_eq_true, if_true, Sem.run_bind, p0, q0, e0, Result.andThen_ok]
    by_cases h0 : x % M256 = x' % M256 <;> by_cases h1 : y % M256 = y' % M256 <;> simp [h0, h1, e1, p1, q1]
  · simp at hL
theorem kEqlS (T2 : TypeId) (u v : Operand) (x y x' y' : Nat) (b : Bool) (ho : o.op = .binOp .eql 35 u v T2) (hg : Region.wanted o (yielded ops a.tmps) = true) (hx : a.eval u = .agg (wcells2 x y)) (hy : a.eval v = .agg (wcells2 x' y')) (hb : decide (x % M256 = x' % M256 ∧ y % M256 = y' % M256) = b)
    (h : wpList Tryd.prog ops Q rest (a.put o.dst (.bool b)) w) : wpList Tryd.prog ops Q (o :: rest) a w := by
  refine kPure _ hg ?_ h
  unfold execOp
  have hr : ∀ w, (do eqGuard .eql 35 u v (.agg (wcells2 x y)) (.agg (wcells2 x' y')); binOp .eql 35 (.agg (wcells2 x y)) (.agg (wcells2 x' y')) : Sem Value).run Tryd.prog w = .ok (.bool b) w := fun w => by
    simp only [Sem.run_bind, run_eqGuard_agg w _ _ _ _ _ _ eqGuard_Sig, Result.andThen_ok, run_eql_struct, run_equalS, hb]
  simp only [ho, hx, hy]
  rw [Sem.run_bind, hr]
  rfl
theorem kNeqS (T2 : TypeId) (u v : Operand) (x y x' y' : Nat) (b : Bool) (ho : o.op = .binOp .neq 35 u v T2) (hg : Region.wanted o (yielded ops a.tmps) = true) (hx : a.eval u = .agg (wcells2 x y)) (hy : a.eval v = .agg (wcells2 x' y')) (hb : (!decide (x % M256 = x' % M256 ∧ y % M256 = y' % M256)) = b)
    (h : wpList Tryd.prog ops Q rest (a.put o.dst (.bool b)) w) : wpList Tryd.prog ops Q (o :: rest) a w := by
  refine kPure _ hg ?_ h
  unfold execOp
  have hr : ∀ w, (do eqGuard .neq 35 u v (.agg (wcells2 x y)) (.agg (wcells2 x' y')); binOp .neq 35 (.agg (wcells2 x y)) (.agg (wcells2 x' y')) : Sem Value).run Tryd.prog w = .ok (.bool b) w := fun w => by
    simp only [Sem.run_bind, run_eqGuard_agg w _ _ _ _ _ _ eqGuard_Sig, Result.andThen_ok, run_neq_struct, run_equalS, hb]
  simp only [ho, hx, hy]
  rw [Sem.run_bind, hr]
  rfl
end
theorem eqS_yes {x y x' y' : Nat} (h : x = x' ∧ y = y') : decide (x % M256 = x' % M256 ∧ y % M256 = y' % M256) = true := by rw [h.1, h.2]; simp
theorem neS_no {x y x' y' : Nat} (h : x = x' ∧ y = y') : (!decide (x % M256 = x' % M256 ∧ y % M256 = y' % M256)) = false := by rw [eqS_yes h]; rfl
/-- the hashes of the example -/
def hash1 : Nat → Nat := fun i => [1, 2, 3].getD i 0
def hash2 : Nat → Nat := fun i => [1, 2, 4].getD i 0
theorem hash1_lt : ∀ i, hash1 i < 256 := fun i => by unfold hash1; rcases i with _ | _ | _ | i <;> simp
theorem hash2_lt : ∀ i, hash2 i < 256 := fun i => by unfold hash2; rcases i with _ | _ | _ | i <;> simp
theorem zOf_1 : zOf hash1 = z1 := by decide +kernel
theorem zOf_2 : zOf hash2 = z2 := by decide +kernel
theorem built_hash1 : Tryd.prog.built 40 [(0, .int .u8 1), (1, .int .u8 2), (2, .int .u8 3)] = some (bcells hash1) := by kernel_rfl
theorem built_hash2 : Tryd.prog.built 40 [(0, .int .u8 1), (1, .int .u8 2), (2, .int .u8 4)] = some (bcells hash2) := by kernel_rfl
def hash0 : Nat → Nat := fun _ => 0
theorem hash0_lt : ∀ i, hash0 i < 256 := fun _ => (show 0 < 256 by decide)
theorem built_hash0 : Tryd.prog.built 40 [] = some (bcells hash0) := by kernel_rfl
/-- a hash as a number, by a name -/
theorem wFrom_z {f : Nat → Nat} {z : Nat} (hf : ∀ i, f i < 256) (h : zOf f = z) (w : World) : Calls Tryd.prog 33 #[.agg (bcells f)] w fun e w' => e = .returned (WV z) ∧ Below w.heap.size w w' := by
  subst h; exact wFrom_any f hf w
theorem zOf_lt {f : Nat → Nat} (hf : ∀ i, f i < 256) : zOf f < M256 := bnum_M256 _ fun _ => hf _
end Go.Proofs.YtfgffjmpjoipeaaDoor
