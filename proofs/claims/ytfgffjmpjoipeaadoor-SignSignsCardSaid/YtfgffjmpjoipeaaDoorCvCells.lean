/-
  Layer 4: points, points by three numbers, and spots as rows of cells; single operations on them.
-/
import Derived.Test.YtfgffjmpjoipeaaDoorKit12
import Derived.Test.YtfgffjmpjoipeaaDoorFRef4
import Derived.Laws.StructEq
namespace Go.Proofs.YtfgffjmpjoipeaaDoor
open Go Go.RowKit

def pcells (x y : Nat) (b : Bool) : Array Value := wcells x ++ wcells y ++ #[.bool b]
theorem pcells_lit (x y : Nat) (b : Bool) : pcells x y b = #[.int .u64 (limb x 0 : Int), .int .u64 (limb x 1 : Int), .int .u64 (limb x 2 : Int), .int .u64 (limb x 3 : Int), .int .u64 (limb y 0 : Int), .int .u64 (limb y 1 : Int), .int .u64 (limb y 2 : Int), .int .u64 (limb y 3 : Int), .bool b] := rfl
theorem pcells_size (x y : Nat) (b : Bool) : (pcells x y b).size = 9 := rfl
theorem pcells_at0 (x y : Nat) (b : Bool) : (pcells x y b).extract 0 (0 + 4) = wcells x := rfl
theorem pcells_at4 (x y : Nat) (b : Bool) : (pcells x y b).extract 4 (4 + 4) = wcells y := rfl
theorem pcells_at8 (x y : Nat) (b : Bool) : (pcells x y b)[8]? = some (.bool b) := rfl
theorem pcells_one (x y : Nat) (b : Bool) : ∀ v ∈ pcells x y b, v.oneCell' = true := by rw [pcells_lit]; simp [Value.oneCell']
theorem pcells_put (x y z : Nat) (b : Bool) : splice (pcells x y b) 4 (wcells z).toList = pcells x z b := rfl
theorem info_Point : (Tryd.prog.info? 30).map (·.size) = some 9 := by kernel_rfl
theorem info_PointC (x y : Nat) (b : Bool) : (Tryd.prog.info? 30).map (·.size) = some (pcells x y b).size := info_Point
theorem zero_Point0 : ((Tryd.prog.info? 30).bind (·.zero)).map Value.cells = some #[.int .u64 0, .int .u64 0, .int .u64 0, .int .u64 0, .int .u64 0, .int .u64 0, .int .u64 0, .int .u64 0, .bool false] := by kernel_rfl
theorem zero_Point : ((Tryd.prog.info? 30).bind (·.zero)).map Value.cells = some (pcells 0 0 false) := zero_Point0
/-- three numbers -/
def scells (x y z : Nat) : Array Value := wcells x ++ wcells y ++ wcells z
theorem scells_lit (x y z : Nat) : scells x y z = #[.int .u64 (limb x 0 : Int), .int .u64 (limb x 1 : Int), .int .u64 (limb x 2 : Int), .int .u64 (limb x 3 : Int), .int .u64 (limb y 0 : Int), .int .u64 (limb y 1 : Int), .int .u64 (limb y 2 : Int), .int .u64 (limb y 3 : Int), .int .u64 (limb z 0 : Int), .int .u64 (limb z 1 : Int), .int .u64 (limb z 2 : Int), .int .u64 (limb z 3 : Int)] := rfl
theorem scells_size (x y z : Nat) : (scells x y z).size = 12 := rfl
theorem scells_at0 (x y z : Nat) : (scells x y z).extract 0 (0 + 4) = wcells x := rfl
theorem scells_at4 (x y z : Nat) : (scells x y z).extract 4 (4 + 4) = wcells y := rfl
theorem scells_at8 (x y z : Nat) : (scells x y z).extract 8 (8 + 4) = wcells z := rfl
theorem scells_one (x y z : Nat) : ∀ v ∈ scells x y z, v.oneCell' = true := by rw [scells_lit]; simp [Value.oneCell']
theorem info_scaled : (Tryd.prog.info? 100).map (·.size) = some 12 := by kernel_rfl
theorem info_scaledC (x y z : Nat) : (Tryd.prog.info? 100).map (·.size) = some (scells x y z).size := info_scaled
theorem zero_scaled0 : ((Tryd.prog.info? 100).bind (·.zero)).map Value.cells = some #[.int .u64 0, .int .u64 0, .int .u64 0, .int .u64 0, .int .u64 0, .int .u64 0, .int .u64 0, .int .u64 0, .int .u64 0, .int .u64 0, .int .u64 0, .int .u64 0] := by kernel_rfl
theorem zero_scaled : ((Tryd.prog.info? 100).bind (·.zero)).map Value.cells = some (scells 0 0 0) := zero_scaled0
theorem info_Spot : (Tryd.prog.info? 78).map (·.size) = some 3 := by kernel_rfl
theorem info_SpotC (u v x : Value) : (Tryd.prog.info? 78).map (·.size) = some (#[u, v, x] : Array Value).size := info_Spot
theorem zero_Spot : ((Tryd.prog.info? 78).bind (·.zero)).map Value.cells = some #[.slice none 0 0, .slice none 0 0, .slice none 0 0] := by kernel_rfl
section
variable {ops : Array Oper} {Q : Exit → Act → World → Prop} {rest : List Oper} {o : Oper} {a : Act} {w : World}
theorem pointField0 : ∃ f fs, Tryd.prog.underlying 30 = some (.struct fs) ∧ fs[0]? = some f ∧ f.offset = 0 ∧ (Tryd.prog.info? f.type).map (·.size) = some (3 + 1) := ⟨_, _, Tryd.underlying30, rfl, rfl, by kernel_rfl⟩
theorem pointField1 : ∃ f fs, Tryd.prog.underlying 30 = some (.struct fs) ∧ fs[1]? = some f ∧ f.offset = 4 ∧ (Tryd.prog.info? f.type).map (·.size) = some (3 + 1) := ⟨_, _, Tryd.underlying30, rfl, rfl, by kernel_rfl⟩
theorem pointField2 : ∃ f fs, Tryd.prog.underlying 30 = some (.struct fs) ∧ fs[2]? = some f ∧ f.offset = 8 ∧ (Tryd.prog.info? f.type).map (·.size) = some (0 + 1) := ⟨_, _, Tryd.underlying30, rfl, rfl, by kernel_rfl⟩
theorem kFieldPoint0 (x : Operand) (b : Nat) (ho : o.op = .fieldAddr 30 x 0) (hg : Region.wanted o (yielded ops a.tmps) = true) (hx : a.eval x = .pointer (some ⟨b, 0, none⟩)) (h : wpList Tryd.prog ops Q rest (a.put o.dst (.pointer (some ⟨b, 0, none⟩))) w) : wpList Tryd.prog ops Q (o :: rest) a w := by
  obtain ⟨f, fs, h1, h2, h3, h4⟩ := pointField0
  exact kFieldAt _ x 0 3 0 fs f b 0 ho hg hx h1 h2 h3 h4 h
theorem kFieldPoint1 (x : Operand) (b : Nat) (ho : o.op = .fieldAddr 30 x 1) (hg : Region.wanted o (yielded ops a.tmps) = true) (hx : a.eval x = .pointer (some ⟨b, 0, none⟩)) (h : wpList Tryd.prog ops Q rest (a.put o.dst (.pointer (some ⟨b, 4, none⟩))) w) : wpList Tryd.prog ops Q (o :: rest) a w := by
  obtain ⟨f, fs, h1, h2, h3, h4⟩ := pointField1
  exact kFieldAt _ x 1 3 4 fs f b 0 ho hg hx h1 h2 h3 h4 h
theorem kFieldPoint2 (x : Operand) (b : Nat) (ho : o.op = .fieldAddr 30 x 2) (hg : Region.wanted o (yielded ops a.tmps) = true) (hx : a.eval x = .pointer (some ⟨b, 0, none⟩)) (h : wpList Tryd.prog ops Q rest (a.put o.dst (.pointer (some ⟨b, 8, none⟩))) w) : wpList Tryd.prog ops Q (o :: rest) a w := by
  obtain ⟨f, fs, h1, h2, h3, h4⟩ := pointField2
  exact kFieldAt _ x 2 0 8 fs f b 0 ho hg hx h1 h2 h3 h4 h
theorem scaledField0 : ∃ f fs, Tryd.prog.underlying 100 = some (.struct fs) ∧ fs[0]? = some f ∧ f.offset = 0 ∧ (Tryd.prog.info? f.type).map (·.size) = some (3 + 1) := ⟨_, _, Tryd.underlying100, rfl, rfl, by kernel_rfl⟩
theorem scaledField1 : ∃ f fs, Tryd.prog.underlying 100 = some (.struct fs) ∧ fs[1]? = some f ∧ f.offset = 4 ∧ (Tryd.prog.info? f.type).map (·.size) = some (3 + 1) := ⟨_, _, Tryd.underlying100, rfl, rfl, by kernel_rfl⟩
theorem scaledField2 : ∃ f fs, Tryd.prog.underlying 100 = some (.struct fs) ∧ fs[2]? = some f ∧ f.offset = 8 ∧ (Tryd.prog.info? f.type).map (·.size) = some (3 + 1) := ⟨_, _, Tryd.underlying100, rfl, rfl, by kernel_rfl⟩
theorem kFieldScaled0 (x : Operand) (b : Nat) (ho : o.op = .fieldAddr 100 x 0) (hg : Region.wanted o (yielded ops a.tmps) = true) (hx : a.eval x = .pointer (some ⟨b, 0, none⟩)) (h : wpList Tryd.prog ops Q rest (a.put o.dst (.pointer (some ⟨b, 0, none⟩))) w) : wpList Tryd.prog ops Q (o :: rest) a w := by
  obtain ⟨f, fs, h1, h2, h3, h4⟩ := scaledField0
  exact kFieldAt _ x 0 3 0 fs f b 0 ho hg hx h1 h2 h3 h4 h
theorem kFieldScaled1 (x : Operand) (b : Nat) (ho : o.op = .fieldAddr 100 x 1) (hg : Region.wanted o (yielded ops a.tmps) = true) (hx : a.eval x = .pointer (some ⟨b, 0, none⟩)) (h : wpList Tryd.prog ops Q rest (a.put o.dst (.pointer (some ⟨b, 4, none⟩))) w) : wpList Tryd.prog ops Q (o :: rest) a w := by
  obtain ⟨f, fs, h1, h2, h3, h4⟩ := scaledField1
  exact kFieldAt _ x 1 3 4 fs f b 0 ho hg hx h1 h2 h3 h4 h
theorem kFieldScaled2 (x : Operand) (b : Nat) (ho : o.op = .fieldAddr 100 x 2) (hg : Region.wanted o (yielded ops a.tmps) = true) (hx : a.eval x = .pointer (some ⟨b, 0, none⟩)) (h : wpList Tryd.prog ops Q rest (a.put o.dst (.pointer (some ⟨b, 8, none⟩))) w) : wpList Tryd.prog ops Q (o :: rest) a w := by
  obtain ⟨f, fs, h1, h2, h3, h4⟩ := scaledField2
  exact kFieldAt _ x 2 3 8 fs f b 0 ho hg hx h1 h2 h3 h4 h
theorem spotField0 : ∃ f fs, Tryd.prog.underlying 78 = some (.struct fs) ∧ fs[0]? = some f ∧ f.offset = 0 ∧ (Tryd.prog.info? f.type).map (·.size) = some (0 + 1) := ⟨_, _, Tryd.underlying78, rfl, rfl, by kernel_rfl⟩
theorem spotField1 : ∃ f fs, Tryd.prog.underlying 78 = some (.struct fs) ∧ fs[1]? = some f ∧ f.offset = 1 ∧ (Tryd.prog.info? f.type).map (·.size) = some (0 + 1) := ⟨_, _, Tryd.underlying78, rfl, rfl, by kernel_rfl⟩
theorem spotField2 : ∃ f fs, Tryd.prog.underlying 78 = some (.struct fs) ∧ fs[2]? = some f ∧ f.offset = 2 ∧ (Tryd.prog.info? f.type).map (·.size) = some (0 + 1) := ⟨_, _, Tryd.underlying78, rfl, rfl, by kernel_rfl⟩
theorem kFieldSpot0 (x : Operand) (b : Nat) (ho : o.op = .fieldAddr 78 x 0) (hg : Region.wanted o (yielded ops a.tmps) = true) (hx : a.eval x = .pointer (some ⟨b, 0, none⟩)) (h : wpList Tryd.prog ops Q rest (a.put o.dst (.pointer (some ⟨b, 0, none⟩))) w) : wpList Tryd.prog ops Q (o :: rest) a w := by
  obtain ⟨f, fs, h1, h2, h3, h4⟩ := spotField0
  exact kFieldAt _ x 0 0 0 fs f b 0 ho hg hx h1 h2 h3 h4 h
theorem kFieldSpot1 (x : Operand) (b : Nat) (ho : o.op = .fieldAddr 78 x 1) (hg : Region.wanted o (yielded ops a.tmps) = true) (hx : a.eval x = .pointer (some ⟨b, 0, none⟩)) (h : wpList Tryd.prog ops Q rest (a.put o.dst (.pointer (some ⟨b, 1, none⟩))) w) : wpList Tryd.prog ops Q (o :: rest) a w := by
  obtain ⟨f, fs, h1, h2, h3, h4⟩ := spotField1
  exact kFieldAt _ x 1 0 1 fs f b 0 ho hg hx h1 h2 h3 h4 h
theorem kFieldSpot2 (x : Operand) (b : Nat) (ho : o.op = .fieldAddr 78 x 2) (hg : Region.wanted o (yielded ops a.tmps) = true) (hx : a.eval x = .pointer (some ⟨b, 0, none⟩)) (h : wpList Tryd.prog ops Q rest (a.put o.dst (.pointer (some ⟨b, 2, none⟩))) w) : wpList Tryd.prog ops Q (o :: rest) a w := by
  obtain ⟨f, fs, h1, h2, h3, h4⟩ := spotField2
  exact kFieldAt _ x 2 0 2 fs f b 0 ho hg hx h1 h2 h3 h4 h
/-- composite values -/
theorem kBuildAny (T : TypeId) (parts : Array (Nat × Operand)) (vs : Array (Nat × Value)) (cs : Array Value) (ho : o.op = .build T parts) (hg : Region.wanted o (yielded ops a.tmps) = true) (hp : (parts.map fun (i, x) => (i, a.eval x)) = vs) (hb : Tryd.prog.built T vs.toList = some cs)
    (h : wpList Tryd.prog ops Q rest (a.put o.dst (.agg cs)) w) : wpList Tryd.prog ops Q (o :: rest) a w := by
  refine kPure _ hg ?_ h
  unfold execOp
  simp only [ho, Sem.run_bind, hp]
  have := run_build w T vs cs hb
  simp [this]
theorem built_point0L : Tryd.prog.built 30 [] = some #[.int .u64 0, .int .u64 0, .int .u64 0, .int .u64 0, .int .u64 0, .int .u64 0, .int .u64 0, .int .u64 0, .bool false] := by kernel_rfl
theorem built_point0 : Tryd.prog.built 30 [] = some (pcells 0 0 false) := built_point0L
theorem built_pointNL : Tryd.prog.built 30 [(2, .bool true)] = some #[.int .u64 0, .int .u64 0, .int .u64 0, .int .u64 0, .int .u64 0, .int .u64 0, .int .u64 0, .int .u64 0, .bool true] := by kernel_rfl
theorem built_pointN : Tryd.prog.built 30 [(2, .bool true)] = some (pcells 0 0 true) := built_pointNL
theorem built_point2 (a0 a1 a2 a3 b0 b1 b2 b3 : Value) : Tryd.prog.built 30 [(0, .agg #[a0, a1, a2, a3]), (1, .agg #[b0, b1, b2, b3])] = some #[a0, a1, a2, a3, b0, b1, b2, b3, .bool false] := by kernel_rfl
theorem built_scaled3 (a0 a1 a2 a3 b0 b1 b2 b3 c0 c1 c2 c3 : Value) : Tryd.prog.built 100 [(0, .agg #[a0, a1, a2, a3]), (1, .agg #[b0, b1, b2, b3]), (2, .agg #[c0, c1, c2, c3])] = some #[a0, a1, a2, a3, b0, b1, b2, b3, c0, c1, c2, c3] := by kernel_rfl
theorem kBuildPoint0 (ho : o.op = .build 30 #[]) (hg : Region.wanted o (yielded ops a.tmps) = true) (h : wpList Tryd.prog ops Q rest (a.put o.dst (.agg (pcells 0 0 false))) w) : wpList Tryd.prog ops Q (o :: rest) a w :=
  kBuildAny _ _ #[] _ ho hg (by simp) built_point0 h
theorem kBuildPointN (ho : o.op = .build 30 #[(2, .const (.bool true))]) (hg : Region.wanted o (yielded ops a.tmps) = true) (h : wpList Tryd.prog ops Q rest (a.put o.dst (.agg (pcells 0 0 true))) w) : wpList Tryd.prog ops Q (o :: rest) a w :=
  kBuildAny _ _ #[(2, .bool true)] _ ho hg (by simp [Act.eval]) built_pointN h
theorem kBuildPoint2 (x y : Operand) (m n : Nat) (ho : o.op = .build 30 #[(0, x), (1, y)]) (hg : Region.wanted o (yielded ops a.tmps) = true) (hx : a.eval x = .agg (wcells m)) (hy : a.eval y = .agg (wcells n)) (h : wpList Tryd.prog ops Q rest (a.put o.dst (.agg (pcells m n false))) w) : wpList Tryd.prog ops Q (o :: rest) a w :=
  kBuildAny _ _ #[(0, .agg (wcells m)), (1, .agg (wcells n))] _ ho hg (by simp [hx, hy]) (by rw [wcells_lit, wcells_lit]; exact built_point2 _ _ _ _ _ _ _ _) h
theorem kBuildScaled3 (x y z : Operand) (m n k : Nat) (ho : o.op = .build 100 #[(0, x), (1, y), (2, z)]) (hg : Region.wanted o (yielded ops a.tmps) = true) (hx : a.eval x = .agg (wcells m)) (hy : a.eval y = .agg (wcells n)) (hz : a.eval z = .agg (wcells k)) (h : wpList Tryd.prog ops Q rest (a.put o.dst (.agg (scells m n k))) w) : wpList Tryd.prog ops Q (o :: rest) a w :=
  kBuildAny _ _ #[(0, .agg (wcells m)), (1, .agg (wcells n)), (2, .agg (wcells k))] _ ho hg (by simp [hx, hy, hz]) (by rw [wcells_lit, wcells_lit, wcells_lit]; exact built_scaled3 _ _ _ _ _ _ _ _ _ _ _ _) h

/-- '==' of points -/
theorem eqGuard_Point : Tryd.prog.eqGuardType Tryd.prog.depth 30 = false := by kernel_rfl
theorem stood_Point : Tryd.prog.stoodInHeld 30 = false := by kernel_rfl
theorem fields_Point : Tryd.prog.underlying 30 = some (.struct (Tryd.prog.fieldsOf 30)) := by kernel_rfl
theorem listed_Point : (Tryd.prog.fieldsOf 30).toList.map (fun f => (f.type, f.offset, decide (f.name = "_"))) = [(24, 0, false), (24, 4, false), (4, 8, false)] := by kernel_rfl
theorem run_equalW (d : Nat) (m n : Nat) (w : World) : (Op.equalIn (d + 2) 24 (.agg (wcells m)) (.agg (wcells n))).run Tryd.prog w = .ok (decide (m % M256 = n % M256)) w := by
  rw [← limbs_eq]
  exact run_equalIn_arr (k := .u64) Tryd.underlying24 Tryd.underlying22 info_w64 _ _
theorem partW (cs : Array Value) (off n : Nat) (hc : cs.extract off (off + 4) = wcells n) (w : World) : (Go.part 24 cs off).run Tryd.prog w = .ok (.agg (wcells n)) w := by
  have hi := info_Wide
  cases hq : Tryd.prog.info? 24 with
  | none => rw [hq] at hi; cases hi
  | some i =>
    have hs' : i.size = 4 := by simpa [hq] using hi
    simp [Go.part, run_isAgg Tryd.underlying24, aggDesc, sizeOf, typeInfo, hq, hs', hc]
theorem partB (cs : Array Value) (off : Nat) (b : Bool) (hc : cs[off]? = some (.bool b)) (w : World) : (Go.part 4 cs off).run Tryd.prog w = .ok (.bool b) w := by
  simp [Go.part, run_isAgg Tryd.underlying4, aggDesc, hc]
theorem run_equalP (x y : Nat) (b : Bool) (x' y' : Nat) (b' : Bool) (w : World) : (Op.equalIn 10000 30 (.agg (pcells x y b)) (.agg (pcells x' y' b'))).run Tryd.prog w = .ok (decide (x % M256 = x' % M256 ∧ y % M256 = y' % M256 ∧ b = b')) w := by
  rw [show 10000 = 9999 + 1 from rfl, run_equalIn_struct w 9999 _ _ _ fields_Point stood_Point]
  have hL := listed_Point
  generalize (Tryd.prog.fieldsOf 30).toList = fs at hL
  rcases fs with _ | ⟨f0, _ | ⟨f1, _ | ⟨f2, _ | ⟨f3, fs⟩⟩⟩⟩
  · simp at hL
  · simp at hL
  · simp at hL
  · have hL := hL
    simp only [List.map_cons, List.map_nil, List.cons.injEq, Prod.mk.injEq, decide_eq_false_iff_not, and_true] at hL
    obtain ⟨⟨t0, o0, n0⟩, ⟨t1, o1, n1⟩, ⟨t2, o2, n2⟩⟩ := hL
    have e0 : (Op.equalIn 9999 24 (.agg (wcells x)) (.agg (wcells x'))).run Tryd.prog w = _ := run_equalW 9997 x x' w
    have e1 : (Op.equalIn 9999 24 (.agg (wcells y)) (.agg (wcells y'))).run Tryd.prog w = _ := run_equalW 9997 y y' w
    have e2 : (Op.equalIn 9999 4 (.bool b) (.bool b')).run Tryd.prog w = _ := run_equalIn_bool w 9998 4 b b' Tryd.underlying4
    have p0 := partW (pcells x y b) 0 x (pcells_at0 x y b) w
    have p1 := partW (pcells x y b) 4 y (pcells_at4 x y b) w
    have p2 := partB (pcells x y b) 8 b (pcells_at8 x y b) w
    have q0 := partW (pcells x' y' b') 0 x' (pcells_at0 x' y' b') w
    have q1 := partW (pcells x' y' b') 4 y' (pcells_at4 x' y' b') w
    have q2 := partB (pcells x' y' b') 8 b' (pcells_at8 x' y' b') w
    simp only [Op.eqFields, n0, n1, n2, t0, t1, t2, o0, o1, o2, ne_eq, not_false_eq_true, if_true, Sem.run_bind, p0, q0, e0, Result.andThen_ok]
    by_cases h0 : x % M256 = x' % M256 <;> by_cases h1 : y % M256 = y' % M256 <;> cases b <;> cases b' <;> simp [h0, h1, e1, e2, p1, q1, p2, q2]
  · simp at hL
theorem kEqlP (T2 : TypeId) (u v : Operand) (x y : Nat) (p : Bool) (x' y' : Nat) (p' : Bool) (b : Bool) (ho : o.op = .binOp .eql 30 u v T2) (hg : Region.wanted o (yielded ops a.tmps) = true) (hx : a.eval u = .agg (pcells x y p)) (hy : a.eval v = .agg (pcells x' y' p')) (hb : decide (x % M256 = x' % M256 ∧ y % M256 = y' % M256 ∧ p = p') = b)
    (h : wpList Tryd.prog ops Q rest (a.put o.dst (.bool b)) w) : wpList Tryd.prog ops Q (o :: rest) a w := by
  refine kPure _ hg ?_ h
  unfold execOp
  have hr : ∀ w, (do eqGuard .eql 30 u v (.agg (pcells x y p)) (.agg (pcells x' y' p')); binOp .eql 30 (.agg (pcells x y p)) (.agg (pcells x' y' p')) : Sem Value).run Tryd.prog w = .ok (.bool b) w := fun w => by
    simp only [Sem.run_bind, run_eqGuard_agg w _ _ _ _ _ _ eqGuard_Point, Result.andThen_ok, run_eql_struct, run_equalP, hb]
  simp only [ho, hx, hy]
  rw [Sem.run_bind, hr]
  rfl
/-- the program's variable k holds the point -/
def GlobP (k x y : Nat) (p : Bool) (w : World) : Prop := ∀ j, j < 9 → w.cell? ⟨k, j, none⟩ = (pcells x y p)[j]?
theorem GlobP.below {k x y : Nat} {p : Bool} {w w' : World} (h : GlobP k x y p w) (hb : Below w.heap.size w w') : GlobP k x y p w' := fun j hj => by
  have := h j hj
  have hlt : j < (pcells x y p).size := hj
  rw [Array.getElem?_eq_getElem hlt] at this ⊢
  rw [hb.cell (block_lt_of_cell this)]; exact this
theorem run_loadGP {k x y : Nat} {p : Bool} (hG : GlobP k x y p w) : (loadVar 30 ⟨k, 0, none⟩).run Tryd.prog w = .ok (.agg (pcells x y p)) w := by
  have hl : (loadCells ⟨k, 0, none⟩ (pcells x y p).toList.length).run Tryd.prog w = .ok (pcells x y p).toList.toArray w :=
    run_loadCells_list (P := Tryd.prog) w ⟨k, 0, none⟩ (pcells x y p).toList (fun j v hv => by
      rw [add_none, Nat.zero_add]
      have hv' : (pcells x y p)[j]? = some v := by rw [← Array.getElem?_toList]; exact hv
      have hj : j < 9 := by
        rcases Nat.lt_or_ge j 9 with h | h
        · exact h
        · rw [Array.getElem?_eq_none (by rw [pcells_size]; exact h)] at hv'; cases hv'
      rw [hG j hj]; exact hv')
  have hi := info_Point
  cases hq : Tryd.prog.info? 30 with
  | none => rw [hq] at hi; cases hi
  | some i =>
    have hs : i.size = 9 := by simpa [hq] using hi
    rw [Array.length_toList, pcells_size, Array.toArray_toList] at hl
    simp [loadVar, Sem.run_bind, run_isAgg Tryd.underlying30, aggDesc, sizeOf, typeInfo, hq, hs, hl]
theorem kLoadGP (x : Operand) (k u v : Nat) (p : Bool) (ho : o.op = .load 30 x) (hg : Region.wanted o (yielded ops a.tmps) = true) (hx : a.eval x = .pointer (some ⟨k, 0, none⟩)) (hG : GlobP k u v p w)
    (h : wpList Tryd.prog ops Q rest (a.put o.dst (.agg (pcells u v p))) w) : wpList Tryd.prog ops Q (o :: rest) a w :=
  kPure _ hg (by unfold execOp; simp only [ho, hx, Instr.loadAt, Instr.sureAddr, Sem.run_bind, Sem.run_pure, Result.andThen_ok, run_loadGP hG]) h
/-- a number is written into a point -/
theorem mmPutY {w0 : World} {l : List (Nat × TypeId × Array Value)} (hM : Mm w0 w l) (i : Nat) (T U : TypeId) (g : Nat) (x y : Operand) (u v z : Nat) (p : Bool) (hi : l[i]? = some (g, U, pcells u v p)) (ho : o.op = .store T x y) (hg : Region.wanted o (yielded ops a.tmps) = true) (hx : a.eval x = .pointer (some ⟨g, 4, none⟩)) (hy : a.eval y = .agg (wcells z)) (hs : (Tryd.prog.info? T).map (·.size) = some (wcells z).size)
    (h : ∀ w1, Mm w0 w1 (l.set i (g, U, pcells u z p)) → wpList Tryd.prog ops Q rest (a.put o.dst undef) w1) : wpList Tryd.prog ops Q (o :: rest) a w :=
  kStorePart _ _ x y g 4 _ _ ho hg hx hy (hM.get i hi) hs (by rw [pcells_size, wcells_size]; decide) (wcells_one _) fun w1 hr hw => h w1 (by
    rw [pcells_put] at hr; exact hM.putAt i hi hw hr)
end
end Go.Proofs.YtfgffjmpjoipeaaDoor
