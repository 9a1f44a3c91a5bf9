/-
  What the rows' list of variables gives the walks of layer 4 (the prime, the point that is nowhere, the base), a world for the witness, and points, picks and pairs of numbers that came in.
-/
import Derived.Test.YtfgffjmpjoipeaaDoorLawFrameF
import Derived.Test.YtfgffjmpjoipeaaDoorCvLaw1
namespace Go.Proofs.YtfgffjmpjoipeaaDoor
open Go.ChangeShapes Go.WideShapes Go.ChangeAt Go.RowKit Go Cv

theorem gNone : Tryd.prog.globalNamed "byname/curve.none" = some 2 := by kernel_rfl
theorem gBase : Tryd.prog.globalNamed "byname/curve.base" = some 0 := by kernel_rfl
theorem gNoneType : (Tryd.prog.globals[2]?).map (·.type) = some 30 := by kernel_rfl
theorem gBaseType : (Tryd.prog.globals[0]?).map (·.type) = some 30 := by kernel_rfl
theorem cellsPoint : Tryd.prog.cellsOf 30 = 9 := by kernel_rfl
theorem cellsBool : Tryd.prog.cellsOf 4 = 1 := by kernel_rfl
theorem bounds_u16 {z : Int} (h : (Lit.int .u16 z).wf = true) : 0 ≤ z ∧ z < 65536 := by
  simp [Lit.wf, IntKind.min, IntKind.max, IntKind.bits, IntKind.signed] at h
  omega
set_option maxRecDepth 100000 in
/-- four cells as they are read -/
theorem wide_datum {H : Type} {enc : TypeId × Value → H} {W : World} {base : Nat} {sp : Nat → Bool} {held : Bool} {fuel : Nat} {cs : List Value} {x : DataW H × List MemPlace}
    (hf : DataW.trod enc Tryd.prog W base sp held fuel 24 cs = some x) : ∃ z0 z1 z2 z3 : Int, cs = [.int .u64 z0, .int .u64 z1, .int .u64 z2, .int .u64 z3] ∧ x.1 = .agg [.lit (.int .u64 z0), .lit (.int .u64 z1), .lit (.int .u64 z2), .lit (.int .u64 z3)] := by
  have hu : Tryd.prog.underlying 24 = some (.array 4 22) := Tryd.underlying24
  have he : Tryd.prog.underlying 22 = some (.int .u64) := Tryd.underlying22
  cases fuel with
  | zero => simp [DataW.trod] at hf
  | succ m =>
    rw [DataW.trod_step] at hf
    unfold DataW.trodStep at hf
    simp only [hu] at hf
    split at hf
    · rename_i hlen
      rw [cellsWide] at hlen
      simp only [Option.map_eq_some_iff] at hf
      obtain ⟨ys, hy, e⟩ := hf
      obtain ⟨y0, a0, f0⟩ := Lib.mapM_at hy 0 0 rfl
      obtain ⟨y1, a1, f1⟩ := Lib.mapM_at hy 1 1 rfl
      obtain ⟨y2, a2, f2⟩ := Lib.mapM_at hy 2 2 rfl
      obtain ⟨y3, a3, f3⟩ := Lib.mapM_at hy 3 3 rfl
      have hl := Lib.mapM_length hy
      obtain ⟨z0, c0, d0, -⟩ := DataW.trod_int he f0
      obtain ⟨z1, c1, d1, -⟩ := DataW.trod_int he f1
      obtain ⟨z2, c2, d2, -⟩ := DataW.trod_int he f2
      obtain ⟨z3, c3, d3, -⟩ := DataW.trod_int he f3
      rw [cellsU64] at c0 c1 c2 c3
      refine ⟨z0, z1, z2, z3, ?_, ?_⟩
      · rcases cs with _ | ⟨v0, _ | ⟨v1, _ | ⟨v2, _ | ⟨v3, _ | ⟨v4, cs⟩⟩⟩⟩⟩ <;> simp at hlen
        simp at c0 c1 c2 c3
        rw [c0, c1, c2, c3]
      · rcases ys with _ | ⟨v0, _ | ⟨v1, _ | ⟨v2, _ | ⟨v3, _ | ⟨v4, ys⟩⟩⟩⟩⟩ <;> simp at hl
        simp at a0 a1 a2 a3
        rw [← e, a0, a1, a2, a3, d0, d1, d2, d3]; rfl
    · cases hf
set_option maxRecDepth 100000 in
/-- nine cells as they are read -/
theorem point_datum {H : Type} {enc : TypeId × Value → H} {W : World} {base : Nat} {sp : Nat → Bool} {held : Bool} {fuel : Nat} {cs : List Value} {x : DataW H × List MemPlace}
    (hf : DataW.trod enc Tryd.prog W base sp held fuel 30 cs = some x) : ∃ (k : Nat) (y0 y1 : DataW H × List MemPlace) (b : Bool), DataW.trod enc Tryd.prog W base sp held k 24 (cs.take 4) = some y0 ∧ DataW.trod enc Tryd.prog W base sp held k 24 ((cs.drop 4).take 4) = some y1 ∧ cs.drop 8 = [.bool b] ∧ cs.length = 9 ∧ x.1 = .agg [y0.1, y1.1, .lit (.bool b)] := by
  have hu := fields_Point
  cases fuel with
  | zero => simp [DataW.trod] at hf
  | succ m =>
    rw [DataW.trod_step] at hf
    unfold DataW.trodStep at hf
    simp only [hu] at hf
    split at hf
    · rename_i hlen
      rw [cellsPoint] at hlen
      simp only [Option.map_eq_some_iff] at hf
      obtain ⟨ys, hy, e⟩ := hf
      have hL := listed_Point
      generalize (Tryd.prog.fieldsOf 30).toList = fs at hL hy
      rcases fs with _ | ⟨f0, _ | ⟨f1, _ | ⟨f2, _ | ⟨f3, fs⟩⟩⟩⟩
      · simp at hL
      · simp at hL
      · simp at hL
      · simp only [List.map_cons, List.map_nil, List.cons.injEq, Prod.mk.injEq, and_true] at hL
        obtain ⟨⟨t0, o0, -⟩, ⟨t1, o1, -⟩, ⟨t2, o2, -⟩⟩ := hL
        obtain ⟨y0, a0, f0'⟩ := Lib.mapM_at hy 0 f0 rfl
        obtain ⟨y1, a1, f1'⟩ := Lib.mapM_at hy 1 f1 rfl
        obtain ⟨y2, a2, f2'⟩ := Lib.mapM_at hy 2 f2 rfl
        have hl := Lib.mapM_length hy
        rw [t0, o0, cellsWide, List.drop_zero] at f0'
        rw [t1, o1, cellsWide] at f1'
        rw [t2, o2, cellsBool] at f2'
        obtain ⟨b, c2, d2⟩ := DataW.trod_bool Tryd.underlying4 f2'
        refine ⟨m, y0, y1, b, f0', f1', ?_, hlen, ?_⟩
        · rw [List.take_of_length_le (by simp; omega)] at c2; exact c2
        · rcases ys with _ | ⟨v0, _ | ⟨v1, _ | ⟨v2, _ | ⟨v3, ys⟩⟩⟩⟩ <;> simp at hl
          simp at a0 a1 a2
          rw [← e, a0, a1, a2, d2]; rfl
      · simp at hL
    · cases hf
theorem nine {cs : List Value} (_h : cs.length = 9) : cs = cs.take 4 ++ (cs.drop 4).take 4 ++ cs.drop 8 := by
  have e : cs.drop 8 = (cs.drop 4).drop 4 := by rw [List.drop_drop]
  rw [e, List.append_assoc, List.take_append_drop, List.take_append_drop]
set_option maxRecDepth 100000 in
/-- a variable that holds a point -/
theorem globPoint {W : World} {nm : String} {g : Nat} {rest : List (String × DataW Unit)} {a0 a1 a2 a3 b0 b1 b2 b3 : Int} {p : Bool} {x y : Nat} (hg : Tryd.prog.globalNamed nm = some g) (hty : (Tryd.prog.globals[g]?).map (·.type) = some 30)
    (hx : (limb x 0 : Int) = a0 ∧ (limb x 1 : Int) = a1 ∧ (limb x 2 : Int) = a2 ∧ (limb x 3 : Int) = a3) (hy : (limb y 0 : Int) = b0 ∧ (limb y 1 : Int) = b1 ∧ (limb y 2 : Int) = b2 ∧ (limb y 3 : Int) = b3)
    (h : laidMet Tryd.prog ((nm, .agg [.agg [.lit (.int .u64 a0), .lit (.int .u64 a1), .lit (.int .u64 a2), .lit (.int .u64 a3)], .agg [.lit (.int .u64 b0), .lit (.int .u64 b1), .lit (.int .u64 b2), .lit (.int .u64 b3)], .lit (.bool p)]) :: rest) W) : GlobP g x y p W := by
  obtain ⟨ps, ⟨g', t', cs, fuel, q, q', hg', ht', hvar, hd, _, _⟩, _⟩ := h
  obtain rfl := Option.some.inj (hg.symm.trans hg')
  obtain rfl := Option.some.inj (hty.symm.trans ht')
  obtain ⟨k, y0, y1, b, f0, f1, f2, hlen, e⟩ := point_datum hd
  obtain ⟨u0, u1, u2, u3, c0, d0⟩ := wide_datum f0
  obtain ⟨v0, v1, v2, v3, c1, d1⟩ := wide_datum f1
  rw [d0, d1] at e
  simp only [DataW.agg.injEq, List.cons.injEq, DataW.lit.injEq, Lit.int.injEq, Lit.bool.injEq, true_and, and_true] at e
  obtain ⟨⟨e0, e1, e2, e3⟩, ⟨g0, g1, g2, g3⟩, eb⟩ := e
  have ecs := nine hlen
  rw [c0, c1, f2, ← e0, ← e1, ← e2, ← e3, ← g0, ← g1, ← g2, ← g3, ← eb] at ecs
  intro j hj
  rw [World.var?_cell hg hvar j, pcells_lit, hx.1, hx.2.1, hx.2.2.1, hx.2.2.2, hy.1, hy.2.1, hy.2.2.1, hy.2.2.2]
  rw [← Array.getElem?_toList, ecs, ← Array.getElem?_toList]
  simp only [List.cons_append, List.nil_append]
theorem limbs_0 : (limb 0 0 : Int) = 0 ∧ (limb 0 1 : Int) = 0 ∧ (limb 0 2 : Int) = 0 ∧ (limb 0 3 : Int) = 0 := by decide +kernel
/-- the variables' cells for a witness -/
def oneCells (l : List Int) : List Value := l.map fun z => Value.int .u64 z
def noneCells : Array Value := (oneCells [0, 0, 0, 0, 0, 0, 0, 0] ++ [Value.bool true]).toArray
def baseCells : Array Value := (oneCells [6481385041966929816, 188021827762530521, 6170039885052185351, 8772561819708210092, 11261198710074299576, 18237243440184513561, 6747795201694173352, 5204712524664259685] ++ [Value.bool false]).toArray
end Go.Proofs.YtfgffjmpjoipeaaDoor
