/-
  Layer 11: for BlockPairs: two hashes, an odd list.
-/
import Derived.Test.YtmfjgehlkbndjaaDoorBkC
namespace Go.Proofs.YtmfjgehlkbndjaaDoor
open Go Go.RowKit Go.Shelf

theorem rootL_two (x y : List UInt8) : rootL [x, y] = (pairL x y, decide (x = y)) := by
  rw [rootL_step (by simp)]
  show ((rootL [pairL x y]).1, (decide (x = y) || false) || (rootL [pairL x y]).2) = _
  rw [rootL_one]; simp
theorem joinL_odd : ∀ (l : List (List UInt8)) (z : List UInt8), l.length % 2 = 1 → l[l.length - 1]? = some z → joinL (l ++ [z]) = ((joinL l).1, true)
  | [], _, h, _ => by simp at h
  | [a], z, _, hz => by
    simp at hz
    subst hz
    show ([pairL a a], decide (a = a) || false) = ([pairL a a], true)
    simp
  | a :: b :: r, z, h, hz => by
    have hr : r.length % 2 = 1 := by simp only [List.length_cons] at h; omega
    have hz' : r[r.length - 1]? = some z := by
      have e : (a :: b :: r).length - 1 = (r.length - 1) + 2 := by simp only [List.length_cons]; omega
      rw [e] at hz
      simpa using hz
    have ih := joinL_odd r z hr hz'
    show (pairL a b :: (joinL (r ++ [z])).1, decide (a = b) || (joinL (r ++ [z])).2) = (pairL a b :: (joinL r).1, true)
    rw [ih]; simp
theorem rootL_odd {l : List (List UInt8)} {z : List UInt8} (h2 : 2 ≤ l.length) (h : l.length % 2 = 1) (hz : l[l.length - 1]? = some z) : rootL (l ++ [z]) = ((rootL l).1, true) := by
  rw [rootL_step (l := l ++ [z]) (by simp; omega), joinL_odd l z h hz, rootL_step h2]
  simp
theorem blRoot_two {a b : List UInt8} (W : World) {u : Value} (ha : a.length = 32) (hb : b.length = 32) (h : HashesOf W u [a, b]) (hK : Keys W) : Calls Tryd.prog 5 #[u] W fun e w' => e = .returned (.tuple #[HV (pairL a b), .bool (decide (a = b))]) ∧ Below W.heap.size W w' := by
  have h1 := blRoot_any (l := [a, b]) W h (fun x hx => (List.mem_cons.1 hx).elim (fun e => e ▸ ha) (fun hx => (List.mem_singleton.1 hx) ▸ hb)) (by show (2 : Nat) ≤ 1000; decide) hK
  rw [rootL_two] at h1
  exact h1
theorem blRoot_odd {l : List (List UInt8)} {z : List UInt8} (W : World) {u : Value} (h32 : ∀ x ∈ l, x.length = 32) (h2 : 2 ≤ l.length) (hle : l.length ≤ 60) (ho : l.length % 2 = 1) (hz : l[l.length - 1]? = some z) (h : HashesOf W u (l ++ [z])) (hK : Keys W) : Calls Tryd.prog 5 #[u] W fun e w' => e = .returned (.tuple #[HV (rootL l).1, .bool true]) ∧ Below W.heap.size W w' := by
  have h1 := blRoot_any (l := l ++ [z]) W h (fun x hx => (List.mem_append.1 hx).elim (h32 x) (fun hx => (List.mem_singleton.1 hx) ▸ h32 z (List.mem_of_getElem? hz))) (by rw [List.length_append]; simp; omega) hK
  rw [rootL_odd h2 ho hz] at h1
  exact h1
theorem row_neS {w : World} {g g' : Nat} {T : TypeId} {cs cs' : Array Value} (h : Row w g T cs) (h' : Row w g' T cs') (hs : cs.size ≠ cs'.size) : g ≠ g' := by
  intro e
  subst e
  have h1 : some (Obj.cells cs T (0, 0)) = some (.cells cs' T (0, 0)) := h.symm.trans h'
  injection h1 with h1
  injection h1 with h1
  exact hs (by rw [h1])
theorem row_appZ {W W' : World} {g gA : Nat} {T : TypeId} {cs : Array Value} (h : Row W g T cs) (hA : Row W gA T #[]) (hs : cs.size = 32) (hg : W.grownBy W' (Value.ownBlock (.slice (some ⟨gA, 0, none⟩) 0 0))) : Row W' g T cs := row_appJ h hg fun r e => by
  have e' : some gA = some r := e
  cases e'
  exact row_neS hA h (by rw [hs]; decide)
/-- a list of two or more does not lie where a hash lies -/
theorem own_ne {w : World} {b g : Nat} {v : Value} {L : List (List UInt8)} {cs : Array Value} (hO : OwnHs w b v L) (h2 : 2 ≤ L.length) (hR : Row w g 25 cs) (hc : cs.size = 32) : ∀ r, v.ownBlock = some r → r ≠ g := by
  obtain ⟨g', cap, cur, rfl, hb, hr, hcs, hle, hm, ht⟩ := OwnR.row hO (by intro e; rw [List.map_eq_nil_iff] at e; rw [e] at h2; cases h2)
  intro r e
  cases e
  refine row_neS hr hR ?_
  rw [List.length_map] at hle
  omega
theorem built_hash2s (f g : Nat → UInt8) : ∀ w, (Instr.buildSlice 22 2 #[(0, .agg ((List.range 32).map fun p => VB (f p)).toArray), (1, .agg ((List.range 32).map fun p => VB (g p)).toArray)]).run Tryd.prog w = .ok (.slice (some ⟨w.heap.size, 0, none⟩) 2 2) (w.alloc (.cells (((List.range 32).map fun p => VB (f p)) ++ ((List.range 32).map fun p => VB (g p))).toArray 25)) := fun _ => by kernel_rfl
theorem ownHs_two {w : World} {g b : Nat} {x y : List UInt8} (hb : b ≤ g) (h : Row w g 25 (hashR x ++ hashR y).toArray) : OwnHs w b (.slice (some ⟨g, 0, none⟩) 2 2) [x, y] :=
  ⟨⟨by simp [hashR_len], .inr ⟨g, 2, _, rfl, hb, h, Nat.le_refl _, by simp [maxLen], by simp [hashR_len], by simp; exact List.take_of_length_le (by simp [hashR_len])⟩⟩, fun r hr => by simp at hr; rcases hr with rfl | rfl <;> exact hashR_len _⟩
theorem yRemI2 {P : Program} {ops : Array Oper} {o : Oper} {a : Act} {S : World → Prop} (T T2 : TypeId) (x y : Operand) (n : Nat) (z : Int) (hz : ((n % 2 : Nat) : Int) = z) (ho : o.op = .binOp .rem T x y T2) (hg : Region.wanted o (yielded ops a.tmps) = true) (hx : a.eval x = .int .i64 (n : Int)) (hy : a.eval y = .int .i64 2) : YieldsIf P ops S o (.int .i64 z) a :=
  yOf hg fun w _ => by
    subst hz
    have e : (n : Int).tmod 2 = ((n % 2 : Nat) : Int) := by rw [Int.tmod_eq_emod_of_nonneg (Int.natCast_nonneg _)]; omega
    unfold execOp; simp only [ho, hx, hy]; simp [eqGuard, binOp, Op.intDiv, e]
section
variable {ops : Array Oper} {Q : Exit → Act → World → Prop} {rest : List Oper} {o : Oper} {a : Act} {w : World}
theorem kBuildHs2 (x0 x1 : Operand) (l m : List UInt8) (ho : o.op = .buildSlice 22 2 #[(0, x0), (1, x1)]) (hg : Region.wanted o (yielded ops a.tmps) = true) (hx0 : a.eval x0 = HV l) (hx1 : a.eval x1 = HV m)
    (h : ∀ w1, OwnHs w1 w.heap.size (.slice (some ⟨w.heap.size, 0, none⟩) 2 2) [l, m] → w.heap.size < w1.heap.size → Below w.heap.size w w1 → wpList Tryd.prog ops Q rest (a.put o.dst (.slice (some ⟨w.heap.size, 0, none⟩) 2 2)) w1) : wpList Tryd.prog ops Q (o :: rest) a w := by
  refine BigFrame.wpList_want hg fun K hK => ?_
  have hb := built_hash2s (at8 l) (at8 m) w
  have e0 : a.eval x0 = .agg ((List.range 32).map fun p => VB (at8 l p)).toArray := hx0
  have e1 : a.eval x1 = .agg ((List.range 32).map fun p => VB (at8 m p)).toArray := hx1
  unfold Oper.wp execOp
  simp only [ho, List.map_toArray, List.map_cons, List.map_nil, e0, e1, Sem.run_bind, hb, Result.andThen_ok, Sem.run_pure]
  exact hK _ _ (h _ (ownHs_two (Nat.le_refl _) (heap_alloc_new w _)) (by simp) ((Below.refl _ _).alloc (Nat.le_refl _) _))
end
end Go.Proofs.YtmfjgehlkbndjaaDoor
