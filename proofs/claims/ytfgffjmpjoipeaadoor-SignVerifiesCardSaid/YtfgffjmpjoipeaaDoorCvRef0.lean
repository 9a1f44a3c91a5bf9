/-
  The reference of layer 4: digits in spots, laws of single operations.
-/
import Derived.Test.YtfgffjmpjoipeaaDoorCvFuncs2
namespace Go.Proofs.YtfgffjmpjoipeaaDoor
open Go Go.RowKit
open Cv

def isSl : Value → Bool
  | .slice _ _ _ => true
  | _ => false
theorem NumT.sl {w : World} {v : Value} {n : Nat} (h : NumT w v n) : isSl v = true := by
  obtain ⟨l, _, ⟨ao, c, rfl, _⟩, _⟩ := h; rfl
theorem isSl.one {v : Value} (h : isSl v = true) : v.oneCell' = true := by cases v <;> first | rfl | cases h
theorem NumT.one {w : World} {v : Value} {n : Nat} (h : NumT w v n) : v.oneCell' = true := isSl.one h.sl
theorem spot_one {a b c : Value} (ha : a.oneCell' = true) (hb : b.oneCell' = true) (hc : c.oneCell' = true) : ∀ v ∈ (#[a, b, c] : Array Value), v.oneCell' = true := by
  intro v hv; simp at hv; rcases hv with rfl | rfl | rfl <;> assumption
theorem spot_sl {a b c : Value} (ha : isSl a = true) (hb : isSl b = true) (hc : isSl c = true) : ∀ v ∈ (#[a, b, c] : Array Value), isSl v = true := by
  intro v hv; simp at hv; rcases hv with rfl | rfl | rfl <;> assumption
/-- a row of slices is written: digits stay -/
theorem NumT.wrote {w w' : World} {v : Value} {n g : Nat} {U : TypeId} {cs : Array Value} (h : NumT w v n) (hr : Row w g U cs) (hs : ∀ u ∈ cs, isSl u = true) (hw : Wrote g w w') : NumT w' v n := by
  obtain ⟨l, hd, hv, e, ht⟩ := h
  refine ⟨l, hd, ?_, e, ht⟩
  refine IsVals.wrote hv hw ?_
  intro j u hu a ha hag
  subst hag
  obtain ⟨ao, c, rfl, _, _, hj⟩ := hv
  obtain ⟨x, rfl, hcell⟩ := hj j u hu
  have hb : x.block = a := by simpa [Value.ownBlock] using ha
  have hblk : (x.add j).block = a := by rw [← hb]; unfold Addr.add; split <;> rfl
  unfold World.cell? at hcell
  rw [hblk, show w.heap[a]? = _ from hr] at hcell
  simp only at hcell
  split at hcell
  · cases hcell
  · have hm := hs u (Array.mem_of_getElem? hcell)
    have hui : ∃ d, u = VU d := by
      rw [List.getElem?_map] at hu
      cases hq : l[j]? with
      | none => rw [hq] at hu; simp at hu
      | some d => rw [hq] at hu; exact ⟨d, by simpa using hu.symm⟩
    obtain ⟨d, rfl⟩ := hui
    cases hm
/-- a spot, by its digits -/
def SpotIs (w : World) (v : Value) (x y z : Nat) : Prop := ∃ a b c, v = .agg #[a, b, c] ∧ NumT w a x ∧ NumT w b y ∧ NumT w c z
theorem SpotIs.below {w w' : World} {v : Value} {x y z : Nat} (h : SpotIs w v x y z) (hb : Below w.heap.size w w') : SpotIs w' v x y z := by
  obtain ⟨a, b, c, e, h1, h2, h3⟩ := h
  exact ⟨a, b, c, e, h1.below hb, h2.below hb, h3.below hb⟩
def SpotPost (w : World) (x y z : Nat) (e : Ending) (w' : World) : Prop := ∃ a b c, e = .returned (.agg #[a, b, c]) ∧ NumT w' a x ∧ NumT w' b y ∧ NumT w' c z ∧ Below w.heap.size w w'
theorem Mm.join {w0 w1 w2 : World} {l l' : List (Nat × TypeId × Array Value)} (h : Mm w0 w1 l) (h' : Mm w1 w2 l') : Mm w0 w2 (l' ++ l) := by
  have h2 := h.on h'.below
  refine ⟨fun i g T cs hi => ?_, ?_, fun i g T cs hi => ?_, h2.below⟩
  · rw [List.getElem?_append] at hi
    split at hi
    · exact h'.rows i g T cs hi
    · exact h2.rows _ g T cs hi
  · rw [List.pairwise_append]
    refine ⟨h'.apart, h.apart, fun a ha b hb => ?_⟩
    obtain ⟨i, hi⟩ := List.getElem?_of_mem ha
    have h1 := h'.ge i a.1 a.2.1 a.2.2 hi
    have h3 := h.lt hb
    omega
  · rw [List.getElem?_append] at hi
    split at hi
    · exact Nat.le_trans h.size (h'.ge i g T cs hi)
    · exact h2.ge _ g T cs hi
section
variable {ops : Array Oper} {Q : Exit → Act → World → Prop} {rest : List Oper} {o : Oper} {a : Act} {w : World}
theorem mmStoreSp {w0 : World} {l : List (Nat × TypeId × Array Value)} (hM : Mm w0 w l) (i : Nat) (T U : TypeId) (g : Nat) (x y : Operand) (cs ds : Array Value) (hi : l[i]? = some (g, U, cs)) (ho : o.op = .store T x y) (hg : Region.wanted o (yielded ops a.tmps) = true) (hx : a.eval x = .pointer (some ⟨g, 0, none⟩)) (hy : a.eval y = .agg ds) (hs : (Tryd.prog.info? T).map (·.size) = some ds.size) (hn : ds.size = cs.size) (h1 : ∀ v ∈ ds, v.oneCell' = true)
    (h : ∀ w1, Mm w0 w1 (l.set i (g, U, ds)) → Wrote g w w1 → wpList Tryd.prog ops Q rest (a.put o.dst undef) w1) : wpList Tryd.prog ops Q (o :: rest) a w :=
  kStoreRow _ _ x y g _ _ ho hg hx hy (hM.get i hi) hs hn h1 fun w1 hr hw => h w1 (hM.putAt i hi hw hr) hw
theorem kDig0 (ho : o.op = .buildSlice 27 0 #[]) (hg : Region.wanted o (yielded ops a.tmps) = true) (h : ∀ w1 v, NumT w1 v 0 → Below w.heap.size w w1 → wpList Tryd.prog ops Q rest (a.put o.dst v) w1) : wpList Tryd.prog ops Q (o :: rest) a w := by
  obtain ⟨ix, hix, _⟩ := w64Info
  refine kBuildSlice0 _ _ ho hg Tryd.underlying27 ix hix ?_
  intro w1 hR _ hB
  exact h w1 _ ⟨[], fun _ h => by simp at h, isVals_lit (l := []) hR, rfl, .inl rfl⟩ hB
theorem kDig1 (n : Nat) (c : Int) (hc : c = (n : Int)) (h0 : 0 < n ∧ n < 65536) (ho : o.op = .buildSlice 27 1 #[(0, .const (.int .u64 c))]) (hg : Region.wanted o (yielded ops a.tmps) = true) (h : ∀ w1 v, NumT w1 v n → Below w.heap.size w w1 → wpList Tryd.prog ops Q rest (a.put o.dst v) w1) : wpList Tryd.prog ops Q (o :: rest) a w := by
  obtain ⟨ix, hix, hzx, hsx, _⟩ := w64Info
  subst hc
  refine kBuildSlice1 _ _ _ (VU n) ho hg Tryd.underlying27 ix _ hix hzx hsx rfl rfl ?_
  intro w1 hR _ hB
  refine h w1 _ ⟨[n], digs_one h0.2, isVals_lit (l := [VU n]) hR, by simp [dval], .inr ?_⟩ hB
  show dat [n] 0 ≠ 0
  have : dat [n] 0 = n := rfl
  omega
theorem built_spot (u v x : Value) (hu : isSl u = true) (hv : isSl v = true) (hx : isSl x = true) : Tryd.prog.built 78 [(0, u), (1, v), (2, x)] = some #[u, v, x] := by
  cases u <;> first | cases hu | skip
  cases v <;> first | cases hv | skip
  cases x <;> first | cases hx | skip
  kernel_rfl
theorem kBuildSpot3 (x y z : Operand) (u v t : Value) (ho : o.op = .build 78 #[(0, x), (1, y), (2, z)]) (hg : Region.wanted o (yielded ops a.tmps) = true) (hx : a.eval x = u) (hy : a.eval y = v) (hz : a.eval z = t) (hu : isSl u = true) (hv : isSl v = true) (ht : isSl t = true) (h : wpList Tryd.prog ops Q rest (a.put o.dst (.agg #[u, v, t])) w) : wpList Tryd.prog ops Q (o :: rest) a w :=
  kBuildAny _ _ #[(0, u), (1, v), (2, t)] _ ho hg (by simp [hx, hy, hz]) (built_spot u v t hu hv ht) h
end
theorem limbs_gX : (limb gX 0 : Int) = 6481385041966929816 ∧ (limb gX 1 : Int) = 188021827762530521 ∧ (limb gX 2 : Int) = 6170039885052185351 ∧ (limb gX 3 : Int) = 8772561819708210092 := by decide +kernel
theorem built_gXL : Tryd.prog.built 24 [(0, .int .u64 6481385041966929816), (1, .int .u64 188021827762530521), (2, .int .u64 6170039885052185351), (3, .int .u64 8772561819708210092)] = some #[.int .u64 6481385041966929816, .int .u64 188021827762530521, .int .u64 6170039885052185351, .int .u64 8772561819708210092] := by kernel_rfl
theorem built_gX : Tryd.prog.built 24 [(0, .int .u64 6481385041966929816), (1, .int .u64 188021827762530521), (2, .int .u64 6170039885052185351), (3, .int .u64 8772561819708210092)] = some (wcells gX) := by
  obtain ⟨h0, h1, h2, h3⟩ := limbs_gX
  rw [wcells_lit, h0, h1, h2, h3]; exact built_gXL
theorem limbs_gY : (limb gY 0 : Int) = 11261198710074299576 ∧ (limb gY 1 : Int) = 18237243440184513561 ∧ (limb gY 2 : Int) = 6747795201694173352 ∧ (limb gY 3 : Int) = 5204712524664259685 := by decide +kernel
theorem built_gYL : Tryd.prog.built 24 [(0, .int .u64 11261198710074299576), (1, .int .u64 18237243440184513561), (2, .int .u64 6747795201694173352), (3, .int .u64 5204712524664259685)] = some #[.int .u64 11261198710074299576, .int .u64 18237243440184513561, .int .u64 6747795201694173352, .int .u64 5204712524664259685] := by kernel_rfl
theorem built_gY : Tryd.prog.built 24 [(0, .int .u64 11261198710074299576), (1, .int .u64 18237243440184513561), (2, .int .u64 6747795201694173352), (3, .int .u64 5204712524664259685)] = some (wcells gY) := by
  obtain ⟨h0, h1, h2, h3⟩ := limbs_gY
  rw [wcells_lit, h0, h1, h2, h3]; exact built_gYL
end Go.Proofs.YtfgffjmpjoipeaaDoor
