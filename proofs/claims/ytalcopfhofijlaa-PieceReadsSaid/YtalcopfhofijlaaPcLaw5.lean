/-
  Layer 6: steps in memory, and the walk of PieceReads.
-/
import Derived.Test.YtalcopfhofijlaaPcLaw4
namespace Go.Proofs.Ytalcopfhofijlaa
open Go Go.RowKit

/-- a step's cells -/
def stepC (s : Int × Int × Nat) : List Value := [.int .i64 s.1, .int .i64 s.2.1, .int .u64 (s.2.2 : Int)]
/-- the value reads as a list of steps -/
def AreSteps (w : World) (v : Value) (Ss : List (Int × Int × Nat)) : Prop :=
  ∃ ao c, v = .slice ao Ss.length c ∧ ∀ (k : Nat) (s : Int × Int × Nat), Ss[k]? = some s → ∃ a : Addr, ao = some a ∧ ∀ (j : Nat) (u : Value), (stepC s)[j]? = some u → w.cell? ((a.add (k * 3)).add j) = some u
theorem AreSteps.below {w w' : World} {v : Value} {Ss : List (Int × Int × Nat)} (h : AreSteps w v Ss) (hb : Below w.heap.size w w') : AreSteps w' v Ss := by
  obtain ⟨ao, c, e, h1⟩ := h
  refine ⟨ao, c, e, fun k s hs => ?_⟩
  obtain ⟨a, ha, h2⟩ := h1 k s hs
  exact ⟨a, ha, fun j u hu => by rw [hb.cell (block_lt_of_cell (h2 j u hu))]; exact h2 j u hu⟩
theorem info_step : (Try.prog.info? 45).map (·.size) = some 3 := by kernel_rfl
theorem zero_step : ((Try.prog.info? 45).bind (·.zero)).map Value.cells = some #[.int .i64 0, .int .i64 0, .int .u64 0] := by kernel_rfl
theorem info_u64P : (Try.prog.info? 26).map (·.size) = some 1 := by kernel_rfl
theorem built_scan0 (ao : Option Addr) (n c : Nat) : Try.prog.built 43 [(0, .slice ao n c)] = some #[.slice ao n c, .int .i64 0] := by kernel_rfl
theorem built_scan {w : World} {v : Value} {l : List Value} (h : IsVals w v l) : Try.prog.built 43 [(0, v)] = some #[v, .int .i64 0] := by obtain ⟨ao, c, rfl, _⟩ := h; exact built_scan0 _ _ _
theorem stepF0 : ∃ f fs, Try.prog.underlying 45 = some (.struct fs) ∧ fs[0]? = some f ∧ f.offset = 0 ∧ (Try.prog.info? f.type).map (·.size) = some (0 + 1) := ⟨_, _, Try.underlying45, rfl, rfl, by kernel_rfl⟩
theorem stepF1 : ∃ f fs, Try.prog.underlying 45 = some (.struct fs) ∧ fs[1]? = some f ∧ f.offset = 1 ∧ (Try.prog.info? f.type).map (·.size) = some (0 + 1) := ⟨_, _, Try.underlying45, rfl, rfl, by kernel_rfl⟩
theorem stepF2 : ∃ f fs, Try.prog.underlying 45 = some (.struct fs) ∧ fs[2]? = some f ∧ f.offset = 2 ∧ (Try.prog.info? f.type).map (·.size) = some (0 + 1) := ⟨_, _, Try.underlying45, rfl, rfl, by kernel_rfl⟩
section
variable {ops : Array Oper} {Q : Exit → Act → World → Prop} {rest : List Oper} {o : Oper} {a : Act} {w : World} {S : World → Prop}
theorem kBuildScan (x : Operand) (v : Value) {l : List Value} (hv : IsVals w v l) (ho : o.op = .build 43 #[(0, x)]) (hg : Region.wanted o (yielded ops a.tmps) = true) (hx : a.eval x = v) (h : wpList Try.prog ops Q rest (a.put o.dst (.agg #[v, .int .i64 0])) w) : wpList Try.prog ops Q (o :: rest) a w :=
  kBuildAny _ _ #[(0, v)] _ ho hg (by simp [hx]) (built_scan hv) h
theorem kLenSteps (x : Operand) (v : Value) (Ss : List (Int × Int × Nat)) (n : Nat) (hv : AreSteps w v Ss) (hn : Ss.length = n) (ho : o.op = .call { callee := .builtin .len, args := #[x], argTypes := #[40] }) (hg : Region.wanted o (yielded ops a.tmps) = true) (hx : a.eval x = v) (h : wpList Try.prog ops Q rest (a.put o.dst (.int .i64 (n : Int))) w) : wpList Try.prog ops Q (o :: rest) a w := by
  obtain ⟨ao, c, rfl, _⟩ := hv
  subst hn
  refine kPure _ hg ?_ h
  simp [execOp, ho, resolve, invoke, builtin, hx, Builtin.len_, run_underlying Try.underlying40, goInt]
theorem kIndexStep (x y : Operand) (v : Value) (Ss : List (Int × Int × Nat)) (k : Nat) (s : Int × Int × Nat) (hv : AreSteps w v Ss) (hs : Ss[k]? = some s) (ho : o.op = .indexAddr 40 x y) (hg : Region.wanted o (yielded ops a.tmps) = true) (hx : a.eval x = v) (hy : a.eval y = .int .i64 (k : Int))
    (h : ∀ b : Addr, (∀ (j : Nat) (u : Value), (stepC s)[j]? = some u → w.cell? (b.add j) = some u) → wpList Try.prog ops Q rest (a.put o.dst (.pointer (some b))) w) : wpList Try.prog ops Q (o :: rest) a w := by
  obtain ⟨ao, c, rfl, h1⟩ := hv
  obtain ⟨ad, rfl, h2⟩ := h1 k s hs
  have hk : k < Ss.length := (List.getElem?_eq_some_iff.1 hs).1
  refine kPure _ hg ?_ (h _ h2)
  have hrun : (Instr.indexAt 40 (.slice (some ad) Ss.length c) (.int .i64 (k : Int))).run Try.prog w = .ok (.pointer (some (ad.add (k * 3)))) w := by
    have hs := info_step
    cases hq : Try.prog.info? 45 with
    | none => simp [hq] at hs
    | some t =>
      have hs' : t.size = 3 := by simpa [hq] using hs
      simp [Instr.indexAt, asIntOf, run_underlying Try.underlying40, sizeOf, typeInfo, hq, hs', hk]
  unfold execOp
  simp only [ho, hx, hy, Sem.run_bind, hrun, Result.andThen_ok, Sem.run_pure]
theorem kLoadStep (x : Operand) (b : Addr) (s : Int × Int × Nat) (hb : ∀ (j : Nat) (u : Value), (stepC s)[j]? = some u → w.cell? (b.add j) = some u) (ho : o.op = .load 45 x) (hg : Region.wanted o (yielded ops a.tmps) = true) (hx : a.eval x = .pointer (some b))
    (h : wpList Try.prog ops Q rest (a.put o.dst (.agg #[.int .i64 s.1, .int .i64 s.2.1, .int .u64 (s.2.2 : Int)])) w) : wpList Try.prog ops Q (o :: rest) a w := by
  refine kPure _ hg ?_ h
  have hl := run_loadCells_list (P := Try.prog) w b (stepC s) hb
  have hrun : (loadVar 45 b).run Try.prog w = .ok (.agg #[.int .i64 s.1, .int .i64 s.2.1, .int .u64 (s.2.2 : Int)]) w := by
    have hs := info_step
    cases hq : Try.prog.info? 45 with
    | none => simp [hq] at hs
    | some t =>
      have hs' : t.size = 3 := by simpa [hq] using hs
      simp only [stepC, List.length_cons, List.length_nil, Nat.reduceAdd] at hl
      simp [loadVar, Sem.run_bind, run_isAgg Try.underlying45, aggDesc, sizeOf, typeInfo, hq, hs', hl]
  unfold execOp
  simp only [ho, hx, Instr.loadAt, Instr.sureAddr, Sem.run_bind, Sem.run_pure, Result.andThen_ok, hrun]
theorem kStep0 (x : Operand) (b : Nat) (ho : o.op = .fieldAddr 45 x 0) (hg : Region.wanted o (yielded ops a.tmps) = true) (hx : a.eval x = .pointer (some ⟨b, 0, none⟩)) (h : wpList Try.prog ops Q rest (a.put o.dst (.pointer (some ⟨b, 0, none⟩))) w) : wpList Try.prog ops Q (o :: rest) a w := by
  obtain ⟨f, fs, h1, h2, h3, h4⟩ := stepF0
  exact kFieldAt _ x 0 0 0 fs f b 0 ho hg hx h1 h2 h3 h4 h
theorem yStep1 (x : Operand) (b : Nat) (ho : o.op = .fieldAddr 45 x 1) (hg : Region.wanted o (yielded ops a.tmps) = true) (hx : a.eval x = .pointer (some ⟨b, 0, none⟩)) : YieldsIf Try.prog ops S o (.pointer (some ⟨b, 1, none⟩)) a := by
  obtain ⟨f, fs, h1, h2, h3, h4⟩ := stepF1
  have h := yField (S := S) (P := Try.prog) (ops := ops) (o := o) (a := a) _ x 1 0 1 fs f b 0 ho hg hx h1 h2 h3 h4
  rwa [Nat.zero_add] at h
theorem yStep2 (x : Operand) (b : Nat) (ho : o.op = .fieldAddr 45 x 2) (hg : Region.wanted o (yielded ops a.tmps) = true) (hx : a.eval x = .pointer (some ⟨b, 0, none⟩)) : YieldsIf Try.prog ops S o (.pointer (some ⟨b, 2, none⟩)) a := by
  obtain ⟨f, fs, h1, h2, h3, h4⟩ := stepF2
  have h := yField (S := S) (P := Try.prog) (ops := ops) (o := o) (a := a) _ x 2 0 2 fs f b 0 ho hg hx h1 h2 h3 h4
  rwa [Nat.zero_add] at h
theorem yS0 (x : Operand) (b : Nat) (ho : o.op = .fieldAddr 43 x 0) (hg : Region.wanted o (yielded ops a.tmps) = true) (hx : a.eval x = .pointer (some ⟨b, 0, none⟩)) : YieldsIf Try.prog ops S o (.pointer (some ⟨b, 0, none⟩)) a := by
  obtain ⟨f, fs, h1, h2, h3, h4⟩ := scanF0
  have h := yField (S := S) (P := Try.prog) (ops := ops) (o := o) (a := a) _ x 0 0 0 fs f b 0 ho hg hx h1 h2 h3 h4
  rwa [Nat.zero_add] at h
theorem yS1 (x : Operand) (b : Nat) (ho : o.op = .fieldAddr 43 x 1) (hg : Region.wanted o (yielded ops a.tmps) = true) (hx : a.eval x = .pointer (some ⟨b, 0, none⟩)) : YieldsIf Try.prog ops S o (.pointer (some ⟨b, 1, none⟩)) a := by
  obtain ⟨f, fs, h1, h2, h3, h4⟩ := scanF1
  have h := yField (S := S) (P := Try.prog) (ops := ops) (o := o) (a := a) _ x 1 0 1 fs f b 0 ho hg hx h1 h2 h3 h4
  rwa [Nat.zero_add] at h
end
theorem raw_restLe (s : Scn) (z : Int) : (rawS s z).2.rest.length ≤ s.rest.length := by
  unfold rawS
  split
  · exact Nat.le_refl _
  · split
    · exact Nat.le_refl _
    · show (List.drop _ _).length ≤ _
      rw [List.length_drop]; omega
theorem fixed_restLe (s : Scn) (z : Int) : (fixedS s z).2.rest.length ≤ s.rest.length := raw_restLe s _
set_option maxRecDepth 100000 in
set_option maxHeartbeats 8000000 in
theorem PieceReads_out {l : List UInt8} {v t : Value} {Ss : List (Int × Int × Nat)} (w : World) (hv : IsVals w v (l.map VB)) (ht : AreSteps w t Ss) (h : 500 < l.length ∨ 50 < Ss.length) : Calls Try.prog 5 #[v, t] w (SizesPost w) := by
  obtain ⟨m, hm⟩ : ∃ m, l.length = m := ⟨_, rfl⟩
  obtain ⟨N, hN⟩ : ∃ N, Ss.length = N := ⟨_, rfl⟩
  by_cases h1 : 500 < m
  · have hm1 : decide ((m : Int) > 500) = true := by simp; omega
    clear h h1
    go_enter Try.func5, Try.ntmps5
    go_wp2_with (first
      | (go_at_call 9; refine (pieceAlive_any _).mono ?_; rintro e w1 ⟨rfl, hB1⟩; have hsz1 := hB1.size; have hv1 := hv.below hB1; have ht1 := ht.below hB1; go_frame)
      | ((with_reducible change wpList _ _ _ (Oper.mk (some 12) _ _ _ _ _ :: _) _ _); refine kLenN _ _ _ v _ m rfl rfl rfl hv1 (by rw [List.length_map, hm]) Try.underlying25 ?_; go_frame)
      | ((with_reducible change wpList _ _ _ (Oper.mk (some 13) _ _ _ _ _ :: _) _ _); refine kGtrI _ _ _ _ .i64 (m : Int) 500 true rfl rfl rfl rfl hm1 ?_; go_frame))
    go_ret
    exact ⟨rfl, hB1⟩
  · have hm1 : decide ((m : Int) > 500) = false := by simp; omega
    have hn1 : decide ((N : Int) > 50) = true := by simp; omega
    clear h h1
    go_enter Try.func5, Try.ntmps5
    go_wp2_with (first
      | (go_at_call 9; refine (pieceAlive_any _).mono ?_; rintro e w1 ⟨rfl, hB1⟩; have hsz1 := hB1.size; have hv1 := hv.below hB1; have ht1 := ht.below hB1; go_frame)
      | ((with_reducible change wpList _ _ _ (Oper.mk (some 12) _ _ _ _ _ :: _) _ _); refine kLenN _ _ _ v _ m rfl rfl rfl hv1 (by rw [List.length_map, hm]) Try.underlying25 ?_; go_frame)
      | ((with_reducible change wpList _ _ _ (Oper.mk (some 13) _ _ _ _ _ :: _) _ _); refine kGtrI _ _ _ _ .i64 (m : Int) 500 false rfl rfl rfl rfl hm1 ?_; go_frame)
      | ((with_reducible change wpList _ _ _ (Oper.mk (some 16) _ _ _ _ _ :: _) _ _); refine kLenSteps _ t Ss N ht1 hN rfl rfl rfl ?_; go_frame)
      | ((with_reducible change wpList _ _ _ (Oper.mk (some 17) _ _ _ _ _ :: _) _ _); refine kGtrI _ _ _ _ .i64 (N : Int) 50 true rfl rfl rfl rfl hn1 ?_; go_frame))
    go_ret
    exact ⟨rfl, hB1⟩
theorem step_noByte (a b d : Int) (j : Nat) (c : UInt8) : (#[Value.int .i64 a, .int .i64 b, .int .u64 d])[j]? ≠ some (VB c) := by rcases j with _ | _ | _ | j <;> simp
/-- a row beside it is written: a reader stays -/
theorem row_rd {T U : TypeId} {w w' : World} {g X : Nat} {cs : Array Value} {s : Scn} (h : Exc X w w') (hX : Row w X U cs) (hr : Rd T w g s) (hg : g ≠ X) (hU : ∀ (j : Nat) (c : UInt8), cs[j]? ≠ some (VB c)) : Rd T w' g s := by
  obtain ⟨v, h1, ao, cp, rfl, h2, h3, h4⟩ := hr
  refine ⟨_, h.row h1 hg, ao, cp, rfl, h2, h3, fun j u hu => ?_⟩
  obtain ⟨a, rfl, hc⟩ := h4 j u hu
  obtain ⟨x, -, rfl⟩ : ∃ x, x ∈ s.rest ∧ VB x = u := by simpa using List.mem_of_getElem? hu
  refine ⟨a, rfl, h.cell hc fun e => ?_⟩
  have hb : (a.add j).block = X := by cases e; rfl
  have hX' : w.heap[(a.add j).block]? = some (.cells cs U (0, 0)) := by rw [hb]; exact hX
  unfold World.cell? at hc
  rw [hX'] at hc
  simp only at hc
  split at hc
  · cases hc
  · exact hU _ _ hc
set_option maxRecDepth 100000 in
set_option maxHeartbeats 16000000 in
theorem PieceReads_in {l : List UInt8} {v t : Value} {Ss : List (Int × Int × Nat)} (w : World) (hv : IsVals w v (l.map VB)) (ht : AreSteps w t Ss) (h1 : l.length ≤ 500) (h2 : Ss.length ≤ 50) (hSs : ∀ s ∈ Ss, s.2.1 < 9223372036854775808) : Calls Try.prog 5 #[v, t] w (SizesPost w) := by
  obtain ⟨m, hm⟩ : ∃ m, l.length = m := ⟨_, rfl⟩
  obtain ⟨N, hN⟩ : ∃ N, Ss.length = N := ⟨_, rfl⟩
  have hm1 : decide ((m : Int) > 500) = false := by simp; omega
  have hn1 : decide ((N : Int) > 50) = false := by simp; omega
  go_enter Try.func5, Try.ntmps5
  go_wp2_with (first
    | (go_at_call 9; refine (pieceAlive_any _).mono ?_; rintro e w1 ⟨rfl, hB1⟩; have hsz1 := hB1.size; have hv1 := hv.below hB1; have ht1 := ht.below hB1; go_frame)
    | ((with_reducible change wpList _ _ _ (Oper.mk (some 12) _ _ _ _ _ :: _) _ _); refine kLenN _ _ _ v _ m rfl rfl rfl hv1 (by rw [List.length_map, hm]) Try.underlying25 ?_; go_frame)
    | ((with_reducible change wpList _ _ _ (Oper.mk (some 13) _ _ _ _ _ :: _) _ _); refine kGtrI _ _ _ _ .i64 (m : Int) 500 false rfl rfl rfl rfl hm1 ?_; go_frame)
    | ((with_reducible change wpList _ _ _ (Oper.mk (some 16) _ _ _ _ _ :: _) _ _); refine kLenSteps _ t Ss N ht1 hN rfl rfl rfl ?_; go_frame)
    | ((with_reducible change wpList _ _ _ (Oper.mk (some 17) _ _ _ _ _ :: _) _ _); refine kGtrI _ _ _ _ .i64 (N : Int) 50 false rfl rfl rfl rfl hn1 ?_; go_frame)
    | (go_at_call 10; refine (pcNew_any _ hv1 (by omega)).mono ?_; rintro e w2 ⟨g, rfl, hg, hR2, hB2⟩; have hge : w.heap.size ≤ g := Nat.le_trans hsz1 hg; have hv2 := hv1.below hB2; have hB3 := hB1.trans (hB2.mono hsz1); have hsz3 := hB3.size; clear hv1 ht1 hB1 hB2 hsz1; go_frame)
    | ((with_reducible change wpList _ _ _ (Oper.mk (some 22) _ _ _ _ _ :: _) _ _); refine kBuildScan _ v hv2 rfl rfl rfl ?_; go_frame)
    | ((with_reducible change wpList _ _ _ (Oper.mk (some 23) _ _ _ _ _ :: _) _ _); refine kBox _ _ _ rfl rfl rfl ?_; intro w4 hR4 hz4 hB4; clear hz4; have hgp0 : g ≠ w2.heap.size := (by have := hR2.lt; omega); obtain ⟨p, hp⟩ : ∃ p, w2.heap.size = p := ⟨_, rfl⟩; rw [hp] at hR4 hgp0 ⊢; have hgp := hgp0; have hpe : w.heap.size ≤ p := (by omega); have hr4 := hR2.below hB4; have hv4 := hv2.below hB4; have hs4 : Rd 43 w4 p ⟨l, 0⟩ := ⟨v, hR4, hv4⟩; have hB5 := hB3.trans (hB4.mono hsz3); have ht5 := ht.below hB5; clear hR2 hv2 hB3 hB4 hsz3 hR4 hv4 hgp0 hp; go_frame)
    | ((with_reducible change wpList _ _ _ (Oper.mk (some 25) _ _ _ _ _ :: _) _ _); refine kLenSteps _ t Ss N ht5 hN rfl rfl rfl ?_; clear ht5; go_frame))
  go_loopw [26] (fun i wr => ∃ (k : Nat) (st : Scn), k ≤ N ∧ i = .int .i64 k ∧ st.rest.length ≤ 500 ∧ Rd 55 wr g st ∧ Rd 43 wr p st ∧ Below w.heap.size w wr) (fun i _ => N - (intOf i).toNat)
  case atStart => exact ⟨0, ⟨l, 0⟩, by omega, rfl, h1, hr4, hs4, hB5⟩
  case round =>
    obtain ⟨k, st, hk, rfl, hlen, hr, hs, hB⟩ := hrel
    clear hr4 hs4 hB5
    have hsz := hB.size
    by_cases hlt : k < N
    · have hd : decide ((k : Int) < (N : Int)) = true := by simp; omega
      have hkl : k < Ss.length := by omega
      have hsk : Ss[k]? = some Ss[k] := List.getElem?_eq_getElem hkl
      have hz := hSs _ (List.getElem_mem hkl)
      generalize Ss[k] = s at hsk hz
      obtain ⟨ki, z, mo⟩ := s
      dsimp only at hz
      have htr := ht.below hB
      by_cases h0 : ki = 0
      · have hk0 : decide (ki = 0) = true := by simp; exact h0
        clear h0
        go_wp2_with (first
          | ((with_reducible change wpList _ _ _ (Oper.mk (some 27) _ _ _ _ _ :: _) _ _); refine kLssI _ _ _ _ .i64 (k : Int) (N : Int) true rfl rfl rfl rfl hd ?_; go_frame)
          | ((with_reducible change wpList _ _ _ (Oper.mk (some 28) _ _ _ _ _ :: _) _ _); refine kIndexStep _ _ t Ss k (ki, z, mo) htr hsk rfl rfl rfl rfl ?_; intro b hb; go_frame)
          | ((with_reducible change wpList _ _ _ (Oper.mk (some 29) _ _ _ _ _ :: _) _ _); refine kLoadStep _ b (ki, z, mo) hb rfl rfl rfl ?_; clear hb htr; go_frame)
          | ((with_reducible change wpList _ _ _ (Oper.mk (some 8) _ _ _ _ _ :: _) _ _); refine kAlloc _ _ rfl rfl zero_step ?_; intro w2 hR2 hz2 hB2; clear hz2; have hr2 := hr.below hB2; have hs2 := hs.below hB2; have hB3 := hB.trans (hB2.mono hsz); have hgX : g ≠ wr.heap.size := (by have := hr.lt; omega); have hpX : p ≠ wr.heap.size := (by have := hs.lt; omega); have hsz3 := hB3.size; clear hB hB2 hr hs; go_frame)
          | ((with_reducible change wpList _ _ _ (Oper.mk none _ _ _ _ _ :: _) _ _); refine kStoreRow _ _ _ _ _ _ _ rfl rfl rfl rfl hR2 info_step rfl (fun v hv => by simp at hv; rcases hv with rfl | rfl | rfl <;> rfl) ?_; intro w4 hR4 hW4; have hX4 := exc_wrote hW4; have hr4 := row_rd hX4 hR2 hr2 hgX (step_noByte _ _ _); have hs4 := row_rd hX4 hR2 hs2 hpX (step_noByte _ _ _); have hB5 := hB3.trans (hX4.below hsz hsz3); have hsz5 := hB5.size; clear hB3 hW4 hX4 hR2 hr2 hs2 hsz3; go_frame)
          | ((with_reducible change wpList _ _ _ (Oper.mk (some 30) _ _ _ _ _ :: _) _ _); refine kStep0 _ _ rfl rfl rfl ?_; go_frame)
          | ((with_reducible change wpList _ _ _ (Oper.mk (some 31) _ _ _ _ _ :: _) _ _); refine kLoad1 _ _ _ _ 0 _ (.int .i64 ki) _ rfl rfl rfl hR4 Try.underlying3 rfl rfl ?_; go_frame)
          | ((with_reducible change wpList _ _ _ (Oper.mk (some 44) _ _ _ _ _ :: _) _ _); refine kEqlI _ _ _ _ .i64 ki 0 true rfl rfl rfl rfl hk0 ?_; go_frame))
        refine region_mixD [(0, true), (1, true), (2, true), (4, true), (5, true), (6, true), (3, false), (7, false), (8, true)] (fun w => Row w wr.heap.size 45 #[.int .i64 ki, .int .i64 z, .int .u64 (mo : Int)]) (by kernel_rfl) (by kernel_rfl) rfl ?_
        intro w6 hBd hsd
        have hR6 := hR4.below hBd hR4.lt
        have hr6 := hr4.below hBd
        have hs6 := hs4.below hBd
        have hB6 := hB5.trans (hBd.mono hsz5)
        have hsz6 := hB6.size
        clear hBd hsd hR4 hr4 hs4 hB5 hsz5
        simp only [List.map_cons, List.map_nil]
        dsimp only [List.filterMap, List.getElem?_cons_zero, List.getElem?_cons_succ]
        have hS := hR6
        refine dY _ hS (yMove _ (.pointer (some ⟨g, 0, none⟩)) rfl rfl rfl) ?_; go_frame
        refine dY _ hS (yStep1 _ _ rfl rfl rfl) ?_; go_frame
        refine dY _ hS (yLoad1 _ _ _ _ 1 _ (.int .i64 z) _ rfl rfl rfl (fun _ h => h) Try.underlying3 rfl rfl) ?_; go_frame
        refine dY _ hS (yMove _ (.pointer (some ⟨p, 0, none⟩)) rfl rfl rfl) ?_; go_frame
        refine dY _ hS (yStep1 _ _ rfl rfl rfl) ?_; go_frame
        refine dY _ hS (yLoad1 _ _ _ _ 1 _ (.int .i64 z) _ rfl rfl rfl (fun _ h => h) Try.underlying3 rfl rfl) ?_; go_frame
        refine dLoud ?_
        refine kCall2 12 _ _ _ _ _ rfl rfl (by kernel_rfl) rfl rfl ?_
        refine (rdFixed_any (z := z) _ hr6).mono ?_
        rintro e w7 ⟨rfl, hr7, hX7⟩
        have hR7 := hX7.row hR6 (Ne.symm hgX)
        have hs7 := hX7.rd hr6 hs6 (Ne.symm hgp)
        have hB7 := hB6.trans (hX7.below hge hsz6)
        have hsz7 := hB7.size
        clear hR6 hr6 hs6 hB6 hsz6 hX7
        refine ⟨_, rfl, mixOn ⟨(fun w => Row w wr.heap.size 45 #[.int .i64 ki, .int .i64 z, .int .u64 (mo : Int)]), (fun _ h => h), hR7, ?_⟩⟩
        have hS2 := hR7; clear hS; have hS := hS2; clear hS2
        go_frame
        refine dLoud ?_
        refine kCall2 21 _ _ _ _ _ rfl rfl (by kernel_rfl) rfl rfl ?_
        refine (jFixedOf_any (z := z) _ hs7 (by omega)).mono ?_
        rintro e w8 ⟨rfl, hs8, hX8⟩
        have hR8 := hX8.row hR7 (Ne.symm hpX)
        have hr8 := hX8.rd hs7 hr7 hgp
        have hB8 := hB7.trans (hX8.below hpe hsz7)
        have hsz8 := hB8.size
        clear hR7 hr7 hs7 hB7 hsz7 hX8
        refine ⟨_, rfl, mixOn ⟨(fun w => Row w wr.heap.size 45 #[.int .i64 ki, .int .i64 z, .int .u64 (mo : Int)]), (fun _ h => h), hR8, ?_⟩⟩
        have hS2 := hR8; clear hS; have hS := hS2; clear hS2
        go_frame
        refine dY _ hS (yNeqI _ _ _ _ .u64 _ _ false rfl rfl rfl rfl (by simp)) ?_; go_frame
        refine dDone ?_
        have hlen2 := fixed_restLe st z
        clear hS hR8
        generalize (fixedS st z).2 = st2 at *
        obtain ⟨m2, hm2⟩ : ∃ m2, st2.rest.length = m2 := ⟨_, rfl⟩
        obtain ⟨E, hE⟩ : ∃ E, st2.err = E := ⟨_, rfl⟩
        go_wp2_with fail
        obtain ⟨v9, hR9, hV9⟩ := id hs8
        rw [hE] at hR9
        refine region_mixD [(0, true), (2, true), (3, true), (4, true), (5, true), (6, true), (1, false), (7, true), (8, true), (9, true), (11, true), (12, true), (13, true), (14, true), (10, false), (15, true), (16, true)] (fun w => Row w p 43 #[v9, .int .i64 (E : Int)] ∧ IsVals w v9 (st2.rest.map VB)) (by kernel_rfl) (by kernel_rfl) rfl ?_
        intro w10 hBd hsd
        have hR10 := hR9.below hBd hR9.lt
        have hV10 := hV9.below hBd
        have hr10 := hr8.below hBd
        have hs10 := hs8.below hBd
        have hB10 := hB8.trans (hBd.mono hsz8)
        clear hBd hsd hR9 hV9 hr8 hs8 hB8 hsz8
        simp only [List.map_cons, List.map_nil]
        dsimp only [List.filterMap, List.getElem?_cons_zero, List.getElem?_cons_succ]
        have hS := (⟨hR10, hV10⟩ : Row w10 p 43 #[v9, .int .i64 (E : Int)] ∧ IsVals w10 v9 (st2.rest.map VB))
        refine dY _ hS (yMove _ (.pointer (some ⟨g, 0, none⟩)) rfl rfl rfl) ?_; go_frame
        refine dY _ hS (yMove _ (.pointer (some ⟨p, 0, none⟩)) rfl rfl rfl) ?_; go_frame
        refine dY _ hS (yNil _ ⟨p, 0, none⟩ rfl rfl rfl) ?_; go_frame
        refine dY _ hS (yS0 _ p rfl rfl rfl) ?_; go_frame
        refine dY _ hS (yLoad1 _ _ _ p 0 _ v9 _ rfl rfl rfl (fun _ h => h.1) Try.underlying25 rfl rfl) ?_; go_frame
        refine dY _ hS (yLen _ _ _ v9 _ m2 rfl rfl rfl (fun _ h => h.2) (by rw [List.length_map, hm2]) Try.underlying25) ?_; go_frame
        refine dLoud ?_
        refine kCall1 14 _ _ _ rfl rfl (by kernel_rfl) rfl ?_
        refine (rdLeft_any (n := m2) _ hr10 hm2).mono ?_
        rintro e w11 ⟨rfl, rfl⟩
        refine ⟨_, rfl, mixOn ⟨(fun w => Row w p 43 #[v9, .int .i64 (E : Int)] ∧ IsVals w v9 (st2.rest.map VB)), (fun _ h => h), hS, ?_⟩⟩
        have hS2 := hS; clear hS; have hS := hS2; clear hS2
        go_frame
        refine dY _ hS (yNeqI _ _ _ _ .i64 (m2 : Int) (m2 : Int) false rfl rfl rfl rfl (by simp)) ?_; go_frame
        refine dY _ hS (yMove _ (.bool false) rfl rfl rfl) ?_; go_frame
        refine dY _ hS (yMove _ (.pointer (some ⟨g, 0, none⟩)) rfl rfl rfl) ?_; go_frame
        refine dY _ hS (yMove _ (.pointer (some ⟨p, 0, none⟩)) rfl rfl rfl) ?_; go_frame
        refine dY _ hS (yNil _ ⟨p, 0, none⟩ rfl rfl rfl) ?_; go_frame
        refine dY _ hS (yS1 _ p rfl rfl rfl) ?_; go_frame
        refine dY _ hS (yLoad1 _ _ _ p 1 _ (.int .i64 (E : Int)) _ rfl rfl rfl (fun _ h => h.1) Try.underlying3 rfl rfl) ?_; go_frame
        refine dLoud ?_
        refine kCall1 13 _ _ _ rfl rfl (by kernel_rfl) rfl ?_
        refine (rdErr_any (n := E) _ hr10 hE).mono ?_
        rintro e w12 ⟨rfl, rfl⟩
        refine ⟨_, rfl, mixOn ⟨(fun w => Row w p 43 #[v9, .int .i64 (E : Int)] ∧ IsVals w v9 (st2.rest.map VB)), (fun _ h => h), hS, ?_⟩⟩
        have hS2 := hS; clear hS; have hS := hS2; clear hS2
        go_frame
        refine dY _ hS (yNeqI _ _ _ _ .i64 (E : Int) (E : Int) false rfl rfl rfl rfl (by simp)) ?_; go_frame
        refine dY _ hS (yPick _ _ _ false (.bool false) rfl rfl rfl rfl) ?_; go_frame
        refine dDone ?_
        clear hS
        go_wp2_with (first
          | ((with_reducible change wpList _ _ _ (Oper.mk (some 95) _ _ _ _ _ :: _) _ _); refine kAddI _ _ _ _ (k : Int) 1 ((k + 1 : Nat) : Int) (by omega) rfl rfl rfl rfl ?_; go_frame))
        go_roundw
        case rel => exact ⟨k + 1, st2, by omega, rfl, by omega, hr10, hs10, hB10⟩
        case measure => simp [intOf]; omega
      have hk0 : decide (ki = 0) = false := by simp; exact h0
      by_cases h1' : ki = 1
      · have hk1 : decide (ki = 1) = true := by simp; exact h1'
        clear h1' h0
        go_wp2_with (first
          | ((with_reducible change wpList _ _ _ (Oper.mk (some 27) _ _ _ _ _ :: _) _ _); refine kLssI _ _ _ _ .i64 (k : Int) (N : Int) true rfl rfl rfl rfl hd ?_; go_frame)
          | ((with_reducible change wpList _ _ _ (Oper.mk (some 28) _ _ _ _ _ :: _) _ _); refine kIndexStep _ _ t Ss k (ki, z, mo) htr hsk rfl rfl rfl rfl ?_; intro b hb; go_frame)
          | ((with_reducible change wpList _ _ _ (Oper.mk (some 29) _ _ _ _ _ :: _) _ _); refine kLoadStep _ b (ki, z, mo) hb rfl rfl rfl ?_; clear hb htr; go_frame)
          | ((with_reducible change wpList _ _ _ (Oper.mk (some 8) _ _ _ _ _ :: _) _ _); refine kAlloc _ _ rfl rfl zero_step ?_; intro w2 hR2 hz2 hB2; clear hz2; have hr2 := hr.below hB2; have hs2 := hs.below hB2; have hB3 := hB.trans (hB2.mono hsz); have hgX : g ≠ wr.heap.size := (by have := hr.lt; omega); have hpX : p ≠ wr.heap.size := (by have := hs.lt; omega); have hsz3 := hB3.size; clear hB hB2 hr hs; go_frame)
          | ((with_reducible change wpList _ _ _ (Oper.mk none _ _ _ _ _ :: _) _ _); refine kStoreRow _ _ _ _ _ _ _ rfl rfl rfl rfl hR2 info_step rfl (fun v hv => by simp at hv; rcases hv with rfl | rfl | rfl <;> rfl) ?_; intro w4 hR4 hW4; have hX4 := exc_wrote hW4; have hr4 := row_rd hX4 hR2 hr2 hgX (step_noByte _ _ _); have hs4 := row_rd hX4 hR2 hs2 hpX (step_noByte _ _ _); have hB5 := hB3.trans (hX4.below hsz hsz3); have hsz5 := hB5.size; clear hB3 hW4 hX4 hR2 hr2 hs2 hsz3; go_frame)
          | ((with_reducible change wpList _ _ _ (Oper.mk (some 30) _ _ _ _ _ :: _) _ _); refine kStep0 _ _ rfl rfl rfl ?_; go_frame)
          | ((with_reducible change wpList _ _ _ (Oper.mk (some 31) _ _ _ _ _ :: _) _ _); refine kLoad1 _ _ _ _ 0 _ (.int .i64 ki) _ rfl rfl rfl hR4 Try.underlying3 rfl rfl ?_; go_frame)
          | ((with_reducible change wpList _ _ _ (Oper.mk (some 44) _ _ _ _ _ :: _) _ _); refine kEqlI _ _ _ _ .i64 ki 0 false rfl rfl rfl rfl hk0 ?_; go_frame)
          | ((with_reducible change wpList _ _ _ (Oper.mk (some 55) _ _ _ _ _ :: _) _ _); refine kEqlI _ _ _ _ .i64 ki 1 true rfl rfl rfl rfl hk1 ?_; go_frame))
        refine region_mixD [(0, true), (1, true), (2, true), (4, true), (5, true), (6, true), (3, false), (7, false), (8, true)] (fun w => Row w wr.heap.size 45 #[.int .i64 ki, .int .i64 z, .int .u64 (mo : Int)]) (by kernel_rfl) (by kernel_rfl) rfl ?_
        intro w6 hBd hsd
        have hR6 := hR4.below hBd hR4.lt
        have hr6 := hr4.below hBd
        have hs6 := hs4.below hBd
        have hB6 := hB5.trans (hBd.mono hsz5)
        have hsz6 := hB6.size
        clear hBd hsd hR4 hr4 hs4 hB5 hsz5
        simp only [List.map_cons, List.map_nil]
        dsimp only [List.filterMap, List.getElem?_cons_zero, List.getElem?_cons_succ]
        have hS := hR6
        refine dY _ hS (yMove _ (.pointer (some ⟨g, 0, none⟩)) rfl rfl rfl) ?_; go_frame
        refine dY _ hS (yStep2 _ _ rfl rfl rfl) ?_; go_frame
        refine dY _ hS (yLoad1 _ _ _ _ 2 _ (.int .u64 (mo : Int)) _ rfl rfl rfl (fun _ h => h) Try.underlying26 rfl rfl) ?_; go_frame
        refine dY _ hS (yMove _ (.pointer (some ⟨p, 0, none⟩)) rfl rfl rfl) ?_; go_frame
        refine dY _ hS (yStep2 _ _ rfl rfl rfl) ?_; go_frame
        refine dY _ hS (yLoad1 _ _ _ _ 2 _ (.int .u64 (mo : Int)) _ rfl rfl rfl (fun _ h => h) Try.underlying26 rfl rfl) ?_; go_frame
        refine dLoud ?_
        refine kCall2 11 _ _ _ _ _ rfl rfl (by kernel_rfl) rfl rfl ?_
        refine (rdCount_any (most := mo) _ hr6).mono ?_
        rintro e w7 ⟨rfl, hr7, hX7⟩
        have hR7 := hX7.row hR6 (Ne.symm hgX)
        have hs7 := hX7.rd hr6 hs6 (Ne.symm hgp)
        have hB7 := hB6.trans (hX7.below hge hsz6)
        have hsz7 := hB7.size
        clear hR6 hr6 hs6 hB6 hsz6 hX7
        refine ⟨_, rfl, mixOn ⟨(fun w => Row w wr.heap.size 45 #[.int .i64 ki, .int .i64 z, .int .u64 (mo : Int)]), (fun _ h => h), hR7, ?_⟩⟩
        have hS2 := hR7; clear hS; have hS := hS2; clear hS2
        go_frame
        refine dLoud ?_
        refine kCall2 22 _ _ _ _ _ rfl rfl (by kernel_rfl) rfl rfl ?_
        refine (jCountOf_any (most := mo) _ hs7 (by omega)).mono ?_
        rintro e w8 ⟨rfl, hs8, hX8⟩
        have hR8 := hX8.row hR7 (Ne.symm hpX)
        have hr8 := hX8.rd hs7 hr7 hgp
        have hB8 := hB7.trans (hX8.below hpe hsz7)
        have hsz8 := hB8.size
        clear hR7 hr7 hs7 hB7 hsz7 hX8
        refine ⟨_, rfl, mixOn ⟨(fun w => Row w wr.heap.size 45 #[.int .i64 ki, .int .i64 z, .int .u64 (mo : Int)]), (fun _ h => h), hR8, ?_⟩⟩
        have hS2 := hR8; clear hS; have hS := hS2; clear hS2
        go_frame
        refine dY _ hS (yNeqI _ _ _ _ .u64 _ _ false rfl rfl rfl rfl (by simp)) ?_; go_frame
        refine dDone ?_
        have hlen2 := count_restLe st mo
        clear hS hR8
        generalize (countS st mo).2 = st2 at *
        obtain ⟨m2, hm2⟩ : ∃ m2, st2.rest.length = m2 := ⟨_, rfl⟩
        obtain ⟨E, hE⟩ : ∃ E, st2.err = E := ⟨_, rfl⟩
        go_wp2_with fail
        obtain ⟨v9, hR9, hV9⟩ := id hs8
        rw [hE] at hR9
        refine region_mixD [(0, true), (2, true), (3, true), (4, true), (5, true), (6, true), (1, false), (7, true), (8, true), (9, true), (11, true), (12, true), (13, true), (14, true), (10, false), (15, true), (16, true)] (fun w => Row w p 43 #[v9, .int .i64 (E : Int)] ∧ IsVals w v9 (st2.rest.map VB)) (by kernel_rfl) (by kernel_rfl) rfl ?_
        intro w10 hBd hsd
        have hR10 := hR9.below hBd hR9.lt
        have hV10 := hV9.below hBd
        have hr10 := hr8.below hBd
        have hs10 := hs8.below hBd
        have hB10 := hB8.trans (hBd.mono hsz8)
        clear hBd hsd hR9 hV9 hr8 hs8 hB8 hsz8
        simp only [List.map_cons, List.map_nil]
        dsimp only [List.filterMap, List.getElem?_cons_zero, List.getElem?_cons_succ]
        have hS := (⟨hR10, hV10⟩ : Row w10 p 43 #[v9, .int .i64 (E : Int)] ∧ IsVals w10 v9 (st2.rest.map VB))
        refine dY _ hS (yMove _ (.pointer (some ⟨g, 0, none⟩)) rfl rfl rfl) ?_; go_frame
        refine dY _ hS (yMove _ (.pointer (some ⟨p, 0, none⟩)) rfl rfl rfl) ?_; go_frame
        refine dY _ hS (yNil _ ⟨p, 0, none⟩ rfl rfl rfl) ?_; go_frame
        refine dY _ hS (yS0 _ p rfl rfl rfl) ?_; go_frame
        refine dY _ hS (yLoad1 _ _ _ p 0 _ v9 _ rfl rfl rfl (fun _ h => h.1) Try.underlying25 rfl rfl) ?_; go_frame
        refine dY _ hS (yLen _ _ _ v9 _ m2 rfl rfl rfl (fun _ h => h.2) (by rw [List.length_map, hm2]) Try.underlying25) ?_; go_frame
        refine dLoud ?_
        refine kCall1 14 _ _ _ rfl rfl (by kernel_rfl) rfl ?_
        refine (rdLeft_any (n := m2) _ hr10 hm2).mono ?_
        rintro e w11 ⟨rfl, rfl⟩
        refine ⟨_, rfl, mixOn ⟨(fun w => Row w p 43 #[v9, .int .i64 (E : Int)] ∧ IsVals w v9 (st2.rest.map VB)), (fun _ h => h), hS, ?_⟩⟩
        have hS2 := hS; clear hS; have hS := hS2; clear hS2
        go_frame
        refine dY _ hS (yNeqI _ _ _ _ .i64 (m2 : Int) (m2 : Int) false rfl rfl rfl rfl (by simp)) ?_; go_frame
        refine dY _ hS (yMove _ (.bool false) rfl rfl rfl) ?_; go_frame
        refine dY _ hS (yMove _ (.pointer (some ⟨g, 0, none⟩)) rfl rfl rfl) ?_; go_frame
        refine dY _ hS (yMove _ (.pointer (some ⟨p, 0, none⟩)) rfl rfl rfl) ?_; go_frame
        refine dY _ hS (yNil _ ⟨p, 0, none⟩ rfl rfl rfl) ?_; go_frame
        refine dY _ hS (yS1 _ p rfl rfl rfl) ?_; go_frame
        refine dY _ hS (yLoad1 _ _ _ p 1 _ (.int .i64 (E : Int)) _ rfl rfl rfl (fun _ h => h.1) Try.underlying3 rfl rfl) ?_; go_frame
        refine dLoud ?_
        refine kCall1 13 _ _ _ rfl rfl (by kernel_rfl) rfl ?_
        refine (rdErr_any (n := E) _ hr10 hE).mono ?_
        rintro e w12 ⟨rfl, rfl⟩
        refine ⟨_, rfl, mixOn ⟨(fun w => Row w p 43 #[v9, .int .i64 (E : Int)] ∧ IsVals w v9 (st2.rest.map VB)), (fun _ h => h), hS, ?_⟩⟩
        have hS2 := hS; clear hS; have hS := hS2; clear hS2
        go_frame
        refine dY _ hS (yNeqI _ _ _ _ .i64 (E : Int) (E : Int) false rfl rfl rfl rfl (by simp)) ?_; go_frame
        refine dY _ hS (yPick _ _ _ false (.bool false) rfl rfl rfl rfl) ?_; go_frame
        refine dDone ?_
        clear hS
        go_wp2_with (first
          | ((with_reducible change wpList _ _ _ (Oper.mk (some 95) _ _ _ _ _ :: _) _ _); refine kAddI _ _ _ _ (k : Int) 1 ((k + 1 : Nat) : Int) (by omega) rfl rfl rfl rfl ?_; go_frame))
        go_roundw
        case rel => exact ⟨k + 1, st2, by omega, rfl, by omega, hr10, hs10, hB10⟩
        case measure => simp [intOf]; omega
      have hk1 : decide (ki = 1) = false := by simp; exact h1'
      by_cases h2' : ki = 2
      · have hk2 : decide (ki = 2) = true := by simp; exact h2'
        clear h2' h1' h0
        go_wp2_with (first
          | ((with_reducible change wpList _ _ _ (Oper.mk (some 27) _ _ _ _ _ :: _) _ _); refine kLssI _ _ _ _ .i64 (k : Int) (N : Int) true rfl rfl rfl rfl hd ?_; go_frame)
          | ((with_reducible change wpList _ _ _ (Oper.mk (some 28) _ _ _ _ _ :: _) _ _); refine kIndexStep _ _ t Ss k (ki, z, mo) htr hsk rfl rfl rfl rfl ?_; intro b hb; go_frame)
          | ((with_reducible change wpList _ _ _ (Oper.mk (some 29) _ _ _ _ _ :: _) _ _); refine kLoadStep _ b (ki, z, mo) hb rfl rfl rfl ?_; clear hb htr; go_frame)
          | ((with_reducible change wpList _ _ _ (Oper.mk (some 8) _ _ _ _ _ :: _) _ _); refine kAlloc _ _ rfl rfl zero_step ?_; intro w2 hR2 hz2 hB2; clear hz2; have hr2 := hr.below hB2; have hs2 := hs.below hB2; have hB3 := hB.trans (hB2.mono hsz); have hgX : g ≠ wr.heap.size := (by have := hr.lt; omega); have hpX : p ≠ wr.heap.size := (by have := hs.lt; omega); have hsz3 := hB3.size; clear hB hB2 hr hs; go_frame)
          | ((with_reducible change wpList _ _ _ (Oper.mk none _ _ _ _ _ :: _) _ _); refine kStoreRow _ _ _ _ _ _ _ rfl rfl rfl rfl hR2 info_step rfl (fun v hv => by simp at hv; rcases hv with rfl | rfl | rfl <;> rfl) ?_; intro w4 hR4 hW4; have hX4 := exc_wrote hW4; have hr4 := row_rd hX4 hR2 hr2 hgX (step_noByte _ _ _); have hs4 := row_rd hX4 hR2 hs2 hpX (step_noByte _ _ _); have hB5 := hB3.trans (hX4.below hsz hsz3); have hsz5 := hB5.size; clear hB3 hW4 hX4 hR2 hr2 hs2 hsz3; go_frame)
          | ((with_reducible change wpList _ _ _ (Oper.mk (some 30) _ _ _ _ _ :: _) _ _); refine kStep0 _ _ rfl rfl rfl ?_; go_frame)
          | ((with_reducible change wpList _ _ _ (Oper.mk (some 31) _ _ _ _ _ :: _) _ _); refine kLoad1 _ _ _ _ 0 _ (.int .i64 ki) _ rfl rfl rfl hR4 Try.underlying3 rfl rfl ?_; go_frame)
          | ((with_reducible change wpList _ _ _ (Oper.mk (some 44) _ _ _ _ _ :: _) _ _); refine kEqlI _ _ _ _ .i64 ki 0 false rfl rfl rfl rfl hk0 ?_; go_frame)
          | ((with_reducible change wpList _ _ _ (Oper.mk (some 55) _ _ _ _ _ :: _) _ _); refine kEqlI _ _ _ _ .i64 ki 1 false rfl rfl rfl rfl hk1 ?_; go_frame)
          | ((with_reducible change wpList _ _ _ (Oper.mk (some 66) _ _ _ _ _ :: _) _ _); refine kEqlI _ _ _ _ .i64 ki 2 true rfl rfl rfl rfl hk2 ?_; go_frame))
        refine region_mixD [(0, true), (1, true), (2, true), (5, true), (6, true), (7, true), (3, false), (4, true), (8, false), (9, true), (10, true)] (fun w => Row w wr.heap.size 45 #[.int .i64 ki, .int .i64 z, .int .u64 (mo : Int)]) (by kernel_rfl) (by kernel_rfl) rfl ?_
        intro w6 hBd hsd
        have hR6 := hR4.below hBd hR4.lt
        have hr6 := hr4.below hBd
        have hs6 := hs4.below hBd
        have hB6 := hB5.trans (hBd.mono hsz5)
        have hsz6 := hB6.size
        clear hBd hsd hR4 hr4 hs4 hB5 hsz5
        simp only [List.map_cons, List.map_nil]
        dsimp only [List.filterMap, List.getElem?_cons_zero, List.getElem?_cons_succ]
        have hS := hR6
        refine dY _ hS (yMove _ (.pointer (some ⟨g, 0, none⟩)) rfl rfl rfl) ?_; go_frame
        refine dY _ hS (yStep1 _ _ rfl rfl rfl) ?_; go_frame
        refine dY _ hS (yLoad1 _ _ _ _ 1 _ (.int .i64 z) _ rfl rfl rfl (fun _ h => h) Try.underlying3 rfl rfl) ?_; go_frame
        refine dY _ hS (yMove _ (.pointer (some ⟨p, 0, none⟩)) rfl rfl rfl) ?_; go_frame
        refine dY _ hS (yStep1 _ _ rfl rfl rfl) ?_; go_frame
        refine dY _ hS (yLoad1 _ _ _ _ 1 _ (.int .i64 z) _ rfl rfl rfl (fun _ h => h) Try.underlying3 rfl rfl) ?_; go_frame
        refine dLoud ?_
        refine kCall2 23 _ _ _ _ _ rfl rfl (by kernel_rfl) rfl rfl ?_
        refine (rdRaw_any (z := z) _ hr6 (by omega)).mono ?_
        rintro e w7 ⟨v7, rfl, hV7, hr7, hX7⟩
        have hR7 := hX7.row hR6 (Ne.symm hgX)
        have hs7 := hX7.rd hr6 hs6 (Ne.symm hgp)
        have hB7 := hB6.trans (hX7.below hge hsz6)
        have hsz7 := hB7.size
        clear hR6 hr6 hs6 hB6 hsz6 hX7
        refine ⟨_, rfl, mixOn ⟨(fun w => Row w wr.heap.size 45 #[.int .i64 ki, .int .i64 z, .int .u64 (mo : Int)] ∧ IsVals w v7 ((rawS st z).1.map VB)), (fun _ h => h.1), (⟨hR7, hV7⟩ : Row w7 wr.heap.size 45 #[.int .i64 ki, .int .i64 z, .int .u64 (mo : Int)] ∧ IsVals w7 v7 ((rawS st z).1.map VB)), ?_⟩⟩
        have hS2 := (⟨hR7, hV7⟩ : Row w7 wr.heap.size 45 #[.int .i64 ki, .int .i64 z, .int .u64 (mo : Int)] ∧ IsVals w7 v7 ((rawS st z).1.map VB)); clear hS; have hS := hS2; clear hS2
        go_frame
        refine dY _ hS (yStr _ _ _ _ v7 (rawS st z).1 rfl rfl rfl (fun _ h => h.2) Try.underlying25 Try.underlying5 Try.underlying9) ?_; go_frame
        refine dLoud ?_
        refine kCall2 24 _ _ _ _ _ rfl rfl (by kernel_rfl) rfl rfl ?_
        refine (jRaw_any (z := z) _ hs7 (by omega)).mono ?_
        rintro e w8 ⟨v8, rfl, hV8, hs8, hX8⟩
        have hR8 := hX8.row hR7 (Ne.symm hpX)
        have hV9 := hX8.vals hs7 hV7
        have hr8 := hX8.rd hs7 hr7 hgp
        have hB8 := hB7.trans (hX8.below hpe hsz7)
        have hsz8 := hB8.size
        clear hR7 hr7 hs7 hB7 hsz7 hX8
        refine ⟨_, rfl, mixOn ⟨(fun w => (Row w wr.heap.size 45 #[.int .i64 ki, .int .i64 z, .int .u64 (mo : Int)] ∧ IsVals w v7 ((rawS st z).1.map VB)) ∧ IsVals w v8 ((rawS st z).1.map VB)), (fun _ h => h.1), (⟨⟨hR8, hV9⟩, hV8⟩ : (Row w8 wr.heap.size 45 #[.int .i64 ki, .int .i64 z, .int .u64 (mo : Int)] ∧ IsVals w8 v7 ((rawS st z).1.map VB)) ∧ IsVals w8 v8 ((rawS st z).1.map VB)), ?_⟩⟩
        have hS2 := (⟨⟨hR8, hV9⟩, hV8⟩ : (Row w8 wr.heap.size 45 #[.int .i64 ki, .int .i64 z, .int .u64 (mo : Int)] ∧ IsVals w8 v7 ((rawS st z).1.map VB)) ∧ IsVals w8 v8 ((rawS st z).1.map VB)); clear hS; have hS := hS2; clear hS2
        go_frame
        refine dY _ hS (yStr _ _ _ _ v8 (rawS st z).1 rfl rfl rfl (fun _ h => h.2) Try.underlying25 Try.underlying5 Try.underlying9) ?_; go_frame
        refine dY _ hS (yNeqStr _ _ _ _ (rawS st z).1 (rawS st z).1 false rfl rfl rfl rfl (by simp)) ?_; go_frame
        refine dDone ?_
        have hlen2 := raw_restLe st z
        clear hS hR8
        generalize (rawS st z).2 = st2 at *
        obtain ⟨m2, hm2⟩ : ∃ m2, st2.rest.length = m2 := ⟨_, rfl⟩
        obtain ⟨E, hE⟩ : ∃ E, st2.err = E := ⟨_, rfl⟩
        go_wp2_with fail
        obtain ⟨v9, hR9, hV9⟩ := id hs8
        rw [hE] at hR9
        refine region_mixD [(0, true), (2, true), (3, true), (4, true), (5, true), (6, true), (1, false), (7, true), (8, true), (9, true), (11, true), (12, true), (13, true), (14, true), (10, false), (15, true), (16, true)] (fun w => Row w p 43 #[v9, .int .i64 (E : Int)] ∧ IsVals w v9 (st2.rest.map VB)) (by kernel_rfl) (by kernel_rfl) rfl ?_
        intro w10 hBd hsd
        have hR10 := hR9.below hBd hR9.lt
        have hV10 := hV9.below hBd
        have hr10 := hr8.below hBd
        have hs10 := hs8.below hBd
        have hB10 := hB8.trans (hBd.mono hsz8)
        clear hBd hsd hR9 hV9 hr8 hs8 hB8 hsz8
        simp only [List.map_cons, List.map_nil]
        dsimp only [List.filterMap, List.getElem?_cons_zero, List.getElem?_cons_succ]
        have hS := (⟨hR10, hV10⟩ : Row w10 p 43 #[v9, .int .i64 (E : Int)] ∧ IsVals w10 v9 (st2.rest.map VB))
        refine dY _ hS (yMove _ (.pointer (some ⟨g, 0, none⟩)) rfl rfl rfl) ?_; go_frame
        refine dY _ hS (yMove _ (.pointer (some ⟨p, 0, none⟩)) rfl rfl rfl) ?_; go_frame
        refine dY _ hS (yNil _ ⟨p, 0, none⟩ rfl rfl rfl) ?_; go_frame
        refine dY _ hS (yS0 _ p rfl rfl rfl) ?_; go_frame
        refine dY _ hS (yLoad1 _ _ _ p 0 _ v9 _ rfl rfl rfl (fun _ h => h.1) Try.underlying25 rfl rfl) ?_; go_frame
        refine dY _ hS (yLen _ _ _ v9 _ m2 rfl rfl rfl (fun _ h => h.2) (by rw [List.length_map, hm2]) Try.underlying25) ?_; go_frame
        refine dLoud ?_
        refine kCall1 14 _ _ _ rfl rfl (by kernel_rfl) rfl ?_
        refine (rdLeft_any (n := m2) _ hr10 hm2).mono ?_
        rintro e w11 ⟨rfl, rfl⟩
        refine ⟨_, rfl, mixOn ⟨(fun w => Row w p 43 #[v9, .int .i64 (E : Int)] ∧ IsVals w v9 (st2.rest.map VB)), (fun _ h => h), hS, ?_⟩⟩
        have hS2 := hS; clear hS; have hS := hS2; clear hS2
        go_frame
        refine dY _ hS (yNeqI _ _ _ _ .i64 (m2 : Int) (m2 : Int) false rfl rfl rfl rfl (by simp)) ?_; go_frame
        refine dY _ hS (yMove _ (.bool false) rfl rfl rfl) ?_; go_frame
        refine dY _ hS (yMove _ (.pointer (some ⟨g, 0, none⟩)) rfl rfl rfl) ?_; go_frame
        refine dY _ hS (yMove _ (.pointer (some ⟨p, 0, none⟩)) rfl rfl rfl) ?_; go_frame
        refine dY _ hS (yNil _ ⟨p, 0, none⟩ rfl rfl rfl) ?_; go_frame
        refine dY _ hS (yS1 _ p rfl rfl rfl) ?_; go_frame
        refine dY _ hS (yLoad1 _ _ _ p 1 _ (.int .i64 (E : Int)) _ rfl rfl rfl (fun _ h => h.1) Try.underlying3 rfl rfl) ?_; go_frame
        refine dLoud ?_
        refine kCall1 13 _ _ _ rfl rfl (by kernel_rfl) rfl ?_
        refine (rdErr_any (n := E) _ hr10 hE).mono ?_
        rintro e w12 ⟨rfl, rfl⟩
        refine ⟨_, rfl, mixOn ⟨(fun w => Row w p 43 #[v9, .int .i64 (E : Int)] ∧ IsVals w v9 (st2.rest.map VB)), (fun _ h => h), hS, ?_⟩⟩
        have hS2 := hS; clear hS; have hS := hS2; clear hS2
        go_frame
        refine dY _ hS (yNeqI _ _ _ _ .i64 (E : Int) (E : Int) false rfl rfl rfl rfl (by simp)) ?_; go_frame
        refine dY _ hS (yPick _ _ _ false (.bool false) rfl rfl rfl rfl) ?_; go_frame
        refine dDone ?_
        clear hS
        go_wp2_with (first
          | ((with_reducible change wpList _ _ _ (Oper.mk (some 95) _ _ _ _ _ :: _) _ _); refine kAddI _ _ _ _ (k : Int) 1 ((k + 1 : Nat) : Int) (by omega) rfl rfl rfl rfl ?_; go_frame))
        go_roundw
        case rel => exact ⟨k + 1, st2, by omega, rfl, by omega, hr10, hs10, hB10⟩
        case measure => simp [intOf]; omega
      · have hk2 : decide (ki = 2) = false := by simp; exact h2'
        clear h2' h1' h0
        go_wp2_with (first
          | ((with_reducible change wpList _ _ _ (Oper.mk (some 27) _ _ _ _ _ :: _) _ _); refine kLssI _ _ _ _ .i64 (k : Int) (N : Int) true rfl rfl rfl rfl hd ?_; go_frame)
          | ((with_reducible change wpList _ _ _ (Oper.mk (some 28) _ _ _ _ _ :: _) _ _); refine kIndexStep _ _ t Ss k (ki, z, mo) htr hsk rfl rfl rfl rfl ?_; intro b hb; go_frame)
          | ((with_reducible change wpList _ _ _ (Oper.mk (some 29) _ _ _ _ _ :: _) _ _); refine kLoadStep _ b (ki, z, mo) hb rfl rfl rfl ?_; clear hb htr; go_frame)
          | ((with_reducible change wpList _ _ _ (Oper.mk (some 8) _ _ _ _ _ :: _) _ _); refine kAlloc _ _ rfl rfl zero_step ?_; intro w2 hR2 hz2 hB2; clear hz2; have hr2 := hr.below hB2; have hs2 := hs.below hB2; have hB3 := hB.trans (hB2.mono hsz); have hgX : g ≠ wr.heap.size := (by have := hr.lt; omega); have hpX : p ≠ wr.heap.size := (by have := hs.lt; omega); have hsz3 := hB3.size; clear hB hB2 hr hs; go_frame)
          | ((with_reducible change wpList _ _ _ (Oper.mk none _ _ _ _ _ :: _) _ _); refine kStoreRow _ _ _ _ _ _ _ rfl rfl rfl rfl hR2 info_step rfl (fun v hv => by simp at hv; rcases hv with rfl | rfl | rfl <;> rfl) ?_; intro w4 hR4 hW4; have hX4 := exc_wrote hW4; have hr4 := row_rd hX4 hR2 hr2 hgX (step_noByte _ _ _); have hs4 := row_rd hX4 hR2 hs2 hpX (step_noByte _ _ _); have hB5 := hB3.trans (hX4.below hsz hsz3); have hsz5 := hB5.size; clear hB3 hW4 hX4 hR2 hr2 hs2 hsz3; go_frame)
          | ((with_reducible change wpList _ _ _ (Oper.mk (some 30) _ _ _ _ _ :: _) _ _); refine kStep0 _ _ rfl rfl rfl ?_; go_frame)
          | ((with_reducible change wpList _ _ _ (Oper.mk (some 31) _ _ _ _ _ :: _) _ _); refine kLoad1 _ _ _ _ 0 _ (.int .i64 ki) _ rfl rfl rfl hR4 Try.underlying3 rfl rfl ?_; go_frame)
          | ((with_reducible change wpList _ _ _ (Oper.mk (some 44) _ _ _ _ _ :: _) _ _); refine kEqlI _ _ _ _ .i64 ki 0 false rfl rfl rfl rfl hk0 ?_; go_frame)
          | ((with_reducible change wpList _ _ _ (Oper.mk (some 55) _ _ _ _ _ :: _) _ _); refine kEqlI _ _ _ _ .i64 ki 1 false rfl rfl rfl rfl hk1 ?_; go_frame)
          | ((with_reducible change wpList _ _ _ (Oper.mk (some 66) _ _ _ _ _ :: _) _ _); refine kEqlI _ _ _ _ .i64 ki 2 false rfl rfl rfl rfl hk2 ?_; go_frame))
        refine region_mixD [(0, true), (1, true), (2, true), (5, true), (6, true), (7, true), (3, false), (4, true), (8, false), (9, true), (10, true)] (fun w => Row w wr.heap.size 45 #[.int .i64 ki, .int .i64 z, .int .u64 (mo : Int)]) (by kernel_rfl) (by kernel_rfl) rfl ?_
        intro w6 hBd hsd
        have hR6 := hR4.below hBd hR4.lt
        have hr6 := hr4.below hBd
        have hs6 := hs4.below hBd
        have hB6 := hB5.trans (hBd.mono hsz5)
        have hsz6 := hB6.size
        clear hBd hsd hR4 hr4 hs4 hB5 hsz5
        simp only [List.map_cons, List.map_nil]
        dsimp only [List.filterMap, List.getElem?_cons_zero, List.getElem?_cons_succ]
        have hS := hR6
        refine dY _ hS (yMove _ (.pointer (some ⟨g, 0, none⟩)) rfl rfl rfl) ?_; go_frame
        refine dY _ hS (yStep1 _ _ rfl rfl rfl) ?_; go_frame
        refine dY _ hS (yLoad1 _ _ _ _ 1 _ (.int .i64 z) _ rfl rfl rfl (fun _ h => h) Try.underlying3 rfl rfl) ?_; go_frame
        refine dY _ hS (yMove _ (.pointer (some ⟨p, 0, none⟩)) rfl rfl rfl) ?_; go_frame
        refine dY _ hS (yStep1 _ _ rfl rfl rfl) ?_; go_frame
        refine dY _ hS (yLoad1 _ _ _ _ 1 _ (.int .i64 z) _ rfl rfl rfl (fun _ h => h) Try.underlying3 rfl rfl) ?_; go_frame
        refine dLoud ?_
        refine kCall2 25 _ _ _ _ _ rfl rfl (by kernel_rfl) rfl rfl ?_
        refine (rdText_any (z := z) hz _ hr6 (by omega)).mono ?_
        rintro e w7 ⟨v7, rfl, hV7, hr7, hX7⟩
        have hR7 := hX7.row hR6 (Ne.symm hgX)
        have hs7 := hX7.rd hr6 hs6 (Ne.symm hgp)
        have hB7 := hB6.trans (hX7.below hge hsz6)
        have hsz7 := hB7.size
        clear hR6 hr6 hs6 hB6 hsz6 hX7
        refine ⟨_, rfl, mixOn ⟨(fun w => Row w wr.heap.size 45 #[.int .i64 ki, .int .i64 z, .int .u64 (mo : Int)] ∧ IsVals w v7 ((textS st z).1.map VB)), (fun _ h => h.1), (⟨hR7, hV7⟩ : Row w7 wr.heap.size 45 #[.int .i64 ki, .int .i64 z, .int .u64 (mo : Int)] ∧ IsVals w7 v7 ((textS st z).1.map VB)), ?_⟩⟩
        have hS2 := (⟨hR7, hV7⟩ : Row w7 wr.heap.size 45 #[.int .i64 ki, .int .i64 z, .int .u64 (mo : Int)] ∧ IsVals w7 v7 ((textS st z).1.map VB)); clear hS; have hS := hS2; clear hS2
        go_frame
        refine dY _ hS (yStr _ _ _ _ v7 (textS st z).1 rfl rfl rfl (fun _ h => h.2) Try.underlying25 Try.underlying5 Try.underlying9) ?_; go_frame
        refine dLoud ?_
        refine kCall2 26 _ _ _ _ _ rfl rfl (by kernel_rfl) rfl rfl ?_
        refine (jTextOf_any (z := z) hz _ hs7 (by omega)).mono ?_
        rintro e w8 ⟨v8, rfl, hV8, hs8, hX8⟩
        have hR8 := hX8.row hR7 (Ne.symm hpX)
        have hV9 := hX8.vals hs7 hV7
        have hr8 := hX8.rd hs7 hr7 hgp
        have hB8 := hB7.trans (hX8.below hpe hsz7)
        have hsz8 := hB8.size
        clear hR7 hr7 hs7 hB7 hsz7 hX8
        refine ⟨_, rfl, mixOn ⟨(fun w => (Row w wr.heap.size 45 #[.int .i64 ki, .int .i64 z, .int .u64 (mo : Int)] ∧ IsVals w v7 ((textS st z).1.map VB)) ∧ IsVals w v8 ((textS st z).1.map VB)), (fun _ h => h.1), (⟨⟨hR8, hV9⟩, hV8⟩ : (Row w8 wr.heap.size 45 #[.int .i64 ki, .int .i64 z, .int .u64 (mo : Int)] ∧ IsVals w8 v7 ((textS st z).1.map VB)) ∧ IsVals w8 v8 ((textS st z).1.map VB)), ?_⟩⟩
        have hS2 := (⟨⟨hR8, hV9⟩, hV8⟩ : (Row w8 wr.heap.size 45 #[.int .i64 ki, .int .i64 z, .int .u64 (mo : Int)] ∧ IsVals w8 v7 ((textS st z).1.map VB)) ∧ IsVals w8 v8 ((textS st z).1.map VB)); clear hS; have hS := hS2; clear hS2
        go_frame
        refine dY _ hS (yStr _ _ _ _ v8 (textS st z).1 rfl rfl rfl (fun _ h => h.2) Try.underlying25 Try.underlying5 Try.underlying9) ?_; go_frame
        refine dY _ hS (yNeqStr _ _ _ _ (textS st z).1 (textS st z).1 false rfl rfl rfl rfl (by simp)) ?_; go_frame
        refine dDone ?_
        have hlen2 := text_restLe st z
        clear hS hR8
        generalize (textS st z).2 = st2 at *
        obtain ⟨m2, hm2⟩ : ∃ m2, st2.rest.length = m2 := ⟨_, rfl⟩
        obtain ⟨E, hE⟩ : ∃ E, st2.err = E := ⟨_, rfl⟩
        go_wp2_with fail
        obtain ⟨v9, hR9, hV9⟩ := id hs8
        rw [hE] at hR9
        refine region_mixD [(0, true), (2, true), (3, true), (4, true), (5, true), (6, true), (1, false), (7, true), (8, true), (9, true), (11, true), (12, true), (13, true), (14, true), (10, false), (15, true), (16, true)] (fun w => Row w p 43 #[v9, .int .i64 (E : Int)] ∧ IsVals w v9 (st2.rest.map VB)) (by kernel_rfl) (by kernel_rfl) rfl ?_
        intro w10 hBd hsd
        have hR10 := hR9.below hBd hR9.lt
        have hV10 := hV9.below hBd
        have hr10 := hr8.below hBd
        have hs10 := hs8.below hBd
        have hB10 := hB8.trans (hBd.mono hsz8)
        clear hBd hsd hR9 hV9 hr8 hs8 hB8 hsz8
        simp only [List.map_cons, List.map_nil]
        dsimp only [List.filterMap, List.getElem?_cons_zero, List.getElem?_cons_succ]
        have hS := (⟨hR10, hV10⟩ : Row w10 p 43 #[v9, .int .i64 (E : Int)] ∧ IsVals w10 v9 (st2.rest.map VB))
        refine dY _ hS (yMove _ (.pointer (some ⟨g, 0, none⟩)) rfl rfl rfl) ?_; go_frame
        refine dY _ hS (yMove _ (.pointer (some ⟨p, 0, none⟩)) rfl rfl rfl) ?_; go_frame
        refine dY _ hS (yNil _ ⟨p, 0, none⟩ rfl rfl rfl) ?_; go_frame
        refine dY _ hS (yS0 _ p rfl rfl rfl) ?_; go_frame
        refine dY _ hS (yLoad1 _ _ _ p 0 _ v9 _ rfl rfl rfl (fun _ h => h.1) Try.underlying25 rfl rfl) ?_; go_frame
        refine dY _ hS (yLen _ _ _ v9 _ m2 rfl rfl rfl (fun _ h => h.2) (by rw [List.length_map, hm2]) Try.underlying25) ?_; go_frame
        refine dLoud ?_
        refine kCall1 14 _ _ _ rfl rfl (by kernel_rfl) rfl ?_
        refine (rdLeft_any (n := m2) _ hr10 hm2).mono ?_
        rintro e w11 ⟨rfl, rfl⟩
        refine ⟨_, rfl, mixOn ⟨(fun w => Row w p 43 #[v9, .int .i64 (E : Int)] ∧ IsVals w v9 (st2.rest.map VB)), (fun _ h => h), hS, ?_⟩⟩
        have hS2 := hS; clear hS; have hS := hS2; clear hS2
        go_frame
        refine dY _ hS (yNeqI _ _ _ _ .i64 (m2 : Int) (m2 : Int) false rfl rfl rfl rfl (by simp)) ?_; go_frame
        refine dY _ hS (yMove _ (.bool false) rfl rfl rfl) ?_; go_frame
        refine dY _ hS (yMove _ (.pointer (some ⟨g, 0, none⟩)) rfl rfl rfl) ?_; go_frame
        refine dY _ hS (yMove _ (.pointer (some ⟨p, 0, none⟩)) rfl rfl rfl) ?_; go_frame
        refine dY _ hS (yNil _ ⟨p, 0, none⟩ rfl rfl rfl) ?_; go_frame
        refine dY _ hS (yS1 _ p rfl rfl rfl) ?_; go_frame
        refine dY _ hS (yLoad1 _ _ _ p 1 _ (.int .i64 (E : Int)) _ rfl rfl rfl (fun _ h => h.1) Try.underlying3 rfl rfl) ?_; go_frame
        refine dLoud ?_
        refine kCall1 13 _ _ _ rfl rfl (by kernel_rfl) rfl ?_
        refine (rdErr_any (n := E) _ hr10 hE).mono ?_
        rintro e w12 ⟨rfl, rfl⟩
        refine ⟨_, rfl, mixOn ⟨(fun w => Row w p 43 #[v9, .int .i64 (E : Int)] ∧ IsVals w v9 (st2.rest.map VB)), (fun _ h => h), hS, ?_⟩⟩
        have hS2 := hS; clear hS; have hS := hS2; clear hS2
        go_frame
        refine dY _ hS (yNeqI _ _ _ _ .i64 (E : Int) (E : Int) false rfl rfl rfl rfl (by simp)) ?_; go_frame
        refine dY _ hS (yPick _ _ _ false (.bool false) rfl rfl rfl rfl) ?_; go_frame
        refine dDone ?_
        clear hS
        go_wp2_with (first
          | ((with_reducible change wpList _ _ _ (Oper.mk (some 95) _ _ _ _ _ :: _) _ _); refine kAddI _ _ _ _ (k : Int) 1 ((k + 1 : Nat) : Int) (by omega) rfl rfl rfl rfl ?_; go_frame))
        go_roundw
        case rel => exact ⟨k + 1, st2, by omega, rfl, by omega, hr10, hs10, hB10⟩
        case measure => simp [intOf]; omega
    · have hd : decide ((k : Int) < (N : Int)) = false := by simp; omega
      go_wp2_with (first
        | ((with_reducible change wpList _ _ _ (Oper.mk (some 27) _ _ _ _ _ :: _) _ _); refine kLssI _ _ _ _ .i64 (k : Int) (N : Int) false rfl rfl rfl rfl hd ?_; go_frame))
      go_ret
      exact ⟨rfl, hB⟩
theorem PieceReads_any {l : List UInt8} {v t : Value} {Ss : List (Int × Int × Nat)} (w : World) (hv : IsVals w v (l.map VB)) (ht : AreSteps w t Ss) (hSs : ∀ s ∈ Ss, s.2.1 < 9223372036854775808) : Calls Try.prog 5 #[v, t] w (SizesPost w) := by
  by_cases h : 500 < l.length ∨ 50 < Ss.length
  · exact PieceReads_out w hv ht h
  · exact PieceReads_in w hv ht (by omega) (by omega) hSs
end Go.Proofs.Ytalcopfhofijlaa
