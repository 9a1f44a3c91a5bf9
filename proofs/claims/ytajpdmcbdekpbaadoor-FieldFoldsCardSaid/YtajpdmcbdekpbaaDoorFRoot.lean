/-
  The walks of field's P, N, Inv and Root, and of the statements' own 'ring'.
-/
import Derived.Test.YtajpdmcbdekpbaaDoorFPow
import Derived.Test.YtajpdmcbdekpbaaDoorFieldPlain
namespace Go.Proofs.YtajpdmcbdekpbaaDoor
open Go Go.RowKit

/-- the program's variable k holds the number m -/
def Glob (k m : Nat) (w : World) : Prop := ∀ j, j < 4 → w.cell? ⟨k, j, none⟩ = some (.int .u64 (limb m j : Int))
theorem Glob.below {k m : Nat} {w w' : World} (h : Glob k m w) (hb : Below w.heap.size w w') : Glob k m w' := fun j hj => by
  have := h j hj
  rw [hb.cell (block_lt_of_cell this)]; exact this
theorem Glob.mem {k m : Nat} {w0 w : World} {l : List (Nat × Nat)} (h : Glob k m w0) (hM : Mem w0 w l) : Glob k m w := h.below hM.below
section
variable {ops : Array Oper} {Q : Exit → Act → World → Prop} {rest : List Oper} {o : Oper} {a : Act} {w : World}
theorem run_loadG {k m : Nat} (hG : Glob k m w) : (loadVar 25 ⟨k, 0, none⟩).run Tryd.prog w = .ok (.agg (wcells m)) w := by
  have hl : (loadCells ⟨k, 0, none⟩ (wcells m).toList.length).run Tryd.prog w = .ok (wcells m).toList.toArray w :=
    run_loadCells_list (P := Tryd.prog) w ⟨k, 0, none⟩ (wcells m).toList (fun j v hv => by
      rw [add_none, Nat.zero_add]
      have hv' : (wcells m)[j]? = some v := by rw [← Array.getElem?_toList]; exact hv
      have hj : j < 4 := by
        rcases Nat.lt_or_ge j 4 with h | h
        · exact h
        · rw [Array.getElem?_eq_none (by rw [wcells_size]; exact h)] at hv'; cases hv'
      rw [wcells_get m j hj] at hv'
      rw [hG j hj]; exact hv')
  have hi := info_Wide
  cases hq : Tryd.prog.info? 25 with
  | none => rw [hq] at hi; cases hi
  | some i =>
    have hs : i.size = 4 := by simpa [hq] using hi
    rw [Array.length_toList, wcells_size, Array.toArray_toList] at hl
    simp [loadVar, Sem.run_bind, run_isAgg Tryd.underlying25, aggDesc, sizeOf, typeInfo, hq, hs, hl]
theorem kLoadG (x : Operand) (k m : Nat) (ho : o.op = .load 25 x) (hg : Region.wanted o (yielded ops a.tmps) = true) (hx : a.eval x = .pointer (some ⟨k, 0, none⟩)) (hG : Glob k m w)
    (h : wpList Tryd.prog ops Q rest (a.put o.dst (.agg (wcells m))) w) : wpList Tryd.prog ops Q (o :: rest) a w :=
  kPure _ hg (by unfold execOp; simp only [ho, hx, Instr.loadAt, Instr.sureAddr, Sem.run_bind, Sem.run_pure, Result.andThen_ok, run_loadG hG]) h
theorem built_ring (v0 v1 v2 v3 : Value) : Tryd.prog.built 54 [(0, .agg #[v0, v1, v2, v3])] = some #[v0, v1, v2, v3] := by kernel_rfl
theorem wcells_lit (n : Nat) : wcells n = #[.int .u64 (limb n 0 : Int), .int .u64 (limb n 1 : Int), .int .u64 (limb n 2 : Int), .int .u64 (limb n 3 : Int)] := rfl
theorem kBuildRing (x : Operand) (n : Nat) (ho : o.op = .build 54 #[(0, x)]) (hg : Region.wanted o (yielded ops a.tmps) = true) (hx : a.eval x = .agg (wcells n))
    (h : wpList Tryd.prog ops Q rest (a.put o.dst (.agg (wcells n))) w) : wpList Tryd.prog ops Q (o :: rest) a w := by
  refine kPure _ hg ?_ h
  unfold execOp
  simp only [ho, Sem.run_bind]
  have := run_build w 54 #[(0, .agg (wcells n))] (wcells n) (by rw [wcells_lit]; exact built_ring _ _ _ _)
  simp [hx, this]
end
theorem modu_P : Modu PP := ⟨by decide, by decide⟩
theorem modu_N : Modu NN := ⟨by decide, by decide⟩
set_option maxRecDepth 100000 in
set_option maxHeartbeats 4000000 in
theorem fP_any (m : Nat) (w : World) (hG : Glob 0 m w) :
    Calls Tryd.prog 11 #[] w fun e w' => e = .returned (.pointer (some ⟨w.heap.size, 0, none⟩)) ∧ Row w' w.heap.size 54 (wcells m) ∧ Below w.heap.size w w' := by
  go_enter Tryd.func11, Tryd.ntmps11
  go_wp2_with (first
    | ((with_reducible change wpList _ _ _ (Oper.mk (some 1) _ _ _ _ _ :: _) _ _); refine kLoadG _ _ _ rfl rfl rfl hG ?_; go_frame)
    | ((with_reducible change wpList _ _ _ (Oper.mk (some 2) _ _ _ _ _ :: _) _ _); refine kBuildRing _ m rfl rfl rfl ?_; go_frame)
    | ((with_reducible change wpList _ _ _ (Oper.mk (some 3) _ _ _ _ _ :: _) _ _); refine kBoxL _ _ _ rfl rfl rfl ?_; intro w1 hR1 hl1 hB1; go_frame))
  go_ret
  exact ⟨rfl, hR1, hB1⟩
set_option maxRecDepth 100000 in
set_option maxHeartbeats 4000000 in
theorem fN_any (m : Nat) (w : World) (hG : Glob 1 m w) :
    Calls Tryd.prog 14 #[] w fun e w' => e = .returned (.pointer (some ⟨w.heap.size, 0, none⟩)) ∧ Row w' w.heap.size 54 (wcells m) ∧ Below w.heap.size w w' := by
  go_enter Tryd.func14, Tryd.ntmps14
  go_wp2_with (first
    | ((with_reducible change wpList _ _ _ (Oper.mk (some 1) _ _ _ _ _ :: _) _ _); refine kLoadG _ _ _ rfl rfl rfl hG ?_; go_frame)
    | ((with_reducible change wpList _ _ _ (Oper.mk (some 2) _ _ _ _ _ :: _) _ _); refine kBuildRing _ m rfl rfl rfl ?_; go_frame)
    | ((with_reducible change wpList _ _ _ (Oper.mk (some 3) _ _ _ _ _ :: _) _ _); refine kBoxL _ _ _ rfl rfl rfl ?_; intro w1 hR1 hl1 hB1; go_frame))
  go_ret
  exact ⟨rfl, hR1, hB1⟩
set_option maxRecDepth 100000 in
set_option maxHeartbeats 4000000 in
theorem ring_true (m : Nat) (w : World) (hG : Glob 0 m w) :
    Calls Tryd.prog 19 #[.bool true] w fun e w' => e = .returned (.pointer (some ⟨w.heap.size, 0, none⟩)) ∧ Row w' w.heap.size 54 (wcells m) ∧ Below w.heap.size w w' := by
  go_enter Tryd.func19, Tryd.ntmps19
  go_wp2_with (first
    | (go_at_call 11; refine (fP_any m _ hG).mono ?_; rintro e w1 ⟨rfl, hR1, hB1⟩; go_frame))
  go_ret
  exact ⟨rfl, hR1, hB1⟩
set_option maxRecDepth 100000 in
set_option maxHeartbeats 4000000 in
theorem ring_false (m : Nat) (w : World) (hG : Glob 1 m w) :
    Calls Tryd.prog 19 #[.bool false] w fun e w' => e = .returned (.pointer (some ⟨w.heap.size, 0, none⟩)) ∧ Row w' w.heap.size 54 (wcells m) ∧ Below w.heap.size w w' := by
  go_enter Tryd.func19, Tryd.ntmps19
  go_wp2_with (first
    | (go_at_call 14; refine (fN_any m _ hG).mono ?_; rintro e w1 ⟨rfl, hR1, hB1⟩; go_frame))
  go_ret
  exact ⟨rfl, hR1, hB1⟩
set_option maxRecDepth 100000 in
set_option maxHeartbeats 4000000 in
theorem fInv_zero {m : Nat} (hm : Modu m) (a : Nat) (g : Nat) (ma : a < M256) (h0 : a % m = 0) (w : World) (hr : Row w g 54 (wcells m)) :
    Calls Tryd.prog 12 #[.pointer (some ⟨g, 0, none⟩), WV a] w fun e w' => e = .returned (.tuple #[WV 0, .int .i64 31]) ∧ Below w.heap.size w w' := by
  have hM0 := mem_nil w
  unfold WV
  go_enter Tryd.func12, Tryd.ntmps12
  go_wp2_with (first
    | ((with_reducible change wpList _ _ _ (Oper.mk (some 3) _ _ _ _ _ :: _) _ _); refine mBox hM0 _ _ rfl rfl rfl ?_; intro w1 hM1; clear hM0; go_frame)
    | ((with_reducible change wpList _ _ _ (Oper.mk (some 4) _ _ _ _ _ :: _) _ _); refine mAlloc hM1 rfl rfl ?_; intro w2 hM2; clear hM1; go_frame)
    | ((with_reducible change wpList _ _ _ (Oper.mk (some 9) _ _ _ _ _ :: _) _ _); refine mLoad hM2 1 _ _ _ rfl rfl rfl rfl ?_; go_frame)
    | (go_at_call 37; (with_reducible change Calls _ _ #[Value.pointer (some ⟨g, 0, none⟩), Value.agg (wcells a)] _ _); refine (fonce_as hm g ma h0 _ (hr.below hM2.below hr.lt)).mono ?_; rintro e w3 ⟨rfl, hB3⟩; have hM3 := hM2.on hB3; clear hB3 hM2; (try unfold WV); go_frame)
    | ((with_reducible change wpList _ _ _ (Oper.mk (some 11) _ _ _ _ _ :: _) _ _); refine kBuildW0 rfl rfl ?_; go_frame)
    | ((with_reducible change wpList _ _ _ (Oper.mk (some 12) _ _ _ _ _ :: _) _ _); refine kEqlW _ _ _ (0) (0) true rfl rfl rfl rfl (by simp) ?_; go_frame)
    | ((with_reducible change wpList _ _ _ (Oper.mk (some 13) _ _ _ _ _ :: _) _ _); refine kBuildW0 rfl rfl ?_; go_frame)
    | ((with_reducible change wpList _ _ _ (Oper.mk none (Op.store _ (Operand.tmp 4) (Operand.tmp 13)) _ _ _ _ :: _) _ _); refine mStoreAt hM3 0 _ _ _ _ (0) rfl rfl rfl rfl rfl ?_; intro w4 hM4; dsimp only [List.set] at hM4; clear hM3; go_frame))
  exact result_row_tmp Tryd.results12 rfl rfl (hM4.get 0 rfl) Tryd.underlying25 rfl (info_WideC _) rfl ⟨rfl, hM4.below⟩
set_option maxRecDepth 100000 in
set_option maxHeartbeats 4000000 in
theorem fInv_pos {m : Nat} (hm : Modu m) (a : Nat) (g : Nat) (ma : a < M256) (h0 : a % m ≠ 0) (w : World) (hr : Row w g 54 (wcells m)) :
    Calls Tryd.prog 12 #[.pointer (some ⟨g, 0, none⟩), WV a] w fun e w' => e = .returned (.tuple #[WV (a ^ (m - 2) % m), .int .i64 0]) ∧ Below w.heap.size w w' := by
  obtain ⟨n2, H2⟩ : ∃ n, Hid (n = 2) := ⟨2, Lib.hid rfl⟩
  have h2 : n2 < 18446744073709551616 := by rw [H2.out]; decide
  have mn2 : n2 < M256 := by rw [H2.out]; decide
  have E2 : (2 : Int) = (n2 : Int) := by rw [H2.out]; rfl
  replace E2 := Lib.hid E2
  obtain ⟨x, Hx⟩ : ∃ x, Hid (a % m = x) := ⟨_, Lib.hid rfl⟩
  have mx : x < M256 := by rw [← Hx.out]; exact hm.mod _
  have D := Lib.hid (show decide (x % M256 = 0 % M256) = false by rw [Nat.mod_eq_of_lt mx, ← Hx.out, Nat.zero_mod]; exact decide_eq_false h0)
  obtain ⟨k, Hk⟩ : ∃ k, Hid (k = m - 2) := ⟨_, Lib.hid rfl⟩
  have hs : m = k + n2 := by rw [Hk.out, H2.out]; have := hm.gt; have : 4 < M256 := by decide
                             omega
  replace hs := Lib.hid hs
  have mk : k < M256 := by rw [Hk.out]; have := hm.lt; omega
  rw [← Hk.out]
  clear h0
  have hM0 := mem_nil w
  unfold WV
  go_enter Tryd.func12, Tryd.ntmps12
  go_wp2_with (first
    | ((with_reducible change wpList _ _ _ (Oper.mk (some 3) _ _ _ _ _ :: _) _ _); refine mBox hM0 _ _ rfl rfl rfl ?_; intro w1 hM1; clear hM0; go_frame)
    | ((with_reducible change wpList _ _ _ (Oper.mk (some 4) _ _ _ _ _ :: _) _ _); refine mAlloc hM1 rfl rfl ?_; intro w2 hM2; clear hM1; go_frame)
    | ((with_reducible change wpList _ _ _ (Oper.mk (some 9) _ _ _ _ _ :: _) _ _); refine mLoad hM2 1 _ _ _ rfl rfl rfl rfl ?_; go_frame)
    | (go_at_call 37; (with_reducible change Calls _ _ #[Value.pointer (some ⟨g, 0, none⟩), Value.agg (wcells a)] _ _); refine (fonce_as hm g ma Hx.out _ (hr.below hM2.below hr.lt)).mono ?_; rintro e w3 ⟨rfl, hB3⟩; have hM3 := hM2.on hB3; clear hB3 hM2; (try unfold WV); go_frame)
    | ((with_reducible change wpList _ _ _ (Oper.mk (some 11) _ _ _ _ _ :: _) _ _); refine kBuildW0 rfl rfl ?_; go_frame)
    | ((with_reducible change wpList _ _ _ (Oper.mk (some 12) _ _ _ _ _ :: _) _ _); refine kEqlW _ _ _ (x) (0) false rfl rfl rfl rfl (D.out) ?_; go_frame))
  refine region_sym (fun _ => 9) [.val (.pointer (some ⟨g, 0, none⟩)), .val (.pointer (some ⟨g, 0, none⟩)), .val (.pointer (some ⟨g, 0, none⟩)), .val (.agg (wcells m)), .val (.agg (wcells n2)), .val (.tuple #[.agg (wcells k), .bool false]), .val (.tuple #[.agg (wcells k), .bool false]), .val (.agg (wcells k)), .val (.bool false), .fresh w3.heap.size 25 4, .hold w3.heap.size 25 (wcells (k)), .val (.bool false)] [.val (.pointer (some ⟨g, 0, none⟩)), .val (.pointer (some ⟨g, 0, none⟩)), .val (.pointer (some ⟨g, 0, none⟩)), .val (.agg (wcells m)), .val (.agg (wcells n2)), .val (.tuple #[.agg (wcells k), .bool false]), .val (.tuple #[.agg (wcells k), .bool false]), .val (.agg (wcells k)), .val (.bool false), .hold w3.heap.size 25 (wcells (k)), .val undef, .val (.bool false)] (by kernel_rfl) (by kernel_rfl) rfl rfl (steps_all ⟨?_, ?_, ?_, ?_, ?_, ?_, ?_, ?_, ?_, ?_, ?_, ?_, trivial⟩) ?_
  · intro A W hsz hoth hbel hdep
    exact kMoveV _ (.pointer (some ⟨g, 0, none⟩)) rfl rfl ((hoth 0 (free2_of (by kernel_rfl))).trans rfl) (symV hbel hsz rfl rfl (show 15 < 27 by decide) (Below.refl _ _) rfl)
  · intro A W hsz hoth hbel hdep
    exact kNilCheck _ _ rfl rfl (by have h := hdep ⟨0, .data⟩ (by simp) rfl; exact h) (symV hbel hsz rfl rfl (show 16 < 27 by decide) (Below.refl _ _) rfl)
  · intro A W hsz hoth hbel hdep
    exact kFieldRing _ _ rfl rfl (by have h := hdep ⟨1, .data⟩ (by simp) rfl; exact h) (symV hbel hsz rfl rfl (show 17 < 27 by decide) (Below.refl _ _) rfl)
  · intro A W hsz hoth hbel hdep
    exact kLoadRow _ _ _ _ _ _ rfl rfl (by have h := hdep ⟨2, .data⟩ (by simp) rfl; exact h) ((hr.below hM3.below hr.lt).below hbel (hr.below hM3.below hr.lt).lt) Tryd.underlying25 rfl (info_WideC _) (symV hbel hsz rfl rfl (show 18 < 27 by decide) (Below.refl _ _) rfl)
  · intro A W hsz hoth hbel hdep
    refine kCall1 16 _ _ _ rfl rfl (by kernel_rfl) rfl ?_
    refine (wOf_lit n2 2 h2 E2.out W).mono ?_
    rintro e r ⟨rfl, hBc⟩
    exact ⟨_, rfl, (symV hbel hsz rfl rfl (show 19 < 27 by decide) hBc rfl)⟩
  · intro A W hsz hoth hbel hdep
    refine kCall2 38 _ _ _ _ _ rfl rfl (by kernel_rfl) (by have h := hdep ⟨3, .data⟩ (by simp) rfl; exact h) (by have h := hdep ⟨4, .data⟩ (by simp) rfl; exact h) ?_
    refine (wSub_fits hm.lt mn2 hs.out W).mono ?_
    rintro e r ⟨rfl, hBc⟩
    exact ⟨_, rfl, (symV hbel hsz rfl rfl (show 20 < 27 by decide) hBc rfl)⟩
  · intro A W hsz hoth hbel hdep
    exact kMoveV _ (.tuple #[.agg (wcells k), .bool false]) rfl rfl (by have h := hdep ⟨5, .data⟩ (by simp) rfl; exact h) (symV hbel hsz rfl rfl (show 14 < 27 by decide) (Below.refl _ _) rfl)
  · intro A W hsz hoth hbel hdep
    exact kExtract _ _ _ (.agg (wcells k)) rfl rfl (by have h := hdep ⟨6, .data⟩ (by simp) rfl; exact h) rfl (symV hbel hsz rfl rfl (show 21 < 27 by decide) (Below.refl _ _) rfl)
  · intro A W hsz hoth hbel hdep
    exact kExtract _ _ _ (.bool false) rfl rfl (by have h := hdep ⟨6, .data⟩ (by simp) rfl; exact h) rfl (symV hbel hsz rfl rfl (show 22 < 27 by decide) (Below.refl _ _) rfl)
  · intro A W hsz hoth hbel hdep
    refine kAllocL _ _ rfl rfl zero_Wide ?_
    intro r hR hl hBc
    exact (symV hbel hsz rfl rfl (show 6 < 27 by decide) hBc ⟨_, _, rfl, hbel.size, wcells_size _, hR⟩)
  · intro A W hsz hoth hbel hdep
    obtain ⟨g, cs, d8, hg, hcs, hR⟩ : ∃ g cs, A.tmps.getD 6 undef = .pointer (some ⟨g, 0, none⟩) ∧ w3.heap.size ≤ g ∧ cs.size = 4 ∧ Row W g 25 cs := (by have h := hdep ⟨9, .data⟩ (by simp) rfl; exact h)
    refine kStoreRow _ _ _ _ _ _ (wcells (k)) rfl rfl d8 (by have h := hdep ⟨7, .data⟩ (by simp) rfl; exact h) hR (info_WideC _) (by rw [wcells_size, hcs]) (wcells_one _) ?_
    intro r hR2 hW
    exact symW hbel rfl hW hg hR2 (by simp only [Singles, and_self, wcells_size]) ⟨g, d8, hg, hR2⟩
  · intro A W hsz hoth hbel hdep
    exact kAssignV _ (.bool false) rfl rfl (by have h := hdep ⟨8, .data⟩ (by simp) rfl; exact h) (symV hbel hsz rfl rfl (show 7 < 27 by decide) (Below.refl _ _) rfl)
  intro w4 hB4
  dsimp only [AllV]
  intro g4 hg4 hR4
  dsimp only [putAll]
  go_frame
  have hM4 := hM3.add hB4 hg4 hR4; clear hB4 hg4 hR4 hM3
  go_wp2_with (first
    | ((with_reducible change wpList _ _ _ (Oper.mk (some 24) _ _ _ _ _ :: _) _ _); refine mLoad hM4 2 _ _ _ rfl rfl rfl rfl ?_; go_frame)
    | ((with_reducible change wpList _ _ _ (Oper.mk (some 25) _ _ _ _ _ :: _) _ _); refine mLoad hM4 0 _ _ _ rfl rfl rfl rfl ?_; go_frame)
    | (go_at_call 32; (with_reducible change Calls _ _ #[Value.pointer (some ⟨g, 0, none⟩), Value.agg (wcells a), Value.agg (wcells k)] _ _); refine (fPow_any hm a k g ma mk _ (hr.below hM4.below hr.lt)).mono ?_; rintro e w5 ⟨rfl, hB5⟩; have hM5 := hM4.on hB5; clear hB5 hM4; (try unfold WV); go_frame)
    | ((with_reducible change wpList _ _ _ (Oper.mk none (Op.store _ (Operand.tmp 4) (Operand.tmp 26)) _ _ _ _ :: _) _ _); refine mStoreAt hM5 1 _ _ _ _ (a ^ k % m) rfl rfl rfl rfl rfl ?_; intro w6 hM6; dsimp only [List.set] at hM6; clear hM5; go_frame))
  exact result_row_tmp Tryd.results12 rfl rfl (hM6.get 1 rfl) Tryd.underlying25 rfl (info_WideC _) rfl ⟨rfl, hM6.below⟩
set_option maxRecDepth 100000 in
set_option maxHeartbeats 4000000 in
theorem fRoot_other {m : Nat} (hm : Modu m) (a : Nat) (pp : Nat) (g : Nat) (_ma : a < M256) (mpp : pp < M256) (w : World) (hr : Row w g 54 (wcells m)) (hG : Glob 0 pp w) (hne : m ≠ pp) :
    Calls Tryd.prog 15 #[.pointer (some ⟨g, 0, none⟩), WV a] w fun e w' => e = .returned (.tuple #[WV 0, .int .i64 31]) ∧ Below w.heap.size w w' := by
  have D := Lib.hid (show (!decide (m % M256 = pp % M256)) = true by rw [Nat.mod_eq_of_lt hm.lt, Nat.mod_eq_of_lt mpp]; simpa using hne)
  clear hne
  have hM0 := mem_nil w
  unfold WV
  go_enter Tryd.func15, Tryd.ntmps15
  go_wp2_with (first
    | ((with_reducible change wpList _ _ _ (Oper.mk (some 3) _ _ _ _ _ :: _) _ _); refine mBox hM0 _ _ rfl rfl rfl ?_; intro w1 hM1; clear hM0; go_frame)
    | ((with_reducible change wpList _ _ _ (Oper.mk (some 4) _ _ _ _ _ :: _) _ _); refine mAlloc hM1 rfl rfl ?_; intro w2 hM2; clear hM1; go_frame))
  refine region_sym (fun _ => 0) [.val (.pointer (some ⟨g, 0, none⟩)), .val (.pointer (some ⟨g, 0, none⟩)), .val (.pointer (some ⟨g, 0, none⟩)), .val (.agg (wcells m)), .val (.agg (wcells pp)), .val (.bool true)] [.val (.pointer (some ⟨g, 0, none⟩)), .val (.pointer (some ⟨g, 0, none⟩)), .val (.pointer (some ⟨g, 0, none⟩)), .val (.agg (wcells m)), .val (.agg (wcells pp)), .val (.bool true)] (by kernel_rfl) (by kernel_rfl) rfl rfl (steps_all ⟨?_, ?_, ?_, ?_, ?_, ?_, trivial⟩) ?_
  · intro A W hsz hoth hbel hdep
    exact kMoveV _ (.pointer (some ⟨g, 0, none⟩)) rfl rfl ((hoth 0 (free2_of (by kernel_rfl))).trans rfl) (symV hbel hsz rfl rfl (show 9 < 48 by decide) (Below.refl _ _) rfl)
  · intro A W hsz hoth hbel hdep
    exact kNilCheck _ _ rfl rfl (by have h := hdep ⟨0, .data⟩ (by simp) rfl; exact h) (symV hbel hsz rfl rfl (show 10 < 48 by decide) (Below.refl _ _) rfl)
  · intro A W hsz hoth hbel hdep
    exact kFieldRing _ _ rfl rfl (by have h := hdep ⟨1, .data⟩ (by simp) rfl; exact h) (symV hbel hsz rfl rfl (show 11 < 48 by decide) (Below.refl _ _) rfl)
  · intro A W hsz hoth hbel hdep
    exact kLoadRow _ _ _ _ _ _ rfl rfl (by have h := hdep ⟨2, .data⟩ (by simp) rfl; exact h) ((hr.below hM2.below hr.lt).below hbel (hr.below hM2.below hr.lt).lt) Tryd.underlying25 rfl (info_WideC _) (symV hbel hsz rfl rfl (show 12 < 48 by decide) (Below.refl _ _) rfl)
  · intro A W hsz hoth hbel hdep
    exact kLoadG _ _ _ rfl rfl rfl ((hG.mem hM2).below hbel) (symV hbel hsz rfl rfl (show 13 < 48 by decide) (Below.refl _ _) rfl)
  · intro A W hsz hoth hbel hdep
    exact kNeqW _ _ _ (m) (pp) true rfl rfl (by have h := hdep ⟨3, .data⟩ (by simp) rfl; exact h) (by have h := hdep ⟨4, .data⟩ (by simp) rfl; exact h) (D.out) (symV hbel hsz rfl rfl (show 14 < 48 by decide) (Below.refl _ _) rfl)
  intro w3 hB3
  dsimp only [AllV]
  dsimp only [putAll]
  go_frame
  have hM3 := hM2.on hB3; clear hB3 hM2
  go_wp2_with (first
    | ((with_reducible change wpList _ _ _ (Oper.mk (some 15) _ _ _ _ _ :: _) _ _); refine kBuildW0 rfl rfl ?_; go_frame)
    | ((with_reducible change wpList _ _ _ (Oper.mk none (Op.store _ (Operand.tmp 4) (Operand.tmp 15)) _ _ _ _ :: _) _ _); refine mStoreAt hM3 0 _ _ _ _ (0) rfl rfl rfl rfl rfl ?_; intro w4 hM4; dsimp only [List.set] at hM4; clear hM3; go_frame))
  exact result_row_tmp Tryd.results15 rfl rfl (hM4.get 0 rfl) Tryd.underlying25 rfl (info_WideC _) rfl ⟨rfl, hM4.below⟩
theorem fPow_as {m a n x : Nat} (hm : Modu m) (g : Nat) (ma : a < M256) (mn : n < M256) (h : a ^ n % m = x) (w : World) (hr : Row w g 54 (wcells m)) :
    Calls Tryd.prog 32 #[.pointer (some ⟨g, 0, none⟩), WV a, WV n] w fun e w' => e = .returned (WV x) ∧ Below w.heap.size w w' := by
  have h' := fPow_any hm a n g ma mn w hr
  rwa [h] at h'
theorem fSub_as {m a b x : Nat} (hm : Modu m) (g : Nat) (ma : a < M256) (mb : b < M256) (h : (a % m + m - b % m) % m = x) (w : World) (hr : Row w g 54 (wcells m)) :
    Calls Tryd.prog 23 #[.pointer (some ⟨g, 0, none⟩), WV a, WV b] w fun e w' => e = .returned (WV x) ∧ Below w.heap.size w w' := by
  have h' := fSub_any hm a b g ma mb w hr
  rwa [h] at h'
theorem wRight_as (a k c : Nat) (ma : a < M256) {z : Int} (h : a / 2 ^ c = k) (w : World) (hz : z = (c : Int) := by rfl) (hc : c < 9223372036854775808 := by decide) :
    Calls Tryd.prog 36 #[WV a, .int .i64 z] w fun e w' => e = .returned (WV k) ∧ Below w.heap.size w w' := by
  subst hz
  have h' := wRight_any a (c : Int) ma (by omega) w
  rwa [Int.toNat_natCast, h] at h'
theorem limb0_rem (r : Nat) : (limb r 0 : Int) % 2 = ((r % 2 : Nat) : Int) := by
  unfold limb; rw [P64_zero, Nat.div_one]; omega
set_option maxRecDepth 100000 in
set_option maxHeartbeats 4000000 in
theorem fRoot_none {m : Nat} (hm : Modu m) (a : Nat) (g : Nat) (ma : a < M256) (w : World) (hr : Row w g 54 (wcells m)) (hG : Glob 0 m w) (hm1 : m + 1 < M256) {r : Nat} (hroot : a ^ ((m + 1) / 4) % m = r) (hno : r * r % m ≠ a % m) :
    Calls Tryd.prog 15 #[.pointer (some ⟨g, 0, none⟩), WV a] w fun e w' => e = .returned (.tuple #[WV 0, .int .i64 31]) ∧ Below w.heap.size w w' := by
  obtain ⟨n1, H1⟩ : ∃ n, Hid (n = 1) := ⟨1, Lib.hid rfl⟩
  have h1 : n1 < 18446744073709551616 := by rw [H1.out]; decide
  have mn1 : n1 < M256 := by rw [H1.out]; decide
  have E1 : (1 : Int) = (n1 : Int) := by rw [H1.out]; rfl
  replace E1 := Lib.hid E1
  obtain ⟨t, ht⟩ : ∃ t, Hid (m + n1 = t) := ⟨_, Lib.hid rfl⟩
  have mt : t < M256 := by rw [← ht.out, H1.out]; exact hm1
  obtain ⟨k, Hk⟩ : ∃ k, Hid (t / 2 ^ 2 = k) := ⟨_, Lib.hid rfl⟩
  have mk : k < M256 := by rw [← Hk.out]; exact Nat.lt_of_le_of_lt (Nat.div_le_self _ _) mt
  have Hkk := Lib.hid (show (m + 1) / 4 = k by rw [← Hk.out, ← ht.out, H1.out])
  rw [Hkk.out] at hroot
  obtain ⟨x, Hx⟩ : ∃ x, Hid (a % m = x) := ⟨_, Lib.hid rfl⟩
  have mx : x < M256 := by rw [← Hx.out]; exact hm.mod _
  obtain ⟨s, Hs⟩ : ∃ s, Hid (r * r % m = s) := ⟨_, Lib.hid rfl⟩
  have ms : s < M256 := by rw [← Hs.out]; exact hm.mod _
  have mr : r < M256 := by rw [← hroot]; exact hm.mod _
  have Hr := Lib.hid hroot
  clear hroot
  have D := Lib.hid (show (!decide (s % M256 = x % M256)) = true by rw [Nat.mod_eq_of_lt ms, Nat.mod_eq_of_lt mx, ← Hs.out, ← Hx.out]; simpa using hno)
  clear hno
  have hM0 := mem_nil w
  unfold WV
  go_enter Tryd.func15, Tryd.ntmps15
  go_wp2_with (first
    | ((with_reducible change wpList _ _ _ (Oper.mk (some 3) _ _ _ _ _ :: _) _ _); refine mBox hM0 _ _ rfl rfl rfl ?_; intro w1 hM1; clear hM0; go_frame)
    | ((with_reducible change wpList _ _ _ (Oper.mk (some 4) _ _ _ _ _ :: _) _ _); refine mAlloc hM1 rfl rfl ?_; intro w2 hM2; clear hM1; go_frame))
  refine region_sym (fun _ => 0) [.val (.pointer (some ⟨g, 0, none⟩)), .val (.pointer (some ⟨g, 0, none⟩)), .val (.pointer (some ⟨g, 0, none⟩)), .val (.agg (wcells m)), .val (.agg (wcells m)), .val (.bool false)] [.val (.pointer (some ⟨g, 0, none⟩)), .val (.pointer (some ⟨g, 0, none⟩)), .val (.pointer (some ⟨g, 0, none⟩)), .val (.agg (wcells m)), .val (.agg (wcells m)), .val (.bool false)] (by kernel_rfl) (by kernel_rfl) rfl rfl (steps_all ⟨?_, ?_, ?_, ?_, ?_, ?_, trivial⟩) ?_
  · intro A W hsz hoth hbel hdep
    exact kMoveV _ (.pointer (some ⟨g, 0, none⟩)) rfl rfl ((hoth 0 (free2_of (by kernel_rfl))).trans rfl) (symV hbel hsz rfl rfl (show 9 < 48 by decide) (Below.refl _ _) rfl)
  · intro A W hsz hoth hbel hdep
    exact kNilCheck _ _ rfl rfl (by have h := hdep ⟨0, .data⟩ (by simp) rfl; exact h) (symV hbel hsz rfl rfl (show 10 < 48 by decide) (Below.refl _ _) rfl)
  · intro A W hsz hoth hbel hdep
    exact kFieldRing _ _ rfl rfl (by have h := hdep ⟨1, .data⟩ (by simp) rfl; exact h) (symV hbel hsz rfl rfl (show 11 < 48 by decide) (Below.refl _ _) rfl)
  · intro A W hsz hoth hbel hdep
    exact kLoadRow _ _ _ _ _ _ rfl rfl (by have h := hdep ⟨2, .data⟩ (by simp) rfl; exact h) ((hr.below hM2.below hr.lt).below hbel (hr.below hM2.below hr.lt).lt) Tryd.underlying25 rfl (info_WideC _) (symV hbel hsz rfl rfl (show 12 < 48 by decide) (Below.refl _ _) rfl)
  · intro A W hsz hoth hbel hdep
    exact kLoadG _ _ _ rfl rfl rfl ((hG.mem hM2).below hbel) (symV hbel hsz rfl rfl (show 13 < 48 by decide) (Below.refl _ _) rfl)
  · intro A W hsz hoth hbel hdep
    exact kNeqW _ _ _ (m) (m) false rfl rfl (by have h := hdep ⟨3, .data⟩ (by simp) rfl; exact h) (by have h := hdep ⟨4, .data⟩ (by simp) rfl; exact h) (by simp) (symV hbel hsz rfl rfl (show 14 < 48 by decide) (Below.refl _ _) rfl)
  intro w3 hB3
  dsimp only [AllV]
  dsimp only [putAll]
  go_frame
  have hM3 := hM2.on hB3; clear hB3 hM2
  go_wp2_with fail
  refine region_sym (fun _ => 9) [.val (.pointer (some ⟨g, 0, none⟩)), .val (.pointer (some ⟨g, 0, none⟩)), .val (.pointer (some ⟨g, 0, none⟩)), .val (.agg (wcells m)), .val (.agg (wcells n1)), .val (.tuple #[.agg (wcells t), .bool false]), .val (.tuple #[.agg (wcells t), .bool false]), .val (.agg (wcells t)), .val (.bool false), .fresh w3.heap.size 25 4, .hold w3.heap.size 25 (wcells (t)), .val (.bool false)] [.val (.pointer (some ⟨g, 0, none⟩)), .val (.pointer (some ⟨g, 0, none⟩)), .val (.pointer (some ⟨g, 0, none⟩)), .val (.agg (wcells m)), .val (.agg (wcells n1)), .val (.tuple #[.agg (wcells t), .bool false]), .val (.tuple #[.agg (wcells t), .bool false]), .val (.agg (wcells t)), .val (.bool false), .hold w3.heap.size 25 (wcells (t)), .val undef, .val (.bool false)] (by kernel_rfl) (by kernel_rfl) rfl rfl (steps_all ⟨?_, ?_, ?_, ?_, ?_, ?_, ?_, ?_, ?_, ?_, ?_, ?_, trivial⟩) ?_
  · intro A W hsz hoth hbel hdep
    exact kMoveV _ (.pointer (some ⟨g, 0, none⟩)) rfl rfl ((hoth 0 (free2_of (by kernel_rfl))).trans rfl) (symV hbel hsz rfl rfl (show 17 < 48 by decide) (Below.refl _ _) rfl)
  · intro A W hsz hoth hbel hdep
    exact kNilCheck _ _ rfl rfl (by have h := hdep ⟨0, .data⟩ (by simp) rfl; exact h) (symV hbel hsz rfl rfl (show 18 < 48 by decide) (Below.refl _ _) rfl)
  · intro A W hsz hoth hbel hdep
    exact kFieldRing _ _ rfl rfl (by have h := hdep ⟨1, .data⟩ (by simp) rfl; exact h) (symV hbel hsz rfl rfl (show 19 < 48 by decide) (Below.refl _ _) rfl)
  · intro A W hsz hoth hbel hdep
    exact kLoadRow _ _ _ _ _ _ rfl rfl (by have h := hdep ⟨2, .data⟩ (by simp) rfl; exact h) ((hr.below hM3.below hr.lt).below hbel (hr.below hM3.below hr.lt).lt) Tryd.underlying25 rfl (info_WideC _) (symV hbel hsz rfl rfl (show 20 < 48 by decide) (Below.refl _ _) rfl)
  · intro A W hsz hoth hbel hdep
    refine kCall1 16 _ _ _ rfl rfl (by kernel_rfl) rfl ?_
    refine (wOf_lit n1 1 h1 E1.out W).mono ?_
    rintro e r ⟨rfl, hBc⟩
    exact ⟨_, rfl, (symV hbel hsz rfl rfl (show 21 < 48 by decide) hBc rfl)⟩
  · intro A W hsz hoth hbel hdep
    refine kCall2 35 _ _ _ _ _ rfl rfl (by kernel_rfl) (by have h := hdep ⟨3, .data⟩ (by simp) rfl; exact h) (by have h := hdep ⟨4, .data⟩ (by simp) rfl; exact h) ?_
    refine (wAdd_fits hm.lt mn1 ht.out mt W).mono ?_
    rintro e r ⟨rfl, hBc⟩
    exact ⟨_, rfl, (symV hbel hsz rfl rfl (show 22 < 48 by decide) hBc rfl)⟩
  · intro A W hsz hoth hbel hdep
    exact kMoveV _ (.tuple #[.agg (wcells t), .bool false]) rfl rfl (by have h := hdep ⟨5, .data⟩ (by simp) rfl; exact h) (symV hbel hsz rfl rfl (show 16 < 48 by decide) (Below.refl _ _) rfl)
  · intro A W hsz hoth hbel hdep
    exact kExtract _ _ _ (.agg (wcells t)) rfl rfl (by have h := hdep ⟨6, .data⟩ (by simp) rfl; exact h) rfl (symV hbel hsz rfl rfl (show 23 < 48 by decide) (Below.refl _ _) rfl)
  · intro A W hsz hoth hbel hdep
    exact kExtract _ _ _ (.bool false) rfl rfl (by have h := hdep ⟨6, .data⟩ (by simp) rfl; exact h) rfl (symV hbel hsz rfl rfl (show 24 < 48 by decide) (Below.refl _ _) rfl)
  · intro A W hsz hoth hbel hdep
    refine kAllocL _ _ rfl rfl zero_Wide ?_
    intro r hR hl hBc
    exact (symV hbel hsz rfl rfl (show 6 < 48 by decide) hBc ⟨_, _, rfl, hbel.size, wcells_size _, hR⟩)
  · intro A W hsz hoth hbel hdep
    obtain ⟨g, cs, d8, hg, hcs, hR⟩ : ∃ g cs, A.tmps.getD 6 undef = .pointer (some ⟨g, 0, none⟩) ∧ w3.heap.size ≤ g ∧ cs.size = 4 ∧ Row W g 25 cs := (by have h := hdep ⟨9, .data⟩ (by simp) rfl; exact h)
    refine kStoreRow _ _ _ _ _ _ (wcells (t)) rfl rfl d8 (by have h := hdep ⟨7, .data⟩ (by simp) rfl; exact h) hR (info_WideC _) (by rw [wcells_size, hcs]) (wcells_one _) ?_
    intro r hR2 hW
    exact symW hbel rfl hW hg hR2 (by simp only [Singles, and_self, wcells_size]) ⟨g, d8, hg, hR2⟩
  · intro A W hsz hoth hbel hdep
    exact kAssignV _ (.bool false) rfl rfl (by have h := hdep ⟨8, .data⟩ (by simp) rfl; exact h) (symV hbel hsz rfl rfl (show 7 < 48 by decide) (Below.refl _ _) rfl)
  intro w4 hB4
  dsimp only [AllV]
  intro g4 hg4 hR4
  dsimp only [putAll]
  go_frame
  have hM4 := hM3.add hB4 hg4 hR4; clear hB4 hg4 hR4 hM3
  go_wp2_with fail
  refine region_sym (fun _ => 5) [.val (.pointer (some ⟨g, 0, none⟩)), .val (.agg (wcells a)), .val (.agg (wcells t)), .val (.agg (wcells k)), .val (.agg (wcells r)), .fresh w4.heap.size 25 4, .hold w4.heap.size 25 (wcells (r))] [.val (.pointer (some ⟨g, 0, none⟩)), .val (.agg (wcells a)), .val (.agg (wcells t)), .val (.agg (wcells k)), .val (.agg (wcells r)), .hold w4.heap.size 25 (wcells (r)), .val undef] (by kernel_rfl) (by kernel_rfl) rfl rfl (steps_all ⟨?_, ?_, ?_, ?_, ?_, ?_, ?_, trivial⟩) ?_
  · intro A W hsz hoth hbel hdep
    exact kMoveV _ (.pointer (some ⟨g, 0, none⟩)) rfl rfl ((hoth 0 (free2_of (by kernel_rfl))).trans rfl) (symV hbel hsz rfl rfl (show 25 < 48 by decide) (Below.refl _ _) rfl)
  · intro A W hsz hoth hbel hdep
    exact kLoadRow _ _ _ _ _ _ rfl rfl ((hoth 3 (free2_of (by kernel_rfl))).trans rfl) ((hM4.get 2 rfl).below hbel (hM4.get 2 rfl).lt) Tryd.underlying25 rfl (info_WideC _) (symV hbel hsz rfl rfl (show 26 < 48 by decide) (Below.refl _ _) rfl)
  · intro A W hsz hoth hbel hdep
    exact kLoadRow _ _ _ _ _ _ rfl rfl ((hoth 6 (free2_of (by kernel_rfl))).trans rfl) ((hM4.get 0 rfl).below hbel (hM4.get 0 rfl).lt) Tryd.underlying25 rfl (info_WideC _) (symV hbel hsz rfl rfl (show 27 < 48 by decide) (Below.refl _ _) rfl)
  · intro A W hsz hoth hbel hdep
    refine kCall2 36 _ _ _ _ _ rfl rfl (by kernel_rfl) (by have h := hdep ⟨2, .data⟩ (by simp) rfl; exact h) rfl ?_
    refine (wRight_as t k 2 mt Hk.out W).mono ?_
    rintro e r ⟨rfl, hBc⟩
    exact ⟨_, rfl, (symV hbel hsz rfl rfl (show 28 < 48 by decide) hBc rfl)⟩
  · intro A W hsz hoth hbel hdep
    refine kCall3 32 _ _ _ _ _ _ _ rfl rfl (by kernel_rfl) (by have h := hdep ⟨0, .data⟩ (by simp) rfl; exact h) (by have h := hdep ⟨1, .data⟩ (by simp) rfl; exact h) (by have h := hdep ⟨3, .data⟩ (by simp) rfl; exact h) ?_
    refine (fPow_as hm g ma mk Hr.out W ((hr.below hM4.below hr.lt).below hbel (hr.below hM4.below hr.lt).lt)).mono ?_
    rintro e r ⟨rfl, hBc⟩
    exact ⟨_, rfl, (symV hbel hsz rfl rfl (show 29 < 48 by decide) hBc rfl)⟩
  · intro A W hsz hoth hbel hdep
    refine kAllocL _ _ rfl rfl zero_Wide ?_
    intro r hR hl hBc
    exact (symV hbel hsz rfl rfl (show 8 < 48 by decide) hBc ⟨_, _, rfl, hbel.size, wcells_size _, hR⟩)
  · intro A W hsz hoth hbel hdep
    obtain ⟨g, cs, d8, hg, hcs, hR⟩ : ∃ g cs, A.tmps.getD 8 undef = .pointer (some ⟨g, 0, none⟩) ∧ w4.heap.size ≤ g ∧ cs.size = 4 ∧ Row W g 25 cs := (by have h := hdep ⟨5, .data⟩ (by simp) rfl; exact h)
    refine kStoreRow _ _ _ _ _ _ (wcells (r)) rfl rfl d8 (by have h := hdep ⟨4, .data⟩ (by simp) rfl; exact h) hR (info_WideC _) (by rw [wcells_size, hcs]) (wcells_one _) ?_
    intro r hR2 hW
    exact symW hbel rfl hW hg hR2 (by simp only [Singles, and_self, wcells_size]) ⟨g, d8, hg, hR2⟩
  intro w5 hB5
  dsimp only [AllV]
  intro g5 hg5 hR5
  dsimp only [putAll]
  go_frame
  have hM5 := hM4.add hB5 hg5 hR5; clear hB5 hg5 hR5 hM4
  go_wp2_with fail
  refine region_sym (fun _ => 0) [.val (.pointer (some ⟨g, 0, none⟩)), .val (.agg (wcells r)), .val (.agg (wcells r)), .val (.agg (wcells s)), .val (.pointer (some ⟨g, 0, none⟩)), .val (.agg (wcells a)), .val (.agg (wcells x)), .val (.bool true)] [.val (.pointer (some ⟨g, 0, none⟩)), .val (.agg (wcells r)), .val (.agg (wcells r)), .val (.agg (wcells s)), .val (.pointer (some ⟨g, 0, none⟩)), .val (.agg (wcells a)), .val (.agg (wcells x)), .val (.bool true)] (by kernel_rfl) (by kernel_rfl) rfl rfl (steps_all ⟨?_, ?_, ?_, ?_, ?_, ?_, ?_, ?_, trivial⟩) ?_
  · intro A W hsz hoth hbel hdep
    exact kMoveV _ (.pointer (some ⟨g, 0, none⟩)) rfl rfl ((hoth 0 (free2_of (by kernel_rfl))).trans rfl) (symV hbel hsz rfl rfl (show 30 < 48 by decide) (Below.refl _ _) rfl)
  · intro A W hsz hoth hbel hdep
    exact kLoadRow _ _ _ _ _ _ rfl rfl ((hoth 8 (free2_of (by kernel_rfl))).trans rfl) ((hM5.get 0 rfl).below hbel (hM5.get 0 rfl).lt) Tryd.underlying25 rfl (info_WideC _) (symV hbel hsz rfl rfl (show 31 < 48 by decide) (Below.refl _ _) rfl)
  · intro A W hsz hoth hbel hdep
    exact kLoadRow _ _ _ _ _ _ rfl rfl ((hoth 8 (free2_of (by kernel_rfl))).trans rfl) ((hM5.get 0 rfl).below hbel (hM5.get 0 rfl).lt) Tryd.underlying25 rfl (info_WideC _) (symV hbel hsz rfl rfl (show 32 < 48 by decide) (Below.refl _ _) rfl)
  · intro A W hsz hoth hbel hdep
    refine kCall3 25 _ _ _ _ _ _ _ rfl rfl (by kernel_rfl) (by have h := hdep ⟨0, .data⟩ (by simp) rfl; exact h) (by have h := hdep ⟨1, .data⟩ (by simp) rfl; exact h) (by have h := hdep ⟨2, .data⟩ (by simp) rfl; exact h) ?_
    refine (fMul_as hm g mr mr Hs.out W ((hr.below hM5.below hr.lt).below hbel (hr.below hM5.below hr.lt).lt)).mono ?_
    rintro e r ⟨rfl, hBc⟩
    exact ⟨_, rfl, (symV hbel hsz rfl rfl (show 33 < 48 by decide) hBc rfl)⟩
  · intro A W hsz hoth hbel hdep
    exact kMoveV _ (.pointer (some ⟨g, 0, none⟩)) rfl rfl ((hoth 0 (free2_of (by kernel_rfl))).trans rfl) (symV hbel hsz rfl rfl (show 34 < 48 by decide) (Below.refl _ _) rfl)
  · intro A W hsz hoth hbel hdep
    exact kLoadRow _ _ _ _ _ _ rfl rfl ((hoth 3 (free2_of (by kernel_rfl))).trans rfl) ((hM5.get 3 rfl).below hbel (hM5.get 3 rfl).lt) Tryd.underlying25 rfl (info_WideC _) (symV hbel hsz rfl rfl (show 35 < 48 by decide) (Below.refl _ _) rfl)
  · intro A W hsz hoth hbel hdep
    refine kCall2 37 _ _ _ _ _ rfl rfl (by kernel_rfl) (by have h := hdep ⟨4, .data⟩ (by simp) rfl; exact h) (by have h := hdep ⟨5, .data⟩ (by simp) rfl; exact h) ?_
    refine (fonce_as hm g ma Hx.out W ((hr.below hM5.below hr.lt).below hbel (hr.below hM5.below hr.lt).lt)).mono ?_
    rintro e r ⟨rfl, hBc⟩
    exact ⟨_, rfl, (symV hbel hsz rfl rfl (show 36 < 48 by decide) hBc rfl)⟩
  · intro A W hsz hoth hbel hdep
    exact kNeqW _ _ _ (s) (x) true rfl rfl (by have h := hdep ⟨3, .data⟩ (by simp) rfl; exact h) (by have h := hdep ⟨6, .data⟩ (by simp) rfl; exact h) (D.out) (symV hbel hsz rfl rfl (show 37 < 48 by decide) (Below.refl _ _) rfl)
  intro w6 hB6
  dsimp only [AllV]
  dsimp only [putAll]
  go_frame
  have hM6 := hM5.on hB6; clear hB6 hM5
  go_wp2_with (first
    | ((with_reducible change wpList _ _ _ (Oper.mk (some 38) _ _ _ _ _ :: _) _ _); refine kBuildW0 rfl rfl ?_; go_frame)
    | ((with_reducible change wpList _ _ _ (Oper.mk none (Op.store _ (Operand.tmp 4) (Operand.tmp 38)) _ _ _ _ :: _) _ _); refine mStoreAt hM6 2 _ _ _ _ (0) rfl rfl rfl rfl rfl ?_; intro w7 hM7; dsimp only [List.set] at hM7; clear hM6; go_frame))
  exact result_row_tmp Tryd.results15 rfl rfl (hM7.get 2 rfl) Tryd.underlying25 rfl (info_WideC _) rfl ⟨rfl, hM7.below⟩
set_option maxRecDepth 100000 in
set_option maxHeartbeats 4000000 in
theorem fRoot_even {m : Nat} (hm : Modu m) (a : Nat) (g : Nat) (ma : a < M256) (w : World) (hr : Row w g 54 (wcells m)) (hG : Glob 0 m w) (hm1 : m + 1 < M256) {r : Nat} (hroot : a ^ ((m + 1) / 4) % m = r) (hyes : r * r % m = a % m) (hpar : r % 2 = 0) :
    Calls Tryd.prog 15 #[.pointer (some ⟨g, 0, none⟩), WV a] w fun e w' => e = .returned (.tuple #[WV r, .int .i64 0]) ∧ Below w.heap.size w w' := by
  obtain ⟨n1, H1⟩ : ∃ n, Hid (n = 1) := ⟨1, Lib.hid rfl⟩
  have h1 : n1 < 18446744073709551616 := by rw [H1.out]; decide
  have mn1 : n1 < M256 := by rw [H1.out]; decide
  have E1 : (1 : Int) = (n1 : Int) := by rw [H1.out]; rfl
  replace E1 := Lib.hid E1
  obtain ⟨t, ht⟩ : ∃ t, Hid (m + n1 = t) := ⟨_, Lib.hid rfl⟩
  have mt : t < M256 := by rw [← ht.out, H1.out]; exact hm1
  obtain ⟨k, Hk⟩ : ∃ k, Hid (t / 2 ^ 2 = k) := ⟨_, Lib.hid rfl⟩
  have mk : k < M256 := by rw [← Hk.out]; exact Nat.lt_of_le_of_lt (Nat.div_le_self _ _) mt
  have Hkk := Lib.hid (show (m + 1) / 4 = k by rw [← Hk.out, ← ht.out, H1.out])
  rw [Hkk.out] at hroot
  obtain ⟨x, Hx⟩ : ∃ x, Hid (a % m = x) := ⟨_, Lib.hid rfl⟩
  have mx : x < M256 := by rw [← Hx.out]; exact hm.mod _
  obtain ⟨s, Hs⟩ : ∃ s, Hid (r * r % m = s) := ⟨_, Lib.hid rfl⟩
  have ms : s < M256 := by rw [← Hs.out]; exact hm.mod _
  have mr : r < M256 := by rw [← hroot]; exact hm.mod _
  have Hr := Lib.hid hroot
  clear hroot
  have D := Lib.hid (show (!decide (s % M256 = x % M256)) = false by rw [← Hs.out, ← Hx.out, hyes]; simp)
  clear hyes
  have hl : (limb r 0 : Int) % 2 = 0 := by rw [limb0_rem, hpar]; rfl
  clear hpar
  have hM0 := mem_nil w
  unfold WV
  go_enter Tryd.func15, Tryd.ntmps15
  go_wp2_with (first
    | ((with_reducible change wpList _ _ _ (Oper.mk (some 3) _ _ _ _ _ :: _) _ _); refine mBox hM0 _ _ rfl rfl rfl ?_; intro w1 hM1; clear hM0; go_frame)
    | ((with_reducible change wpList _ _ _ (Oper.mk (some 4) _ _ _ _ _ :: _) _ _); refine mAlloc hM1 rfl rfl ?_; intro w2 hM2; clear hM1; go_frame))
  refine region_sym (fun _ => 0) [.val (.pointer (some ⟨g, 0, none⟩)), .val (.pointer (some ⟨g, 0, none⟩)), .val (.pointer (some ⟨g, 0, none⟩)), .val (.agg (wcells m)), .val (.agg (wcells m)), .val (.bool false)] [.val (.pointer (some ⟨g, 0, none⟩)), .val (.pointer (some ⟨g, 0, none⟩)), .val (.pointer (some ⟨g, 0, none⟩)), .val (.agg (wcells m)), .val (.agg (wcells m)), .val (.bool false)] (by kernel_rfl) (by kernel_rfl) rfl rfl (steps_all ⟨?_, ?_, ?_, ?_, ?_, ?_, trivial⟩) ?_
  · intro A W hsz hoth hbel hdep
    exact kMoveV _ (.pointer (some ⟨g, 0, none⟩)) rfl rfl ((hoth 0 (free2_of (by kernel_rfl))).trans rfl) (symV hbel hsz rfl rfl (show 9 < 48 by decide) (Below.refl _ _) rfl)
  · intro A W hsz hoth hbel hdep
    exact kNilCheck _ _ rfl rfl (by have h := hdep ⟨0, .data⟩ (by simp) rfl; exact h) (symV hbel hsz rfl rfl (show 10 < 48 by decide) (Below.refl _ _) rfl)
  · intro A W hsz hoth hbel hdep
    exact kFieldRing _ _ rfl rfl (by have h := hdep ⟨1, .data⟩ (by simp) rfl; exact h) (symV hbel hsz rfl rfl (show 11 < 48 by decide) (Below.refl _ _) rfl)
  · intro A W hsz hoth hbel hdep
    exact kLoadRow _ _ _ _ _ _ rfl rfl (by have h := hdep ⟨2, .data⟩ (by simp) rfl; exact h) ((hr.below hM2.below hr.lt).below hbel (hr.below hM2.below hr.lt).lt) Tryd.underlying25 rfl (info_WideC _) (symV hbel hsz rfl rfl (show 12 < 48 by decide) (Below.refl _ _) rfl)
  · intro A W hsz hoth hbel hdep
    exact kLoadG _ _ _ rfl rfl rfl ((hG.mem hM2).below hbel) (symV hbel hsz rfl rfl (show 13 < 48 by decide) (Below.refl _ _) rfl)
  · intro A W hsz hoth hbel hdep
    exact kNeqW _ _ _ (m) (m) false rfl rfl (by have h := hdep ⟨3, .data⟩ (by simp) rfl; exact h) (by have h := hdep ⟨4, .data⟩ (by simp) rfl; exact h) (by simp) (symV hbel hsz rfl rfl (show 14 < 48 by decide) (Below.refl _ _) rfl)
  intro w3 hB3
  dsimp only [AllV]
  dsimp only [putAll]
  go_frame
  have hM3 := hM2.on hB3; clear hB3 hM2
  go_wp2_with fail
  refine region_sym (fun _ => 9) [.val (.pointer (some ⟨g, 0, none⟩)), .val (.pointer (some ⟨g, 0, none⟩)), .val (.pointer (some ⟨g, 0, none⟩)), .val (.agg (wcells m)), .val (.agg (wcells n1)), .val (.tuple #[.agg (wcells t), .bool false]), .val (.tuple #[.agg (wcells t), .bool false]), .val (.agg (wcells t)), .val (.bool false), .fresh w3.heap.size 25 4, .hold w3.heap.size 25 (wcells (t)), .val (.bool false)] [.val (.pointer (some ⟨g, 0, none⟩)), .val (.pointer (some ⟨g, 0, none⟩)), .val (.pointer (some ⟨g, 0, none⟩)), .val (.agg (wcells m)), .val (.agg (wcells n1)), .val (.tuple #[.agg (wcells t), .bool false]), .val (.tuple #[.agg (wcells t), .bool false]), .val (.agg (wcells t)), .val (.bool false), .hold w3.heap.size 25 (wcells (t)), .val undef, .val (.bool false)] (by kernel_rfl) (by kernel_rfl) rfl rfl (steps_all ⟨?_, ?_, ?_, ?_, ?_, ?_, ?_, ?_, ?_, ?_, ?_, ?_, trivial⟩) ?_
  · intro A W hsz hoth hbel hdep
    exact kMoveV _ (.pointer (some ⟨g, 0, none⟩)) rfl rfl ((hoth 0 (free2_of (by kernel_rfl))).trans rfl) (symV hbel hsz rfl rfl (show 17 < 48 by decide) (Below.refl _ _) rfl)
  · intro A W hsz hoth hbel hdep
    exact kNilCheck _ _ rfl rfl (by have h := hdep ⟨0, .data⟩ (by simp) rfl; exact h) (symV hbel hsz rfl rfl (show 18 < 48 by decide) (Below.refl _ _) rfl)
  · intro A W hsz hoth hbel hdep
    exact kFieldRing _ _ rfl rfl (by have h := hdep ⟨1, .data⟩ (by simp) rfl; exact h) (symV hbel hsz rfl rfl (show 19 < 48 by decide) (Below.refl _ _) rfl)
  · intro A W hsz hoth hbel hdep
    exact kLoadRow _ _ _ _ _ _ rfl rfl (by have h := hdep ⟨2, .data⟩ (by simp) rfl; exact h) ((hr.below hM3.below hr.lt).below hbel (hr.below hM3.below hr.lt).lt) Tryd.underlying25 rfl (info_WideC _) (symV hbel hsz rfl rfl (show 20 < 48 by decide) (Below.refl _ _) rfl)
  · intro A W hsz hoth hbel hdep
    refine kCall1 16 _ _ _ rfl rfl (by kernel_rfl) rfl ?_
    refine (wOf_lit n1 1 h1 E1.out W).mono ?_
    rintro e r ⟨rfl, hBc⟩
    exact ⟨_, rfl, (symV hbel hsz rfl rfl (show 21 < 48 by decide) hBc rfl)⟩
  · intro A W hsz hoth hbel hdep
    refine kCall2 35 _ _ _ _ _ rfl rfl (by kernel_rfl) (by have h := hdep ⟨3, .data⟩ (by simp) rfl; exact h) (by have h := hdep ⟨4, .data⟩ (by simp) rfl; exact h) ?_
    refine (wAdd_fits hm.lt mn1 ht.out mt W).mono ?_
    rintro e r ⟨rfl, hBc⟩
    exact ⟨_, rfl, (symV hbel hsz rfl rfl (show 22 < 48 by decide) hBc rfl)⟩
  · intro A W hsz hoth hbel hdep
    exact kMoveV _ (.tuple #[.agg (wcells t), .bool false]) rfl rfl (by have h := hdep ⟨5, .data⟩ (by simp) rfl; exact h) (symV hbel hsz rfl rfl (show 16 < 48 by decide) (Below.refl _ _) rfl)
  · intro A W hsz hoth hbel hdep
    exact kExtract _ _ _ (.agg (wcells t)) rfl rfl (by have h := hdep ⟨6, .data⟩ (by simp) rfl; exact h) rfl (symV hbel hsz rfl rfl (show 23 < 48 by decide) (Below.refl _ _) rfl)
  · intro A W hsz hoth hbel hdep
    exact kExtract _ _ _ (.bool false) rfl rfl (by have h := hdep ⟨6, .data⟩ (by simp) rfl; exact h) rfl (symV hbel hsz rfl rfl (show 24 < 48 by decide) (Below.refl _ _) rfl)
  · intro A W hsz hoth hbel hdep
    refine kAllocL _ _ rfl rfl zero_Wide ?_
    intro r hR hl hBc
    exact (symV hbel hsz rfl rfl (show 6 < 48 by decide) hBc ⟨_, _, rfl, hbel.size, wcells_size _, hR⟩)
  · intro A W hsz hoth hbel hdep
    obtain ⟨g, cs, d8, hg, hcs, hR⟩ : ∃ g cs, A.tmps.getD 6 undef = .pointer (some ⟨g, 0, none⟩) ∧ w3.heap.size ≤ g ∧ cs.size = 4 ∧ Row W g 25 cs := (by have h := hdep ⟨9, .data⟩ (by simp) rfl; exact h)
    refine kStoreRow _ _ _ _ _ _ (wcells (t)) rfl rfl d8 (by have h := hdep ⟨7, .data⟩ (by simp) rfl; exact h) hR (info_WideC _) (by rw [wcells_size, hcs]) (wcells_one _) ?_
    intro r hR2 hW
    exact symW hbel rfl hW hg hR2 (by simp only [Singles, and_self, wcells_size]) ⟨g, d8, hg, hR2⟩
  · intro A W hsz hoth hbel hdep
    exact kAssignV _ (.bool false) rfl rfl (by have h := hdep ⟨8, .data⟩ (by simp) rfl; exact h) (symV hbel hsz rfl rfl (show 7 < 48 by decide) (Below.refl _ _) rfl)
  intro w4 hB4
  dsimp only [AllV]
  intro g4 hg4 hR4
  dsimp only [putAll]
  go_frame
  have hM4 := hM3.add hB4 hg4 hR4; clear hB4 hg4 hR4 hM3
  go_wp2_with fail
  refine region_sym (fun _ => 5) [.val (.pointer (some ⟨g, 0, none⟩)), .val (.agg (wcells a)), .val (.agg (wcells t)), .val (.agg (wcells k)), .val (.agg (wcells r)), .fresh w4.heap.size 25 4, .hold w4.heap.size 25 (wcells (r))] [.val (.pointer (some ⟨g, 0, none⟩)), .val (.agg (wcells a)), .val (.agg (wcells t)), .val (.agg (wcells k)), .val (.agg (wcells r)), .hold w4.heap.size 25 (wcells (r)), .val undef] (by kernel_rfl) (by kernel_rfl) rfl rfl (steps_all ⟨?_, ?_, ?_, ?_, ?_, ?_, ?_, trivial⟩) ?_
  · intro A W hsz hoth hbel hdep
    exact kMoveV _ (.pointer (some ⟨g, 0, none⟩)) rfl rfl ((hoth 0 (free2_of (by kernel_rfl))).trans rfl) (symV hbel hsz rfl rfl (show 25 < 48 by decide) (Below.refl _ _) rfl)
  · intro A W hsz hoth hbel hdep
    exact kLoadRow _ _ _ _ _ _ rfl rfl ((hoth 3 (free2_of (by kernel_rfl))).trans rfl) ((hM4.get 2 rfl).below hbel (hM4.get 2 rfl).lt) Tryd.underlying25 rfl (info_WideC _) (symV hbel hsz rfl rfl (show 26 < 48 by decide) (Below.refl _ _) rfl)
  · intro A W hsz hoth hbel hdep
    exact kLoadRow _ _ _ _ _ _ rfl rfl ((hoth 6 (free2_of (by kernel_rfl))).trans rfl) ((hM4.get 0 rfl).below hbel (hM4.get 0 rfl).lt) Tryd.underlying25 rfl (info_WideC _) (symV hbel hsz rfl rfl (show 27 < 48 by decide) (Below.refl _ _) rfl)
  · intro A W hsz hoth hbel hdep
    refine kCall2 36 _ _ _ _ _ rfl rfl (by kernel_rfl) (by have h := hdep ⟨2, .data⟩ (by simp) rfl; exact h) rfl ?_
    refine (wRight_as t k 2 mt Hk.out W).mono ?_
    rintro e r ⟨rfl, hBc⟩
    exact ⟨_, rfl, (symV hbel hsz rfl rfl (show 28 < 48 by decide) hBc rfl)⟩
  · intro A W hsz hoth hbel hdep
    refine kCall3 32 _ _ _ _ _ _ _ rfl rfl (by kernel_rfl) (by have h := hdep ⟨0, .data⟩ (by simp) rfl; exact h) (by have h := hdep ⟨1, .data⟩ (by simp) rfl; exact h) (by have h := hdep ⟨3, .data⟩ (by simp) rfl; exact h) ?_
    refine (fPow_as hm g ma mk Hr.out W ((hr.below hM4.below hr.lt).below hbel (hr.below hM4.below hr.lt).lt)).mono ?_
    rintro e r ⟨rfl, hBc⟩
    exact ⟨_, rfl, (symV hbel hsz rfl rfl (show 29 < 48 by decide) hBc rfl)⟩
  · intro A W hsz hoth hbel hdep
    refine kAllocL _ _ rfl rfl zero_Wide ?_
    intro r hR hl hBc
    exact (symV hbel hsz rfl rfl (show 8 < 48 by decide) hBc ⟨_, _, rfl, hbel.size, wcells_size _, hR⟩)
  · intro A W hsz hoth hbel hdep
    obtain ⟨g, cs, d8, hg, hcs, hR⟩ : ∃ g cs, A.tmps.getD 8 undef = .pointer (some ⟨g, 0, none⟩) ∧ w4.heap.size ≤ g ∧ cs.size = 4 ∧ Row W g 25 cs := (by have h := hdep ⟨5, .data⟩ (by simp) rfl; exact h)
    refine kStoreRow _ _ _ _ _ _ (wcells (r)) rfl rfl d8 (by have h := hdep ⟨4, .data⟩ (by simp) rfl; exact h) hR (info_WideC _) (by rw [wcells_size, hcs]) (wcells_one _) ?_
    intro r hR2 hW
    exact symW hbel rfl hW hg hR2 (by simp only [Singles, and_self, wcells_size]) ⟨g, d8, hg, hR2⟩
  intro w5 hB5
  dsimp only [AllV]
  intro g5 hg5 hR5
  dsimp only [putAll]
  go_frame
  have hM5 := hM4.add hB5 hg5 hR5; clear hB5 hg5 hR5 hM4
  go_wp2_with fail
  refine region_sym (fun _ => 0) [.val (.pointer (some ⟨g, 0, none⟩)), .val (.agg (wcells r)), .val (.agg (wcells r)), .val (.agg (wcells s)), .val (.pointer (some ⟨g, 0, none⟩)), .val (.agg (wcells a)), .val (.agg (wcells x)), .val (.bool false)] [.val (.pointer (some ⟨g, 0, none⟩)), .val (.agg (wcells r)), .val (.agg (wcells r)), .val (.agg (wcells s)), .val (.pointer (some ⟨g, 0, none⟩)), .val (.agg (wcells a)), .val (.agg (wcells x)), .val (.bool false)] (by kernel_rfl) (by kernel_rfl) rfl rfl (steps_all ⟨?_, ?_, ?_, ?_, ?_, ?_, ?_, ?_, trivial⟩) ?_
  · intro A W hsz hoth hbel hdep
    exact kMoveV _ (.pointer (some ⟨g, 0, none⟩)) rfl rfl ((hoth 0 (free2_of (by kernel_rfl))).trans rfl) (symV hbel hsz rfl rfl (show 30 < 48 by decide) (Below.refl _ _) rfl)
  · intro A W hsz hoth hbel hdep
    exact kLoadRow _ _ _ _ _ _ rfl rfl ((hoth 8 (free2_of (by kernel_rfl))).trans rfl) ((hM5.get 0 rfl).below hbel (hM5.get 0 rfl).lt) Tryd.underlying25 rfl (info_WideC _) (symV hbel hsz rfl rfl (show 31 < 48 by decide) (Below.refl _ _) rfl)
  · intro A W hsz hoth hbel hdep
    exact kLoadRow _ _ _ _ _ _ rfl rfl ((hoth 8 (free2_of (by kernel_rfl))).trans rfl) ((hM5.get 0 rfl).below hbel (hM5.get 0 rfl).lt) Tryd.underlying25 rfl (info_WideC _) (symV hbel hsz rfl rfl (show 32 < 48 by decide) (Below.refl _ _) rfl)
  · intro A W hsz hoth hbel hdep
    refine kCall3 25 _ _ _ _ _ _ _ rfl rfl (by kernel_rfl) (by have h := hdep ⟨0, .data⟩ (by simp) rfl; exact h) (by have h := hdep ⟨1, .data⟩ (by simp) rfl; exact h) (by have h := hdep ⟨2, .data⟩ (by simp) rfl; exact h) ?_
    refine (fMul_as hm g mr mr Hs.out W ((hr.below hM5.below hr.lt).below hbel (hr.below hM5.below hr.lt).lt)).mono ?_
    rintro e r ⟨rfl, hBc⟩
    exact ⟨_, rfl, (symV hbel hsz rfl rfl (show 33 < 48 by decide) hBc rfl)⟩
  · intro A W hsz hoth hbel hdep
    exact kMoveV _ (.pointer (some ⟨g, 0, none⟩)) rfl rfl ((hoth 0 (free2_of (by kernel_rfl))).trans rfl) (symV hbel hsz rfl rfl (show 34 < 48 by decide) (Below.refl _ _) rfl)
  · intro A W hsz hoth hbel hdep
    exact kLoadRow _ _ _ _ _ _ rfl rfl ((hoth 3 (free2_of (by kernel_rfl))).trans rfl) ((hM5.get 3 rfl).below hbel (hM5.get 3 rfl).lt) Tryd.underlying25 rfl (info_WideC _) (symV hbel hsz rfl rfl (show 35 < 48 by decide) (Below.refl _ _) rfl)
  · intro A W hsz hoth hbel hdep
    refine kCall2 37 _ _ _ _ _ rfl rfl (by kernel_rfl) (by have h := hdep ⟨4, .data⟩ (by simp) rfl; exact h) (by have h := hdep ⟨5, .data⟩ (by simp) rfl; exact h) ?_
    refine (fonce_as hm g ma Hx.out W ((hr.below hM5.below hr.lt).below hbel (hr.below hM5.below hr.lt).lt)).mono ?_
    rintro e r ⟨rfl, hBc⟩
    exact ⟨_, rfl, (symV hbel hsz rfl rfl (show 36 < 48 by decide) hBc rfl)⟩
  · intro A W hsz hoth hbel hdep
    exact kNeqW _ _ _ (s) (x) false rfl rfl (by have h := hdep ⟨3, .data⟩ (by simp) rfl; exact h) (by have h := hdep ⟨6, .data⟩ (by simp) rfl; exact h) (D.out) (symV hbel hsz rfl rfl (show 37 < 48 by decide) (Below.refl _ _) rfl)
  intro w6 hB6
  dsimp only [AllV]
  dsimp only [putAll]
  go_frame
  have hM6 := hM5.on hB6; clear hB6 hM5
  go_wp2_with (first
    | ((with_reducible change wpList _ _ _ (Oper.mk (some 39) _ _ _ _ _ :: _) _ _); refine kIndexAddr1 _ _ _ _ _ _ _ 0 _ rfl rfl rfl rfl Tryd.underlying25 info_w64 rfl (by decide) ?_; go_frame)
    | ((with_reducible change wpList _ _ _ (Oper.mk (some 40) _ _ _ _ _ :: _) _ _); refine kLoad1 _ _ _ _ _ _ _ _ rfl rfl rfl (hM6.get 0 rfl) Tryd.underlying23 rfl (wcells_get r 0 (by decide)) ?_; go_frame)
    | ((with_reducible change wpList _ _ _ (Oper.mk (some 47) _ _ _ _ _ :: _) _ _); refine mLoad hM6 0 _ _ _ rfl rfl rfl rfl ?_; go_frame)
    | ((with_reducible change wpList _ _ _ (Oper.mk none (Op.store _ (Operand.tmp 4) (Operand.tmp 47)) _ _ _ _ :: _) _ _); refine mStoreAt hM6 2 _ _ _ _ (r) rfl rfl rfl rfl rfl ?_; intro w7 hM7; dsimp only [List.set] at hM7; clear hM6; go_frame))
  exact result_row_tmp Tryd.results15 rfl rfl (hM7.get 2 rfl) Tryd.underlying25 rfl (info_WideC _) rfl ⟨rfl, hM7.below⟩
set_option maxRecDepth 100000 in
set_option maxHeartbeats 4000000 in
theorem fRoot_odd {m : Nat} (hm : Modu m) (a : Nat) (g : Nat) (ma : a < M256) (w : World) (hr : Row w g 54 (wcells m)) (hG : Glob 0 m w) (hm1 : m + 1 < M256) {r : Nat} (hroot : a ^ ((m + 1) / 4) % m = r) (hyes : r * r % m = a % m) (hpar : r % 2 = 1) :
    Calls Tryd.prog 15 #[.pointer (some ⟨g, 0, none⟩), WV a] w fun e w' => e = .returned (.tuple #[WV ((m - r) % m), .int .i64 0]) ∧ Below w.heap.size w w' := by
  obtain ⟨n1, H1⟩ : ∃ n, Hid (n = 1) := ⟨1, Lib.hid rfl⟩
  have h1 : n1 < 18446744073709551616 := by rw [H1.out]; decide
  have mn1 : n1 < M256 := by rw [H1.out]; decide
  have E1 : (1 : Int) = (n1 : Int) := by rw [H1.out]; rfl
  replace E1 := Lib.hid E1
  obtain ⟨t, ht⟩ : ∃ t, Hid (m + n1 = t) := ⟨_, Lib.hid rfl⟩
  have mt : t < M256 := by rw [← ht.out, H1.out]; exact hm1
  obtain ⟨k, Hk⟩ : ∃ k, Hid (t / 2 ^ 2 = k) := ⟨_, Lib.hid rfl⟩
  have mk : k < M256 := by rw [← Hk.out]; exact Nat.lt_of_le_of_lt (Nat.div_le_self _ _) mt
  have Hkk := Lib.hid (show (m + 1) / 4 = k by rw [← Hk.out, ← ht.out, H1.out])
  rw [Hkk.out] at hroot
  obtain ⟨x, Hx⟩ : ∃ x, Hid (a % m = x) := ⟨_, Lib.hid rfl⟩
  have mx : x < M256 := by rw [← Hx.out]; exact hm.mod _
  obtain ⟨s, Hs⟩ : ∃ s, Hid (r * r % m = s) := ⟨_, Lib.hid rfl⟩
  have ms : s < M256 := by rw [← Hs.out]; exact hm.mod _
  have mr : r < M256 := by rw [← hroot]; exact hm.mod _
  have Hr := Lib.hid hroot
  clear hroot
  have D := Lib.hid (show (!decide (s % M256 = x % M256)) = false by rw [← Hs.out, ← Hx.out, hyes]; simp)
  clear hyes
  have hl : (limb r 0 : Int) % 2 = 1 := by rw [limb0_rem, hpar]; rfl
  obtain ⟨y, Hy⟩ : ∃ y, Hid ((0 % m + m - r % m) % m = y) := ⟨_, Lib.hid rfl⟩
  have hrm : r % m = r := by rw [← Hr.out, Nat.mod_mod]
  rw [show (m - r) % m = y by rw [← Hy.out, Nat.zero_mod, Nat.zero_add, hrm]]
  clear hrm
  clear hpar
  have hM0 := mem_nil w
  unfold WV
  go_enter Tryd.func15, Tryd.ntmps15
  go_wp2_with (first
    | ((with_reducible change wpList _ _ _ (Oper.mk (some 3) _ _ _ _ _ :: _) _ _); refine mBox hM0 _ _ rfl rfl rfl ?_; intro w1 hM1; clear hM0; go_frame)
    | ((with_reducible change wpList _ _ _ (Oper.mk (some 4) _ _ _ _ _ :: _) _ _); refine mAlloc hM1 rfl rfl ?_; intro w2 hM2; clear hM1; go_frame))
  refine region_sym (fun _ => 0) [.val (.pointer (some ⟨g, 0, none⟩)), .val (.pointer (some ⟨g, 0, none⟩)), .val (.pointer (some ⟨g, 0, none⟩)), .val (.agg (wcells m)), .val (.agg (wcells m)), .val (.bool false)] [.val (.pointer (some ⟨g, 0, none⟩)), .val (.pointer (some ⟨g, 0, none⟩)), .val (.pointer (some ⟨g, 0, none⟩)), .val (.agg (wcells m)), .val (.agg (wcells m)), .val (.bool false)] (by kernel_rfl) (by kernel_rfl) rfl rfl (steps_all ⟨?_, ?_, ?_, ?_, ?_, ?_, trivial⟩) ?_
  · intro A W hsz hoth hbel hdep
    exact kMoveV _ (.pointer (some ⟨g, 0, none⟩)) rfl rfl ((hoth 0 (free2_of (by kernel_rfl))).trans rfl) (symV hbel hsz rfl rfl (show 9 < 48 by decide) (Below.refl _ _) rfl)
  · intro A W hsz hoth hbel hdep
    exact kNilCheck _ _ rfl rfl (by have h := hdep ⟨0, .data⟩ (by simp) rfl; exact h) (symV hbel hsz rfl rfl (show 10 < 48 by decide) (Below.refl _ _) rfl)
  · intro A W hsz hoth hbel hdep
    exact kFieldRing _ _ rfl rfl (by have h := hdep ⟨1, .data⟩ (by simp) rfl; exact h) (symV hbel hsz rfl rfl (show 11 < 48 by decide) (Below.refl _ _) rfl)
  · intro A W hsz hoth hbel hdep
    exact kLoadRow _ _ _ _ _ _ rfl rfl (by have h := hdep ⟨2, .data⟩ (by simp) rfl; exact h) ((hr.below hM2.below hr.lt).below hbel (hr.below hM2.below hr.lt).lt) Tryd.underlying25 rfl (info_WideC _) (symV hbel hsz rfl rfl (show 12 < 48 by decide) (Below.refl _ _) rfl)
  · intro A W hsz hoth hbel hdep
    exact kLoadG _ _ _ rfl rfl rfl ((hG.mem hM2).below hbel) (symV hbel hsz rfl rfl (show 13 < 48 by decide) (Below.refl _ _) rfl)
  · intro A W hsz hoth hbel hdep
    exact kNeqW _ _ _ (m) (m) false rfl rfl (by have h := hdep ⟨3, .data⟩ (by simp) rfl; exact h) (by have h := hdep ⟨4, .data⟩ (by simp) rfl; exact h) (by simp) (symV hbel hsz rfl rfl (show 14 < 48 by decide) (Below.refl _ _) rfl)
  intro w3 hB3
  dsimp only [AllV]
  dsimp only [putAll]
  go_frame
  have hM3 := hM2.on hB3; clear hB3 hM2
  go_wp2_with fail
  refine region_sym (fun _ => 9) [.val (.pointer (some ⟨g, 0, none⟩)), .val (.pointer (some ⟨g, 0, none⟩)), .val (.pointer (some ⟨g, 0, none⟩)), .val (.agg (wcells m)), .val (.agg (wcells n1)), .val (.tuple #[.agg (wcells t), .bool false]), .val (.tuple #[.agg (wcells t), .bool false]), .val (.agg (wcells t)), .val (.bool false), .fresh w3.heap.size 25 4, .hold w3.heap.size 25 (wcells (t)), .val (.bool false)] [.val (.pointer (some ⟨g, 0, none⟩)), .val (.pointer (some ⟨g, 0, none⟩)), .val (.pointer (some ⟨g, 0, none⟩)), .val (.agg (wcells m)), .val (.agg (wcells n1)), .val (.tuple #[.agg (wcells t), .bool false]), .val (.tuple #[.agg (wcells t), .bool false]), .val (.agg (wcells t)), .val (.bool false), .hold w3.heap.size 25 (wcells (t)), .val undef, .val (.bool false)] (by kernel_rfl) (by kernel_rfl) rfl rfl (steps_all ⟨?_, ?_, ?_, ?_, ?_, ?_, ?_, ?_, ?_, ?_, ?_, ?_, trivial⟩) ?_
  · intro A W hsz hoth hbel hdep
    exact kMoveV _ (.pointer (some ⟨g, 0, none⟩)) rfl rfl ((hoth 0 (free2_of (by kernel_rfl))).trans rfl) (symV hbel hsz rfl rfl (show 17 < 48 by decide) (Below.refl _ _) rfl)
  · intro A W hsz hoth hbel hdep
    exact kNilCheck _ _ rfl rfl (by have h := hdep ⟨0, .data⟩ (by simp) rfl; exact h) (symV hbel hsz rfl rfl (show 18 < 48 by decide) (Below.refl _ _) rfl)
  · intro A W hsz hoth hbel hdep
    exact kFieldRing _ _ rfl rfl (by have h := hdep ⟨1, .data⟩ (by simp) rfl; exact h) (symV hbel hsz rfl rfl (show 19 < 48 by decide) (Below.refl _ _) rfl)
  · intro A W hsz hoth hbel hdep
    exact kLoadRow _ _ _ _ _ _ rfl rfl (by have h := hdep ⟨2, .data⟩ (by simp) rfl; exact h) ((hr.below hM3.below hr.lt).below hbel (hr.below hM3.below hr.lt).lt) Tryd.underlying25 rfl (info_WideC _) (symV hbel hsz rfl rfl (show 20 < 48 by decide) (Below.refl _ _) rfl)
  · intro A W hsz hoth hbel hdep
    refine kCall1 16 _ _ _ rfl rfl (by kernel_rfl) rfl ?_
    refine (wOf_lit n1 1 h1 E1.out W).mono ?_
    rintro e r ⟨rfl, hBc⟩
    exact ⟨_, rfl, (symV hbel hsz rfl rfl (show 21 < 48 by decide) hBc rfl)⟩
  · intro A W hsz hoth hbel hdep
    refine kCall2 35 _ _ _ _ _ rfl rfl (by kernel_rfl) (by have h := hdep ⟨3, .data⟩ (by simp) rfl; exact h) (by have h := hdep ⟨4, .data⟩ (by simp) rfl; exact h) ?_
    refine (wAdd_fits hm.lt mn1 ht.out mt W).mono ?_
    rintro e r ⟨rfl, hBc⟩
    exact ⟨_, rfl, (symV hbel hsz rfl rfl (show 22 < 48 by decide) hBc rfl)⟩
  · intro A W hsz hoth hbel hdep
    exact kMoveV _ (.tuple #[.agg (wcells t), .bool false]) rfl rfl (by have h := hdep ⟨5, .data⟩ (by simp) rfl; exact h) (symV hbel hsz rfl rfl (show 16 < 48 by decide) (Below.refl _ _) rfl)
  · intro A W hsz hoth hbel hdep
    exact kExtract _ _ _ (.agg (wcells t)) rfl rfl (by have h := hdep ⟨6, .data⟩ (by simp) rfl; exact h) rfl (symV hbel hsz rfl rfl (show 23 < 48 by decide) (Below.refl _ _) rfl)
  · intro A W hsz hoth hbel hdep
    exact kExtract _ _ _ (.bool false) rfl rfl (by have h := hdep ⟨6, .data⟩ (by simp) rfl; exact h) rfl (symV hbel hsz rfl rfl (show 24 < 48 by decide) (Below.refl _ _) rfl)
  · intro A W hsz hoth hbel hdep
    refine kAllocL _ _ rfl rfl zero_Wide ?_
    intro r hR hl hBc
    exact (symV hbel hsz rfl rfl (show 6 < 48 by decide) hBc ⟨_, _, rfl, hbel.size, wcells_size _, hR⟩)
  · intro A W hsz hoth hbel hdep
    obtain ⟨g, cs, d8, hg, hcs, hR⟩ : ∃ g cs, A.tmps.getD 6 undef = .pointer (some ⟨g, 0, none⟩) ∧ w3.heap.size ≤ g ∧ cs.size = 4 ∧ Row W g 25 cs := (by have h := hdep ⟨9, .data⟩ (by simp) rfl; exact h)
    refine kStoreRow _ _ _ _ _ _ (wcells (t)) rfl rfl d8 (by have h := hdep ⟨7, .data⟩ (by simp) rfl; exact h) hR (info_WideC _) (by rw [wcells_size, hcs]) (wcells_one _) ?_
    intro r hR2 hW
    exact symW hbel rfl hW hg hR2 (by simp only [Singles, and_self, wcells_size]) ⟨g, d8, hg, hR2⟩
  · intro A W hsz hoth hbel hdep
    exact kAssignV _ (.bool false) rfl rfl (by have h := hdep ⟨8, .data⟩ (by simp) rfl; exact h) (symV hbel hsz rfl rfl (show 7 < 48 by decide) (Below.refl _ _) rfl)
  intro w4 hB4
  dsimp only [AllV]
  intro g4 hg4 hR4
  dsimp only [putAll]
  go_frame
  have hM4 := hM3.add hB4 hg4 hR4; clear hB4 hg4 hR4 hM3
  go_wp2_with fail
  refine region_sym (fun _ => 5) [.val (.pointer (some ⟨g, 0, none⟩)), .val (.agg (wcells a)), .val (.agg (wcells t)), .val (.agg (wcells k)), .val (.agg (wcells r)), .fresh w4.heap.size 25 4, .hold w4.heap.size 25 (wcells (r))] [.val (.pointer (some ⟨g, 0, none⟩)), .val (.agg (wcells a)), .val (.agg (wcells t)), .val (.agg (wcells k)), .val (.agg (wcells r)), .hold w4.heap.size 25 (wcells (r)), .val undef] (by kernel_rfl) (by kernel_rfl) rfl rfl (steps_all ⟨?_, ?_, ?_, ?_, ?_, ?_, ?_, trivial⟩) ?_
  · intro A W hsz hoth hbel hdep
    exact kMoveV _ (.pointer (some ⟨g, 0, none⟩)) rfl rfl ((hoth 0 (free2_of (by kernel_rfl))).trans rfl) (symV hbel hsz rfl rfl (show 25 < 48 by decide) (Below.refl _ _) rfl)
  · intro A W hsz hoth hbel hdep
    exact kLoadRow _ _ _ _ _ _ rfl rfl ((hoth 3 (free2_of (by kernel_rfl))).trans rfl) ((hM4.get 2 rfl).below hbel (hM4.get 2 rfl).lt) Tryd.underlying25 rfl (info_WideC _) (symV hbel hsz rfl rfl (show 26 < 48 by decide) (Below.refl _ _) rfl)
  · intro A W hsz hoth hbel hdep
    exact kLoadRow _ _ _ _ _ _ rfl rfl ((hoth 6 (free2_of (by kernel_rfl))).trans rfl) ((hM4.get 0 rfl).below hbel (hM4.get 0 rfl).lt) Tryd.underlying25 rfl (info_WideC _) (symV hbel hsz rfl rfl (show 27 < 48 by decide) (Below.refl _ _) rfl)
  · intro A W hsz hoth hbel hdep
    refine kCall2 36 _ _ _ _ _ rfl rfl (by kernel_rfl) (by have h := hdep ⟨2, .data⟩ (by simp) rfl; exact h) rfl ?_
    refine (wRight_as t k 2 mt Hk.out W).mono ?_
    rintro e r ⟨rfl, hBc⟩
    exact ⟨_, rfl, (symV hbel hsz rfl rfl (show 28 < 48 by decide) hBc rfl)⟩
  · intro A W hsz hoth hbel hdep
    refine kCall3 32 _ _ _ _ _ _ _ rfl rfl (by kernel_rfl) (by have h := hdep ⟨0, .data⟩ (by simp) rfl; exact h) (by have h := hdep ⟨1, .data⟩ (by simp) rfl; exact h) (by have h := hdep ⟨3, .data⟩ (by simp) rfl; exact h) ?_
    refine (fPow_as hm g ma mk Hr.out W ((hr.below hM4.below hr.lt).below hbel (hr.below hM4.below hr.lt).lt)).mono ?_
    rintro e r ⟨rfl, hBc⟩
    exact ⟨_, rfl, (symV hbel hsz rfl rfl (show 29 < 48 by decide) hBc rfl)⟩
  · intro A W hsz hoth hbel hdep
    refine kAllocL _ _ rfl rfl zero_Wide ?_
    intro r hR hl hBc
    exact (symV hbel hsz rfl rfl (show 8 < 48 by decide) hBc ⟨_, _, rfl, hbel.size, wcells_size _, hR⟩)
  · intro A W hsz hoth hbel hdep
    obtain ⟨g, cs, d8, hg, hcs, hR⟩ : ∃ g cs, A.tmps.getD 8 undef = .pointer (some ⟨g, 0, none⟩) ∧ w4.heap.size ≤ g ∧ cs.size = 4 ∧ Row W g 25 cs := (by have h := hdep ⟨5, .data⟩ (by simp) rfl; exact h)
    refine kStoreRow _ _ _ _ _ _ (wcells (r)) rfl rfl d8 (by have h := hdep ⟨4, .data⟩ (by simp) rfl; exact h) hR (info_WideC _) (by rw [wcells_size, hcs]) (wcells_one _) ?_
    intro r hR2 hW
    exact symW hbel rfl hW hg hR2 (by simp only [Singles, and_self, wcells_size]) ⟨g, d8, hg, hR2⟩
  intro w5 hB5
  dsimp only [AllV]
  intro g5 hg5 hR5
  dsimp only [putAll]
  go_frame
  have hM5 := hM4.add hB5 hg5 hR5; clear hB5 hg5 hR5 hM4
  go_wp2_with fail
  refine region_sym (fun _ => 0) [.val (.pointer (some ⟨g, 0, none⟩)), .val (.agg (wcells r)), .val (.agg (wcells r)), .val (.agg (wcells s)), .val (.pointer (some ⟨g, 0, none⟩)), .val (.agg (wcells a)), .val (.agg (wcells x)), .val (.bool false)] [.val (.pointer (some ⟨g, 0, none⟩)), .val (.agg (wcells r)), .val (.agg (wcells r)), .val (.agg (wcells s)), .val (.pointer (some ⟨g, 0, none⟩)), .val (.agg (wcells a)), .val (.agg (wcells x)), .val (.bool false)] (by kernel_rfl) (by kernel_rfl) rfl rfl (steps_all ⟨?_, ?_, ?_, ?_, ?_, ?_, ?_, ?_, trivial⟩) ?_
  · intro A W hsz hoth hbel hdep
    exact kMoveV _ (.pointer (some ⟨g, 0, none⟩)) rfl rfl ((hoth 0 (free2_of (by kernel_rfl))).trans rfl) (symV hbel hsz rfl rfl (show 30 < 48 by decide) (Below.refl _ _) rfl)
  · intro A W hsz hoth hbel hdep
    exact kLoadRow _ _ _ _ _ _ rfl rfl ((hoth 8 (free2_of (by kernel_rfl))).trans rfl) ((hM5.get 0 rfl).below hbel (hM5.get 0 rfl).lt) Tryd.underlying25 rfl (info_WideC _) (symV hbel hsz rfl rfl (show 31 < 48 by decide) (Below.refl _ _) rfl)
  · intro A W hsz hoth hbel hdep
    exact kLoadRow _ _ _ _ _ _ rfl rfl ((hoth 8 (free2_of (by kernel_rfl))).trans rfl) ((hM5.get 0 rfl).below hbel (hM5.get 0 rfl).lt) Tryd.underlying25 rfl (info_WideC _) (symV hbel hsz rfl rfl (show 32 < 48 by decide) (Below.refl _ _) rfl)
  · intro A W hsz hoth hbel hdep
    refine kCall3 25 _ _ _ _ _ _ _ rfl rfl (by kernel_rfl) (by have h := hdep ⟨0, .data⟩ (by simp) rfl; exact h) (by have h := hdep ⟨1, .data⟩ (by simp) rfl; exact h) (by have h := hdep ⟨2, .data⟩ (by simp) rfl; exact h) ?_
    refine (fMul_as hm g mr mr Hs.out W ((hr.below hM5.below hr.lt).below hbel (hr.below hM5.below hr.lt).lt)).mono ?_
    rintro e r ⟨rfl, hBc⟩
    exact ⟨_, rfl, (symV hbel hsz rfl rfl (show 33 < 48 by decide) hBc rfl)⟩
  · intro A W hsz hoth hbel hdep
    exact kMoveV _ (.pointer (some ⟨g, 0, none⟩)) rfl rfl ((hoth 0 (free2_of (by kernel_rfl))).trans rfl) (symV hbel hsz rfl rfl (show 34 < 48 by decide) (Below.refl _ _) rfl)
  · intro A W hsz hoth hbel hdep
    exact kLoadRow _ _ _ _ _ _ rfl rfl ((hoth 3 (free2_of (by kernel_rfl))).trans rfl) ((hM5.get 3 rfl).below hbel (hM5.get 3 rfl).lt) Tryd.underlying25 rfl (info_WideC _) (symV hbel hsz rfl rfl (show 35 < 48 by decide) (Below.refl _ _) rfl)
  · intro A W hsz hoth hbel hdep
    refine kCall2 37 _ _ _ _ _ rfl rfl (by kernel_rfl) (by have h := hdep ⟨4, .data⟩ (by simp) rfl; exact h) (by have h := hdep ⟨5, .data⟩ (by simp) rfl; exact h) ?_
    refine (fonce_as hm g ma Hx.out W ((hr.below hM5.below hr.lt).below hbel (hr.below hM5.below hr.lt).lt)).mono ?_
    rintro e r ⟨rfl, hBc⟩
    exact ⟨_, rfl, (symV hbel hsz rfl rfl (show 36 < 48 by decide) hBc rfl)⟩
  · intro A W hsz hoth hbel hdep
    exact kNeqW _ _ _ (s) (x) false rfl rfl (by have h := hdep ⟨3, .data⟩ (by simp) rfl; exact h) (by have h := hdep ⟨6, .data⟩ (by simp) rfl; exact h) (D.out) (symV hbel hsz rfl rfl (show 37 < 48 by decide) (Below.refl _ _) rfl)
  intro w6 hB6
  dsimp only [AllV]
  dsimp only [putAll]
  go_frame
  have hM6 := hM5.on hB6; clear hB6 hM5
  go_wp2_with (first
    | ((with_reducible change wpList _ _ _ (Oper.mk (some 39) _ _ _ _ _ :: _) _ _); refine kIndexAddr1 _ _ _ _ _ _ _ 0 _ rfl rfl rfl rfl Tryd.underlying25 info_w64 rfl (by decide) ?_; go_frame)
    | ((with_reducible change wpList _ _ _ (Oper.mk (some 40) _ _ _ _ _ :: _) _ _); refine kLoad1 _ _ _ _ _ _ _ _ rfl rfl rfl (hM6.get 0 rfl) Tryd.underlying23 rfl (wcells_get r 0 (by decide)) ?_; go_frame)
    | ((with_reducible change wpList _ _ _ (Oper.mk (some 44) _ _ _ _ _ :: _) _ _); refine kBuildW0 rfl rfl ?_; go_frame)
    | ((with_reducible change wpList _ _ _ (Oper.mk (some 45) _ _ _ _ _ :: _) _ _); refine mLoad hM6 0 _ _ _ rfl rfl rfl rfl ?_; go_frame)
    | (go_at_call 23; (with_reducible change Calls _ _ #[Value.pointer (some ⟨g, 0, none⟩), Value.agg (wcells 0), Value.agg (wcells r)] _ _); refine (fSub_as hm g M256_pos mr Hy.out _ (hr.below hM6.below hr.lt)).mono ?_; rintro e w7 ⟨rfl, hB7⟩; have hM7 := hM6.on hB7; clear hB7 hM6; (try unfold WV); go_frame)
    | ((with_reducible change wpList _ _ _ (Oper.mk none (Op.store _ (Operand.tmp 8) (Operand.tmp 46)) _ _ _ _ :: _) _ _); refine mStoreAt hM7 0 _ _ _ _ (y) rfl rfl rfl rfl rfl ?_; intro w8 hM8; dsimp only [List.set] at hM8; clear hM7; go_frame)
    | ((with_reducible change wpList _ _ _ (Oper.mk (some 47) _ _ _ _ _ :: _) _ _); refine mLoad hM8 0 _ _ _ rfl rfl rfl rfl ?_; go_frame)
    | ((with_reducible change wpList _ _ _ (Oper.mk none (Op.store _ (Operand.tmp 4) (Operand.tmp 47)) _ _ _ _ :: _) _ _); refine mStoreAt hM8 2 _ _ _ _ (y) rfl rfl rfl rfl rfl ?_; intro w9 hM9; dsimp only [List.set] at hM9; clear hM8; go_frame))
  exact result_row_tmp Tryd.results15 rfl rfl (hM9.get 2 rfl) Tryd.underlying25 rfl (info_WideC _) rfl ⟨rfl, hM9.below⟩
end Go.Proofs.YtajpdmcbdekpbaaDoor
