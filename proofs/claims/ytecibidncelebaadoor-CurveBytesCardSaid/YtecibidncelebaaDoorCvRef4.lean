/-
  The reference of layer 4: Add, Neg and On by points; the statements' own 'of' and 'curveAlive'.
-/
import Derived.Test.YtecibidncelebaaDoorCvRef3
import Derived.Test.YtecibidncelebaaDoorCvBoth
namespace Go.Proofs.YtecibidncelebaaDoor
open Go Go.RowKit

open Cv
theorem eNeg_as {x y v : Nat} (my : y < M256) (p : Bool) (hv : (0 - FP y : Fin PP).val = v) (w : World) : Calls Tryd.prog 23 #[.agg (pcells x y p)] w fun e w' => e = .returned (.agg (pcells x v p)) ∧ Below w.heap.size w w' := hv ▸ eNeg_nat my p w
theorem eNeg_pt (p : Pt PP) (w : World) : Calls Tryd.prog 23 #[.agg (ptc p)] w fun e w' => e = .returned (.agg (ptc p.neg)) ∧ Below w.heap.size w w' := by
  cases p with
  | o => exact eNeg_as (by decide) true (by decide) w
  | mk x y => exact eNeg_as (val_lt y) false (by rw [FP_of_val]) w
theorem eOn_pt {p : Pt PP} (h : p.On) (w : World) : Calls Tryd.prog 24 #[.agg (ptc p)] w fun e w' => e = .returned (.bool true) ∧ Below w.heap.size w w' := by
  obtain ⟨x, y, b, e, mx, my, ho⟩ := onB_pt h
  rw [e, ← ho]; exact eOn_any mx my b w
set_option maxRecDepth 100000 in
set_option maxHeartbeats 8000000 in
theorem curveAlive_any (w : World) (hG : Glob 2 PP w) (hO : GlobP 0 0 0 true w) (hB : GlobP 1 gX gY false w) : Calls Tryd.prog 15 #[] w fun e w' => e = .returned (.bool true) ∧ Below w.heap.size w w' := by
  have hM0 := mm_nil w
  (try unfold WV)
  go_enter Tryd.func15, Tryd.ntmps15
  go_wp2_with (first
    | (go_at_call 14; refine (cBase_any _ (hB.below hM0.below)).mono ?_; rintro e w1 ⟨rfl, hB1⟩; have hM1 := hM0.on hB1; clear hB1 hM0; (try unfold WV); go_frame)
    | ((with_reducible change wpList _ _ _ (Oper.mk (some 1) _ _ _ _ _ :: _) _ _); refine mmAlloc hM1 _ _ rfl rfl zero_Point ?_; intro w2 hM2; clear hM1; go_frame)
    | ((with_reducible change wpList _ _ _ (Oper.mk none (Op.store _ (Operand.tmp 1) (Operand.tmp 2)) _ _ _ _ :: _) _ _); refine mmStoreAt hM2 0 _ _ _ _ _ _ (ptc gPt) rfl rfl rfl rfl rfl (info_ptc _) (by simp only [pcells_size, ptc_size]) (ptc_one _) ?_; intro w3 hM3; dsimp only [List.set] at hM3; clear hM2; go_frame))
  refine region_symT 16 _ [] [] [.val (.agg (ptc gPt)), .val (.bool true), .val (.bool true), .val (.agg (ptc gPt)), .val (.agg (ptc gPt)), .val (.agg (ptc gPt.neg)), .val (.agg (ptc (Pt.add ivP gPt gPt.neg))), .val (.agg (ptc .o)), .val (.bool true), .val (.bool true), .val (.bool true), .val (.agg (ptc gPt)), .val (.agg (ptc gPt)), .val (.bool true), .val (.bool true), .val (.bool true)] rfl (by kernel_rfl) (by kernel_rfl) (by kernel_rfl) (by kernel_rfl) rfl (by intro s hs; cases hs) (steps_all ⟨?_, ?_, ?_, ?_, ?_, ?_, ?_, ?_, ?_, ?_, ?_, ?_, ?_, ?_, ?_, ?_, trivial⟩) ?_
  · intro A W hsz hoth hbel hX hdep
    exact kLoadRow _ _ _ _ _ _ rfl rfl ((hoth 1 (free2_of (by kernel_rfl))).trans rfl) ((hM3.get 0 rfl).on hbel) Tryd.underlying30 rfl (info_ptc _) (symVT hX hsz rfl (show 3 < 18 by decide) rfl (Below.refl _ _) rfl)
  · intro A W hsz hoth hbel hX hdep
    refine kCall1 20 _ _ _ rfl rfl (by kernel_rfl) (by have h := hdep ⟨0, .data⟩ (by simp) rfl; exact h) ?_
    refine (cOn_pt gPt_on W ((hG.below hM3.below).below hbel) ((hO.below hM3.below).below hbel)).mono ?_
    rintro e r ⟨rfl, hBc⟩
    exact ⟨_, rfl, (symVT hX hsz rfl (show 4 < 18 by decide) rfl hBc rfl)⟩
  · intro A W hsz hoth hbel hX hdep
    exact kMoveV _ (.bool true) rfl rfl (by have h := hdep ⟨1, .data⟩ (by simp) rfl; exact h) (symVT hX hsz rfl (show 5 < 18 by decide) rfl (Below.refl _ _) rfl)
  · intro A W hsz hoth hbel hX hdep
    exact kLoadRow _ _ _ _ _ _ rfl (wanted_of rfl rfl (by have h := hdep ⟨2, .guard⟩ (by simp) rfl; exact h)) ((hoth 1 (free2_of (by kernel_rfl))).trans rfl) ((hM3.get 0 rfl).on hbel) Tryd.underlying30 rfl (info_ptc _) (symVT hX hsz rfl (show 6 < 18 by decide) rfl (Below.refl _ _) rfl)
  · intro A W hsz hoth hbel hX hdep
    exact kLoadRow _ _ _ _ _ _ rfl (wanted_of rfl rfl (by have h := hdep ⟨2, .guard⟩ (by simp) rfl; exact h)) ((hoth 1 (free2_of (by kernel_rfl))).trans rfl) ((hM3.get 0 rfl).on hbel) Tryd.underlying30 rfl (info_ptc _) (symVT hX hsz rfl (show 7 < 18 by decide) rfl (Below.refl _ _) rfl)
  · intro A W hsz hoth hbel hX hdep
    refine kCall1 22 _ _ _ rfl (wanted_of rfl rfl (by have h := hdep ⟨2, .chain⟩ (by simp) rfl; exact h)) (by kernel_rfl) (by have h := hdep ⟨4, .data⟩ (by simp) rfl; exact h) ?_
    refine (cNeg_pt gPt W ((hG.below hM3.below).below hbel)).mono ?_
    rintro e r ⟨rfl, hBc⟩
    exact ⟨_, rfl, (symVT hX hsz rfl (show 8 < 18 by decide) rfl hBc rfl)⟩
  · intro A W hsz hoth hbel hX hdep
    refine kCall2 13 _ _ _ _ _ rfl (wanted_of rfl rfl (by have h := hdep ⟨2, .guard⟩ (by simp) rfl; exact h)) (by kernel_rfl) (by have h := hdep ⟨3, .data⟩ (by simp) rfl; exact h) (by have h := hdep ⟨5, .data⟩ (by simp) rfl; exact h) ?_
    refine (cAdd_pt gPt_on (Pt.neg_on gPt_on) W ((hG.below hM3.below).below hbel) ((hO.below hM3.below).below hbel)).mono ?_
    rintro e r ⟨rfl, hBc⟩
    exact ⟨_, rfl, (symVT hX hsz rfl (show 9 < 18 by decide) rfl hBc rfl)⟩
  · intro A W hsz hoth hbel hX hdep
    refine kCall0 17 _ rfl (wanted_of rfl rfl (by have h := hdep ⟨2, .guard⟩ (by simp) rfl; exact h)) (by kernel_rfl)  ?_
    refine (nowhere_any W).mono ?_
    rintro e r ⟨rfl, hBc⟩
    exact ⟨_, rfl, (symVT hX hsz rfl (show 10 < 18 by decide) rfl hBc rfl)⟩
  · intro A W hsz hoth hbel hX hdep
    exact kEqlPt _ _ _ (Pt.add ivP gPt gPt.neg) .o true rfl (wanted_of rfl rfl (by have h := hdep ⟨2, .guard⟩ (by simp) rfl; exact h)) (by have h := hdep ⟨6, .data⟩ (by simp) rfl; exact h) (by have h := hdep ⟨7, .data⟩ (by simp) rfl; exact h) (eq_yes (goodP.add_neg gPt)) (symVT hX hsz rfl (show 11 < 18 by decide) rfl (Below.refl _ _) rfl)
  · intro A W hsz hoth hbel hX hdep
    exact kPick _ _ _ true (.bool true) rfl rfl (by have h := hdep ⟨2, .data⟩ (by simp) rfl; exact h) (by have h := hdep ⟨8, .data⟩ (by simp) rfl; exact h) (symVT hX hsz rfl (show 12 < 18 by decide) rfl (Below.refl _ _) rfl)
  · intro A W hsz hoth hbel hX hdep
    exact kMoveV _ (.bool true) rfl rfl (by have h := hdep ⟨9, .data⟩ (by simp) rfl; exact h) (symVT hX hsz rfl (show 13 < 18 by decide) rfl (Below.refl _ _) rfl)
  · intro A W hsz hoth hbel hX hdep
    exact kLoadRow _ _ _ _ _ _ rfl (wanted_of rfl rfl (by have h := hdep ⟨10, .guard⟩ (by simp) rfl; exact h)) ((hoth 1 (free2_of (by kernel_rfl))).trans rfl) ((hM3.get 0 rfl).on hbel) Tryd.underlying30 rfl (info_ptc _) (symVT hX hsz rfl (show 14 < 18 by decide) rfl (Below.refl _ _) rfl)
  · intro A W hsz hoth hbel hX hdep
    refine kCall0 26 _ rfl (wanted_of rfl rfl (by have h := hdep ⟨10, .chain⟩ (by simp) rfl; exact h)) (by kernel_rfl)  ?_
    refine (eBase_any W).mono ?_
    rintro e r ⟨rfl, hBc⟩
    exact ⟨_, rfl, (symVT hX hsz rfl (show 15 < 18 by decide) rfl hBc rfl)⟩
  · intro A W hsz hoth hbel hX hdep
    exact kEqlPt _ _ _ gPt gPt true rfl (wanted_of rfl rfl (by have h := hdep ⟨10, .guard⟩ (by simp) rfl; exact h)) (by have h := hdep ⟨11, .data⟩ (by simp) rfl; exact h) (by have h := hdep ⟨12, .data⟩ (by simp) rfl; exact h) (eq_yes rfl) (symVT hX hsz rfl (show 16 < 18 by decide) rfl (Below.refl _ _) rfl)
  · intro A W hsz hoth hbel hX hdep
    exact kPick _ _ _ true (.bool true) rfl rfl (by have h := hdep ⟨10, .data⟩ (by simp) rfl; exact h) (by have h := hdep ⟨13, .data⟩ (by simp) rfl; exact h) (symVT hX hsz rfl (show 17 < 18 by decide) rfl (Below.refl _ _) rfl)
  · intro A W hsz hoth hbel hX hdep
    exact kAssignV _ (.bool true) rfl rfl (by have h := hdep ⟨14, .data⟩ (by simp) rfl; exact h) (symVT hX hsz rfl (show 0 < 18 by decide) rfl (Below.refl _ _) rfl)
  intro w4 hB4
  dsimp only [AllV]
  intro hap
  dsimp only [putAll, List.take, List.drop]
  go_frame
  have hM4 := hM3.on hB4
  clear hB4 hM3 hap
  go_wp2_with fail
  go_ret
  exact ⟨rfl, hM4.below⟩
/-- the point of a pick -/
def pick (k : Nat) (b : Bool) : Pt PP := if b then (Pt.times ivP gPt k).neg else Pt.times ivP gPt k
theorem pick_on (k : Nat) (b : Bool) : (pick k b).On := by
  unfold pick; split
  · exact Pt.neg_on (goodP.times_on gPt_on k)
  · exact goodP.times_on gPt_on k
theorem wcells_small (k : Nat) (hk : k < 65536) : wcells k = #[.int .u64 (k : Int), .int .u64 0, .int .u64 0, .int .u64 0] := by
  have e : ∀ j, j < 4 → (limb k j : Int) = if j = 0 then (k : Int) else 0 := fun j hj => by
    unfold limb
    rcases j with _ | j
    · rw [show P64 0 = 1 by decide, Nat.div_one, Nat.mod_eq_of_lt (by omega)]; rfl
    · have : k < P64 (j + 1) := by
        have h1 : P64 1 ≤ P64 (j + 1) := Nat.pow_le_pow_right (by decide) (by omega)
        have h2 : 65536 < P64 1 := by decide
        omega
      rw [Nat.div_eq_of_lt this]; simp
  rw [wcells_lit, e 0 (by decide), e 1 (by decide), e 2 (by decide), e 3 (by decide)]; rfl
theorem built_w1 (v : Int) : Tryd.prog.built 24 [(0, .int .u64 v)] = some #[.int .u64 v, .int .u64 0, .int .u64 0, .int .u64 0] := by kernel_rfl
section
variable {ops : Array Oper} {Q : Exit → Act → World → Prop} {rest : List Oper} {o : Oper} {a : Act} {w : World}
theorem kBuildW1 (x : Operand) (k : Nat) (hk : k < 65536) (ho : o.op = .build 24 #[(0, x)]) (hg : Region.wanted o (yielded ops a.tmps) = true) (hx : a.eval x = .int .u64 (k : Int)) (h : wpList Tryd.prog ops Q rest (a.put o.dst (.agg (wcells k))) w) : wpList Tryd.prog ops Q (o :: rest) a w :=
  kBuildAny _ _ #[(0, .int .u64 (k : Int))] _ ho hg (by simp [hx]) (by rw [wcells_small k hk]; exact built_w1 _) h
theorem kConvU16 (x : Operand) (k : Nat) (hk : k < 65536) (ho : o.op = .convert 39 22 x) (hg : Region.wanted o (yielded ops a.tmps) = true) (hx : a.eval x = .int .u16 (k : Int)) (h : wpList Tryd.prog ops Q rest (a.put o.dst (.int .u64 (k : Int))) w) : wpList Tryd.prog ops Q (o :: rest) a w := by
  refine kPure _ hg ?_ h
  unfold execOp
  have e : IntKind.u64.wrap (k : Int) = (k : Int) := by rw [IntKind.wrap_u64]; omega
  simp [ho, hx, convert, run_underlying Tryd.underlying22, run_underlying Tryd.underlying39, e, Conv.intToInt]
end
set_option maxRecDepth 100000 in
set_option maxHeartbeats 8000000 in
theorem pickOf_any {k : Nat} (hk : k < 65536) (b : Bool) (w : World) : Calls Tryd.prog 19 #[.agg #[.int .u16 (k : Int), .bool b]] w fun e w' => e = .returned (.agg (ptc (pick k b))) ∧ Below w.heap.size w w' := by
  have mk : k < M256 := Nat.lt_trans hk (by decide)
  cases b with
  | false =>
    have hM0 := mm_nil w
    (try unfold WV)
    go_enter Tryd.func19, Tryd.ntmps19
    go_wp2_with (first
      | ((with_reducible change wpList _ _ _ (Oper.mk (some 1) _ _ _ _ _ :: _) _ _); refine mmBox hM0 _ _ (#[.int .u16 ((k : Int)), .bool false]) rfl rfl rfl ?_; intro w1 hM1; clear hM0; go_frame)
      | ((with_reducible change wpList _ _ _ (Oper.mk (some 2) _ _ _ _ _ :: _) _ _); refine mmAlloc hM1 _ _ rfl rfl zero_Point ?_; intro w2 hM2; clear hM1; go_frame))
    refine region_symT 7 _ [6] [3] [.val (.pointer (some ⟨w.heap.size, 0, none⟩)), .val (.int .u16 ((k : Int))), .val (.int .u64 ((k : Int))), .val (.agg (wcells k)), .val (.agg (ptc gPt)), .val (.agg (ptc (Pt.times ivP gPt k))), .hold w2.heap.size 30 (pcells 0 0 false)] rfl (by kernel_rfl) (by kernel_rfl) (by kernel_rfl) (by kernel_rfl) rfl (by intro s hs; simp only [List.mem_cons, List.not_mem_nil, or_false] at hs; rcases hs with rfl <;> rfl) (steps_all ⟨?_, ?_, ?_, ?_, ?_, ?_, ?_, trivial⟩) ?_
    · intro A W hsz hoth hbel hX hdep
      exact kFieldPick0 _ _ rfl rfl ((hoth 1 (free2_of (by kernel_rfl))).trans rfl) (symVT hX hsz rfl (show 4 < 20 by decide) rfl (Below.refl _ _) rfl)
    · intro A W hsz hoth hbel hX hdep
      exact kLoad1 _ _ _ _ _ _ _ _ rfl rfl (by have h := hdep ⟨0, .data⟩ (by simp) rfl; exact h) ((hM2.get 1 rfl).on hbel) Tryd.underlying39 rfl rfl (symVT hX hsz rfl (show 5 < 20 by decide) rfl (Below.refl _ _) rfl)
    · intro A W hsz hoth hbel hX hdep
      exact kConvU16 _ k hk rfl rfl (by have h := hdep ⟨1, .data⟩ (by simp) rfl; exact h)  (symVT hX hsz rfl (show 6 < 20 by decide) rfl (Below.refl _ _) rfl)
    · intro A W hsz hoth hbel hX hdep
      exact kBuildW1 _ k hk rfl rfl (by have h := hdep ⟨2, .data⟩ (by simp) rfl; exact h) (symVT hX hsz rfl (show 7 < 20 by decide) rfl (Below.refl _ _) rfl)
    · intro A W hsz hoth hbel hX hdep
      refine kCall0 26 _ rfl rfl (by kernel_rfl)  ?_
      refine (eBase_any W).mono ?_
      rintro e r ⟨rfl, hBc⟩
      exact ⟨_, rfl, (symVT hX hsz rfl (show 8 < 20 by decide) rfl hBc rfl)⟩
    · intro A W hsz hoth hbel hX hdep
      refine kCall2 25 _ _ _ _ _ rfl rfl (by kernel_rfl) (by have h := hdep ⟨3, .data⟩ (by simp) rfl; exact h) (by have h := hdep ⟨4, .data⟩ (by simp) rfl; exact h) ?_
      refine (eTimes_pt mk gPt_on W).mono ?_
      rintro e r ⟨rfl, hBc⟩
      exact ⟨_, rfl, (symVT hX hsz rfl (show 9 < 20 by decide) rfl hBc rfl)⟩
    · intro A W hsz hoth hbel hX hdep
      refine kAllocL _ _ rfl rfl zero_Point ?_
      intro r hR hl hBc
      exact (symAT hX hsz rfl (show 3 < 20 by decide) hl hBc ⟨_, rfl, hbel.size, hR⟩)
    intro w3 hB3
    dsimp only [AllV]
    intro g3_3 hg3_3 hR3_3
    intro hap
    dsimp only [putAll, List.take, List.drop]
    go_frame
    have hM3 := hM2.on hB3
    replace hM3 := hM3.cons hR3_3 (Nat.le_trans hM2.size hg3_3) (fun p hp => by have := hM2.lt hp; omega)
    clear hB3 hM2 hap hg3_3 hR3_3
    go_wp2_with (first
      | ((with_reducible change wpList _ _ _ (Oper.mk none (Op.store _ (Operand.tmp 3) (Operand.tmp 9)) _ _ _ _ :: _) _ _); refine mmStoreAt hM3 0 _ _ _ _ _ _ (ptc (Pt.times ivP gPt k)) rfl rfl rfl rfl rfl (info_ptc _) (by simp only [pcells_size, ptc_size]) (ptc_one _) ?_; intro w4 hM4; dsimp only [List.set] at hM4; clear hM3; go_frame)
      | ((with_reducible change wpList _ _ _ (Oper.mk (some 10) _ _ _ _ _ :: _) _ _); refine kFieldPick1 _ _ rfl rfl rfl ?_; go_frame)
      | ((with_reducible change wpList _ _ _ (Oper.mk (some 11) _ _ _ _ _ :: _) _ _); refine kLoad1 _ _ _ _ _ _ _ _ rfl rfl rfl (hM4.get 2 rfl) Tryd.underlying4 rfl rfl ?_; go_frame)
      | ((with_reducible change wpList _ _ _ (Oper.mk (some 19) _ _ _ _ _ :: _) _ _); refine kLoadRow _ _ _ _ _ _ rfl rfl rfl (hM4.get 0 rfl) Tryd.underlying30 rfl (info_ptc _) ?_; go_frame)
      | ((with_reducible change wpList _ _ _ (Oper.mk none (Op.store _ (Operand.tmp 2) (Operand.tmp 19)) _ _ _ _ :: _) _ _); refine mmStoreAt hM4 1 _ _ _ _ _ _ (ptc (Pt.times ivP gPt k)) rfl rfl rfl rfl rfl (info_ptc _) (by simp only [pcells_size, ptc_size]) (ptc_one _) ?_; intro w5 hM5; dsimp only [List.set] at hM5; clear hM4; go_frame))
    exact result_row Tryd.results19 rfl (hM5.get 1 rfl) Tryd.underlying30 rfl (info_ptc _) rfl ⟨rfl, hM5.below⟩
  | true =>
    cases hq : Pt.times ivP gPt k with
    | o =>
      have F14 := Lib.hid (show (ptc (Pt.times ivP gPt k))[8]? = some (.bool true) by rw [hq]; rfl)
      have R := Lib.hid (show ptc (Pt.times ivP gPt k) = ptc (pick k true) by unfold pick; rw [if_pos rfl, hq]; rfl)
      clear hq
      have hM0 := mm_nil w
      (try unfold WV)
      go_enter Tryd.func19, Tryd.ntmps19
      go_wp2_with (first
        | ((with_reducible change wpList _ _ _ (Oper.mk (some 1) _ _ _ _ _ :: _) _ _); refine mmBox hM0 _ _ (#[.int .u16 ((k : Int)), .bool true]) rfl rfl rfl ?_; intro w1 hM1; clear hM0; go_frame)
        | ((with_reducible change wpList _ _ _ (Oper.mk (some 2) _ _ _ _ _ :: _) _ _); refine mmAlloc hM1 _ _ rfl rfl zero_Point ?_; intro w2 hM2; clear hM1; go_frame))
      refine region_symT 7 _ [6] [3] [.val (.pointer (some ⟨w.heap.size, 0, none⟩)), .val (.int .u16 ((k : Int))), .val (.int .u64 ((k : Int))), .val (.agg (wcells k)), .val (.agg (ptc gPt)), .val (.agg (ptc (Pt.times ivP gPt k))), .hold w2.heap.size 30 (pcells 0 0 false)] rfl (by kernel_rfl) (by kernel_rfl) (by kernel_rfl) (by kernel_rfl) rfl (by intro s hs; simp only [List.mem_cons, List.not_mem_nil, or_false] at hs; rcases hs with rfl <;> rfl) (steps_all ⟨?_, ?_, ?_, ?_, ?_, ?_, ?_, trivial⟩) ?_
      · intro A W hsz hoth hbel hX hdep
        exact kFieldPick0 _ _ rfl rfl ((hoth 1 (free2_of (by kernel_rfl))).trans rfl) (symVT hX hsz rfl (show 4 < 20 by decide) rfl (Below.refl _ _) rfl)
      · intro A W hsz hoth hbel hX hdep
        exact kLoad1 _ _ _ _ _ _ _ _ rfl rfl (by have h := hdep ⟨0, .data⟩ (by simp) rfl; exact h) ((hM2.get 1 rfl).on hbel) Tryd.underlying39 rfl rfl (symVT hX hsz rfl (show 5 < 20 by decide) rfl (Below.refl _ _) rfl)
      · intro A W hsz hoth hbel hX hdep
        exact kConvU16 _ k hk rfl rfl (by have h := hdep ⟨1, .data⟩ (by simp) rfl; exact h)  (symVT hX hsz rfl (show 6 < 20 by decide) rfl (Below.refl _ _) rfl)
      · intro A W hsz hoth hbel hX hdep
        exact kBuildW1 _ k hk rfl rfl (by have h := hdep ⟨2, .data⟩ (by simp) rfl; exact h) (symVT hX hsz rfl (show 7 < 20 by decide) rfl (Below.refl _ _) rfl)
      · intro A W hsz hoth hbel hX hdep
        refine kCall0 26 _ rfl rfl (by kernel_rfl)  ?_
        refine (eBase_any W).mono ?_
        rintro e r ⟨rfl, hBc⟩
        exact ⟨_, rfl, (symVT hX hsz rfl (show 8 < 20 by decide) rfl hBc rfl)⟩
      · intro A W hsz hoth hbel hX hdep
        refine kCall2 25 _ _ _ _ _ rfl rfl (by kernel_rfl) (by have h := hdep ⟨3, .data⟩ (by simp) rfl; exact h) (by have h := hdep ⟨4, .data⟩ (by simp) rfl; exact h) ?_
        refine (eTimes_pt mk gPt_on W).mono ?_
        rintro e r ⟨rfl, hBc⟩
        exact ⟨_, rfl, (symVT hX hsz rfl (show 9 < 20 by decide) rfl hBc rfl)⟩
      · intro A W hsz hoth hbel hX hdep
        refine kAllocL _ _ rfl rfl zero_Point ?_
        intro r hR hl hBc
        exact (symAT hX hsz rfl (show 3 < 20 by decide) hl hBc ⟨_, rfl, hbel.size, hR⟩)
      intro w3 hB3
      dsimp only [AllV]
      intro g3_3 hg3_3 hR3_3
      intro hap
      dsimp only [putAll, List.take, List.drop]
      go_frame
      have hM3 := hM2.on hB3
      replace hM3 := hM3.cons hR3_3 (Nat.le_trans hM2.size hg3_3) (fun p hp => by have := hM2.lt hp; omega)
      clear hB3 hM2 hap hg3_3 hR3_3
      go_wp2_with (first
        | ((with_reducible change wpList _ _ _ (Oper.mk none (Op.store _ (Operand.tmp 3) (Operand.tmp 9)) _ _ _ _ :: _) _ _); refine mmStoreAt hM3 0 _ _ _ _ _ _ (ptc (Pt.times ivP gPt k)) rfl rfl rfl rfl rfl (info_ptc _) (by simp only [pcells_size, ptc_size]) (ptc_one _) ?_; intro w4 hM4; dsimp only [List.set] at hM4; clear hM3; go_frame)
        | ((with_reducible change wpList _ _ _ (Oper.mk (some 10) _ _ _ _ _ :: _) _ _); refine kFieldPick1 _ _ rfl rfl rfl ?_; go_frame)
        | ((with_reducible change wpList _ _ _ (Oper.mk (some 11) _ _ _ _ _ :: _) _ _); refine kLoad1 _ _ _ _ _ _ _ _ rfl rfl rfl (hM4.get 2 rfl) Tryd.underlying4 rfl rfl ?_; go_frame)
        | ((with_reducible change wpList _ _ _ (Oper.mk (some 13) _ _ _ _ _ :: _) _ _); refine kFieldPoint2 _ _ rfl rfl rfl ?_; go_frame)
        | ((with_reducible change wpList _ _ _ (Oper.mk (some 14) _ _ _ _ _ :: _) _ _); refine kLoad1 _ _ _ _ _ _ _ _ rfl rfl rfl (hM4.get 0 rfl) Tryd.underlying4 rfl (F14.out) ?_; go_frame)
        | ((with_reducible change wpList _ _ _ (Oper.mk (some 19) _ _ _ _ _ :: _) _ _); refine kLoadRow _ _ _ _ _ _ rfl rfl rfl (hM4.get 0 rfl) Tryd.underlying30 rfl (info_ptc _) ?_; go_frame)
        | ((with_reducible change wpList _ _ _ (Oper.mk none (Op.store _ (Operand.tmp 2) (Operand.tmp 19)) _ _ _ _ :: _) _ _); refine mmStoreAt hM4 1 _ _ _ _ _ _ (ptc (Pt.times ivP gPt k)) rfl rfl rfl rfl rfl (info_ptc _) (by simp only [pcells_size, ptc_size]) (ptc_one _) ?_; intro w5 hM5; dsimp only [List.set] at hM5; clear hM4; go_frame))
      exact result_row Tryd.results19 rfl (hM5.get 1 rfl) Tryd.underlying30 rfl (info_ptc _) rfl ⟨by rw [R.out], hM5.below⟩
    | mk qx qy =>
      have F14 := Lib.hid (show (ptc (Pt.times ivP gPt k))[8]? = some (.bool false) by rw [hq]; rfl)
      clear hq
      have hM0 := mm_nil w
      (try unfold WV)
      go_enter Tryd.func19, Tryd.ntmps19
      go_wp2_with (first
        | ((with_reducible change wpList _ _ _ (Oper.mk (some 1) _ _ _ _ _ :: _) _ _); refine mmBox hM0 _ _ (#[.int .u16 ((k : Int)), .bool true]) rfl rfl rfl ?_; intro w1 hM1; clear hM0; go_frame)
        | ((with_reducible change wpList _ _ _ (Oper.mk (some 2) _ _ _ _ _ :: _) _ _); refine mmAlloc hM1 _ _ rfl rfl zero_Point ?_; intro w2 hM2; clear hM1; go_frame))
      refine region_symT 7 _ [6] [3] [.val (.pointer (some ⟨w.heap.size, 0, none⟩)), .val (.int .u16 ((k : Int))), .val (.int .u64 ((k : Int))), .val (.agg (wcells k)), .val (.agg (ptc gPt)), .val (.agg (ptc (Pt.times ivP gPt k))), .hold w2.heap.size 30 (pcells 0 0 false)] rfl (by kernel_rfl) (by kernel_rfl) (by kernel_rfl) (by kernel_rfl) rfl (by intro s hs; simp only [List.mem_cons, List.not_mem_nil, or_false] at hs; rcases hs with rfl <;> rfl) (steps_all ⟨?_, ?_, ?_, ?_, ?_, ?_, ?_, trivial⟩) ?_
      · intro A W hsz hoth hbel hX hdep
        exact kFieldPick0 _ _ rfl rfl ((hoth 1 (free2_of (by kernel_rfl))).trans rfl) (symVT hX hsz rfl (show 4 < 20 by decide) rfl (Below.refl _ _) rfl)
      · intro A W hsz hoth hbel hX hdep
        exact kLoad1 _ _ _ _ _ _ _ _ rfl rfl (by have h := hdep ⟨0, .data⟩ (by simp) rfl; exact h) ((hM2.get 1 rfl).on hbel) Tryd.underlying39 rfl rfl (symVT hX hsz rfl (show 5 < 20 by decide) rfl (Below.refl _ _) rfl)
      · intro A W hsz hoth hbel hX hdep
        exact kConvU16 _ k hk rfl rfl (by have h := hdep ⟨1, .data⟩ (by simp) rfl; exact h)  (symVT hX hsz rfl (show 6 < 20 by decide) rfl (Below.refl _ _) rfl)
      · intro A W hsz hoth hbel hX hdep
        exact kBuildW1 _ k hk rfl rfl (by have h := hdep ⟨2, .data⟩ (by simp) rfl; exact h) (symVT hX hsz rfl (show 7 < 20 by decide) rfl (Below.refl _ _) rfl)
      · intro A W hsz hoth hbel hX hdep
        refine kCall0 26 _ rfl rfl (by kernel_rfl)  ?_
        refine (eBase_any W).mono ?_
        rintro e r ⟨rfl, hBc⟩
        exact ⟨_, rfl, (symVT hX hsz rfl (show 8 < 20 by decide) rfl hBc rfl)⟩
      · intro A W hsz hoth hbel hX hdep
        refine kCall2 25 _ _ _ _ _ rfl rfl (by kernel_rfl) (by have h := hdep ⟨3, .data⟩ (by simp) rfl; exact h) (by have h := hdep ⟨4, .data⟩ (by simp) rfl; exact h) ?_
        refine (eTimes_pt mk gPt_on W).mono ?_
        rintro e r ⟨rfl, hBc⟩
        exact ⟨_, rfl, (symVT hX hsz rfl (show 9 < 20 by decide) rfl hBc rfl)⟩
      · intro A W hsz hoth hbel hX hdep
        refine kAllocL _ _ rfl rfl zero_Point ?_
        intro r hR hl hBc
        exact (symAT hX hsz rfl (show 3 < 20 by decide) hl hBc ⟨_, rfl, hbel.size, hR⟩)
      intro w3 hB3
      dsimp only [AllV]
      intro g3_3 hg3_3 hR3_3
      intro hap
      dsimp only [putAll, List.take, List.drop]
      go_frame
      have hM3 := hM2.on hB3
      replace hM3 := hM3.cons hR3_3 (Nat.le_trans hM2.size hg3_3) (fun p hp => by have := hM2.lt hp; omega)
      clear hB3 hM2 hap hg3_3 hR3_3
      go_wp2_with (first
        | ((with_reducible change wpList _ _ _ (Oper.mk none (Op.store _ (Operand.tmp 3) (Operand.tmp 9)) _ _ _ _ :: _) _ _); refine mmStoreAt hM3 0 _ _ _ _ _ _ (ptc (Pt.times ivP gPt k)) rfl rfl rfl rfl rfl (info_ptc _) (by simp only [pcells_size, ptc_size]) (ptc_one _) ?_; intro w4 hM4; dsimp only [List.set] at hM4; clear hM3; go_frame)
        | ((with_reducible change wpList _ _ _ (Oper.mk (some 10) _ _ _ _ _ :: _) _ _); refine kFieldPick1 _ _ rfl rfl rfl ?_; go_frame)
        | ((with_reducible change wpList _ _ _ (Oper.mk (some 11) _ _ _ _ _ :: _) _ _); refine kLoad1 _ _ _ _ _ _ _ _ rfl rfl rfl (hM4.get 2 rfl) Tryd.underlying4 rfl rfl ?_; go_frame)
        | ((with_reducible change wpList _ _ _ (Oper.mk (some 13) _ _ _ _ _ :: _) _ _); refine kFieldPoint2 _ _ rfl rfl rfl ?_; go_frame)
        | ((with_reducible change wpList _ _ _ (Oper.mk (some 14) _ _ _ _ _ :: _) _ _); refine kLoad1 _ _ _ _ _ _ _ _ rfl rfl rfl (hM4.get 0 rfl) Tryd.underlying4 rfl (F14.out) ?_; go_frame)
        | ((with_reducible change wpList _ _ _ (Oper.mk (some 17) _ _ _ _ _ :: _) _ _); refine kLoadRow _ _ _ _ _ _ rfl rfl rfl (hM4.get 0 rfl) Tryd.underlying30 rfl (info_ptc _) ?_; go_frame)
        | (go_at_call 23; (with_reducible change Calls _ _ #[Value.agg (ptc (Pt.times ivP gPt k))] _ _); refine (eNeg_pt (Pt.times ivP gPt k) _).mono ?_; rintro e w5 ⟨rfl, hB5⟩; have hM5 := hM4.on hB5; clear hB5 hM4; (try unfold WV); go_frame)
        | ((with_reducible change wpList _ _ _ (Oper.mk none (Op.store _ (Operand.tmp 3) (Operand.tmp 18)) _ _ _ _ :: _) _ _); refine mmStoreAt hM5 0 _ _ _ _ _ _ (ptc ((Pt.times ivP gPt k).neg)) rfl rfl rfl rfl rfl (info_ptc _) (by simp only [ptc_size]) (ptc_one _) ?_; intro w6 hM6; dsimp only [List.set] at hM6; clear hM5; go_frame)
        | ((with_reducible change wpList _ _ _ (Oper.mk (some 19) _ _ _ _ _ :: _) _ _); refine kLoadRow _ _ _ _ _ _ rfl rfl rfl (hM6.get 0 rfl) Tryd.underlying30 rfl (info_ptc _) ?_; go_frame)
        | ((with_reducible change wpList _ _ _ (Oper.mk none (Op.store _ (Operand.tmp 2) (Operand.tmp 19)) _ _ _ _ :: _) _ _); refine mmStoreAt hM6 1 _ _ _ _ _ _ (ptc ((Pt.times ivP gPt k).neg)) rfl rfl rfl rfl rfl (info_ptc _) (by simp only [pcells_size, ptc_size]) (ptc_one _) ?_; intro w7 hM7; dsimp only [List.set] at hM7; clear hM6; go_frame))
      exact result_row Tryd.results19 rfl (hM7.get 1 rfl) Tryd.underlying30 rfl (info_ptc _) rfl ⟨rfl, hM7.below⟩
end Go.Proofs.YtecibidncelebaaDoor
