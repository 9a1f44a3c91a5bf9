/-
  The walks of the statements CurveOn, CurveAdds, CurveTimes, CurveGroups and CurveNegs.
-/
import Derived.Test.YtecibidncelebaaDoorCvRef4
namespace Go.Proofs.YtecibidncelebaaDoor
open Go Go.RowKit

open Cv
theorem cBase_pt (w : World) (hB : GlobPt 1 gPt w) : Calls Tryd.prog 14 #[] w fun e w' => e = .returned (.agg (ptc gPt)) ∧ Below w.heap.size w w' := by
  unfold GlobPt at hB; rw [pX_g, pY_g] at hB; exact cBase_any w hB
theorem curveAlive_pt (w : World) (hG : Glob 2 PP w) (hO : GlobP 0 0 0 true w) (hB : GlobPt 1 gPt w) : Calls Tryd.prog 15 #[] w fun e w' => e = .returned (.bool true) ∧ Below w.heap.size w w' := by
  unfold GlobPt at hB; rw [pX_g, pY_g] at hB; exact curveAlive_any w hG hO hB
theorem cOn_as {x y : Nat} {c : Bool} (mx : x < M256) (my : y < M256) (b : Bool) (h : onB x y b = c) (w : World) (hG : Glob 2 PP w) (hO : GlobP 0 0 0 true w) : Calls Tryd.prog 20 #[.agg (pcells x y b)] w fun e w' => e = .returned (.bool c) ∧ Below w.heap.size w w' := h ▸ cOn_any mx my b w hG hO
theorem eOn_as {x y : Nat} {c : Bool} (mx : x < M256) (my : y < M256) (b : Bool) (h : onB x y b = c) (w : World) : Calls Tryd.prog 24 #[.agg (pcells x y b)] w fun e w' => e = .returned (.bool c) ∧ Below w.heap.size w w' := h ▸ eOn_any mx my b w
theorem cNeg_q {p r : Pt PP} (h : p.neg = r) (w : World) (hG : Glob 2 PP w) : Calls Tryd.prog 22 #[.agg (ptc p)] w fun e w' => e = .returned (.agg (ptc r)) ∧ Below w.heap.size w w' := h ▸ cNeg_pt p w hG
theorem eNeg_q {p r : Pt PP} (h : p.neg = r) (w : World) : Calls Tryd.prog 23 #[.agg (ptc p)] w fun e w' => e = .returned (.agg (ptc r)) ∧ Below w.heap.size w w' := h ▸ eNeg_pt p w
theorem cAdd_q {p q r : Pt PP} (hp : p.On) (hq : q.On) (h : Pt.add ivP p q = r) (w : World) (hG : Glob 2 PP w) (hO : GlobP 0 0 0 true w) : Calls Tryd.prog 13 #[.agg (ptc p), .agg (ptc q)] w fun e w' => e = .returned (.agg (ptc r)) ∧ Below w.heap.size w w' := h ▸ cAdd_pt hp hq w hG hO
theorem eAdd_q {p q r : Pt PP} (hp : p.On) (hq : q.On) (h : Pt.add ivP p q = r) (w : World) : Calls Tryd.prog 21 #[.agg (ptc p), .agg (ptc q)] w fun e w' => e = .returned (.agg (ptc r)) ∧ Below w.heap.size w w' := h ▸ eAdd_pt hp hq w
theorem cTimes_q {k : Nat} {p r : Pt PP} (mk : k < M256) (hp : p.On) (h : Pt.times ivP p k = r) (w : World) (hG : Glob 2 PP w) (hO : GlobP 0 0 0 true w) (hB : GlobPt 1 gPt w) : Calls Tryd.prog 16 #[WV k, .agg (ptc p)] w fun e w' => e = .returned (.agg (ptc r)) ∧ Below w.heap.size w w' := h ▸ cTimes_pt mk hp w hG hO hB
theorem eTimes_q {k : Nat} {p r : Pt PP} (mk : k < M256) (hp : p.On) (h : Pt.times ivP p k = r) (w : World) : Calls Tryd.prog 25 #[WV k, .agg (ptc p)] w fun e w' => e = .returned (.agg (ptc r)) ∧ Below w.heap.size w w' := h ▸ eTimes_pt mk hp w
theorem cBoth_q {k m : Nat} {p r : Pt PP} (mk : k < M256) (mm : m < M256) (hp : p.On) (h : both ivP gPt p k m = r) (w : World) (hG : Glob 2 PP w) (hO : GlobP 0 0 0 true w) (hB : GlobPt 1 gPt w) : Calls Tryd.prog 27 #[WV k, WV m, .agg (ptc p)] w fun e w' => e = .returned (.agg (ptc r)) ∧ Below w.heap.size w w' := h ▸ cBoth_pt mk mm hp w hG hO hB
theorem pickOf_q {k : Nat} {r : Pt PP} (hk : k < 65536) (b : Bool) (h : pick k b = r) (w : World) : Calls Tryd.prog 19 #[.agg #[.int .u16 (k : Int), .bool b]] w fun e w' => e = .returned (.agg (ptc r)) ∧ Below w.heap.size w w' := h ▸ pickOf_any hk b w
theorem ptc_at0 (p : Pt PP) : (ptc p).extract 0 (0 + 4) = wcells (pX p) := by rw [ptc_eq]; exact pcells_at0 _ _ _
theorem pX_neg (p : Pt PP) : pX p.neg = pX p := by cases p <;> rfl
/-- any pick is the base, so many times -/
theorem pick_times (k : Nat) (b : Bool) : ∃ j, pick k b = Pt.times ivP gPt j := by
  unfold pick
  split
  · refine ⟨NN - k % NN, ?_⟩
    rw [goodP.neg_times gPt_on base_N (Nat.le_of_lt (Nat.mod_lt _ (by decide))), goodP.times_mod gPt_on base_N]
  · exact ⟨k, rfl⟩
theorem pick_N (k : Nat) (b : Bool) : Pt.times ivP (pick k b) NN = .o := by
  obtain ⟨j, e⟩ := pick_times k b
  rw [e, goodP.times_mul gPt_on, Nat.mul_comm, ← goodP.times_mul gPt_on, base_N, goodP.times_o]
theorem info_u32 : (Tryd.prog.info? 51).map (·.size) = some 1 := by kernel_rfl
theorem info_arr2u32 : (Tryd.prog.info? 52).map (·.size) = some 2 := by kernel_rfl
section
variable {ops : Array Oper} {Q : Exit → Act → World → Prop} {rest : List Oper} {o : Oper} {a : Act} {w : World}
theorem kConvU32 (x : Operand) (k : Nat) (hk : k < 4294967296) (ho : o.op = .convert 51 22 x) (hg : Region.wanted o (yielded ops a.tmps) = true) (hx : a.eval x = .int .u32 (k : Int)) (h : wpList Tryd.prog ops Q rest (a.put o.dst (.int .u64 (k : Int))) w) : wpList Tryd.prog ops Q (o :: rest) a w := by
  refine kPure _ hg ?_ h
  unfold execOp
  have e : IntKind.u64.wrap (k : Int) = (k : Int) := by rw [IntKind.wrap_u64]; omega
  simp [ho, hx, convert, run_underlying Tryd.underlying22, run_underlying Tryd.underlying51, e, Conv.intToInt]
theorem kAddU (T T2 : TypeId) (x y : Operand) (m n : Nat) (ho : o.op = .binOp .add T x y T2) (hg : Region.wanted o (yielded ops a.tmps) = true) (hx : a.eval x = .int .u64 (m : Int)) (hy : a.eval y = .int .u64 (n : Int)) (hz : m + n < 18446744073709551616) (h : wpList Tryd.prog ops Q rest (a.put o.dst (.int .u64 ((m + n : Nat) : Int))) w) : wpList Tryd.prog ops Q (o :: rest) a w := by
  refine kPure _ hg ?_ h
  unfold execOp
  simp only [ho, hx, hy]
  have e : IntKind.u64.wrap ((m : Int) + (n : Int)) = ((m + n : Nat) : Int) := by rw [IntKind.wrap_u64]; omega
  simp [eqGuard, binOp, Op.intArith, e]
theorem kSubU (T T2 : TypeId) (x y : Operand) (m n z : Int) (ho : o.op = .binOp .sub T x y T2) (hg : Region.wanted o (yielded ops a.tmps) = true) (hx : a.eval x = .int .u64 m) (hy : a.eval y = .int .u64 n) (hz : m - n = z ∧ 0 ≤ z ∧ z < 18446744073709551616) (h : wpList Tryd.prog ops Q rest (a.put o.dst (.int .u64 z)) w) : wpList Tryd.prog ops Q (o :: rest) a w := by
  obtain ⟨rfl, h1, h2⟩ := hz
  refine kPure _ hg ?_ h
  unfold execOp
  simp only [ho, hx, hy]
  have e : IntKind.u64.wrap (m - n) = m - n := by rw [IntKind.wrap_u64]; omega
  simp [eqGuard, binOp, Op.intArith, e]
theorem mmStore1 {w0 : World} {l : List (Nat × TypeId × Array Value)} (hM : Mm w0 w l) (i : Nat) (T U : TypeId) (g : Nat) (x y : Operand) (off : Nat) (cs : Array Value) (v : Value) (ds : Array Value) (hi : l[i]? = some (g, U, cs)) (ho : o.op = .store T x y) (hg : Region.wanted o (yielded ops a.tmps) = true) (hx : a.eval x = .pointer (some ⟨g, off, none⟩)) (hy : a.eval y = v) (hs : (Tryd.prog.info? T).map (·.size) = some 1) (hn : off < cs.size) (h1 : v.oneCell' = true) (hd : cs.setIfInBounds off v = ds)
    (h : ∀ w1, Mm w0 w1 (l.set i (g, U, ds)) → wpList Tryd.prog ops Q rest (a.put o.dst undef) w1) : wpList Tryd.prog ops Q (o :: rest) a w :=
  kStore1 _ _ x y g off _ _ ho hg hx hy (hM.get i hi) hs hn h1 fun w1 hr hw => h w1 (by rw [hd] at hr; exact hM.putAt i hi hw hr)
end
theorem limbs_N : limb NN 0 - 1 = limb (NN - 1) 0 ∧ limb NN 1 = limb (NN - 1) 1 ∧ limb NN 2 = limb (NN - 1) 2 ∧ limb NN 3 = limb (NN - 1) 3 ∧ 0 < limb NN 0 := by decide +kernel
theorem less_one : (wcells NN).setIfInBounds 0 (.int .u64 ((limb NN 0 : Int) - 1)) = wcells (NN - 1) := by
  obtain ⟨h0, h1, h2, h3, h4⟩ := limbs_N
  rw [wcells_lit, wcells_lit, ← h1, ← h2, ← h3, ← h0]
  have e : ((limb NN 0 - 1 : Nat) : Int) = (limb NN 0 : Int) - 1 := by omega
  rw [e]; rfl
set_option maxRecDepth 100000 in
set_option maxHeartbeats 8000000 in
theorem CurveOn_any {x y : Nat} (mx : x < M256) (my : y < M256) (b : Bool) (w : World) (hG : Glob 2 PP w) (hO : GlobP 0 0 0 true w) (hB : GlobPt 1 gPt w) :
    Calls Tryd.prog 5 #[.agg (pcells x y b)] w fun e w' => e = .returned (.bool true) ∧ Below w.heap.size w w' := by
  obtain ⟨bb, Hb⟩ : ∃ c, Hid (onB x y b = c) := ⟨_, Lib.hid rfl⟩
  have hM0 := mm_nil w
  (try unfold WV)
  go_enter Tryd.func5, Tryd.ntmps5
  go_wp2_with (first
    | ((with_reducible change wpList _ _ _ (Oper.mk (some 1) _ _ _ _ _ :: _) _ _); refine mmBox hM0 _ _ (pcells x y b) rfl rfl rfl ?_; intro w1 hM1; clear hM0; go_frame)
    | (go_at_call 15; refine (curveAlive_pt _ (hG.below hM1.below) (hO.below hM1.below) (hB.below hM1.below)).mono ?_; rintro e w2 ⟨rfl, hB2⟩; have hM2 := hM1.on hB2; clear hB2 hM1; (try unfold WV); go_frame))
  refine region_symT 6 _ [] [] [.val (.agg (pcells x y b)), .val (.bool bb), .val (.agg (pcells x y b)), .val (.bool bb), .val (.bool true), .val (.bool true)] rfl (by kernel_rfl) (by kernel_rfl) (by kernel_rfl) (by kernel_rfl) rfl (by intro s hs; cases hs) (steps_all ⟨?_, ?_, ?_, ?_, ?_, ?_, trivial⟩) ?_
  · intro A W hsz hoth hbel hX hdep
    exact kLoadRow _ _ _ _ _ _ rfl rfl ((hoth 1 (free2_of (by kernel_rfl))).trans rfl) ((hM2.get 0 rfl).on hbel) Tryd.underlying30 rfl (info_PointC _ _ _) (symVT hX hsz rfl (show 5 < 10 by decide) rfl (Below.refl _ _) rfl)
  · intro A W hsz hoth hbel hX hdep
    refine kCall1 20 _ _ _ rfl rfl (by kernel_rfl) (by have h := hdep ⟨0, .data⟩ (by simp) rfl; exact h) ?_
    refine (cOn_as mx my b Hb.out W ((hG.below hM2.below).below hbel) ((hO.below hM2.below).below hbel)).mono ?_
    rintro e r ⟨rfl, hBc⟩
    exact ⟨_, rfl, (symVT hX hsz rfl (show 6 < 10 by decide) rfl hBc rfl)⟩
  · intro A W hsz hoth hbel hX hdep
    exact kLoadRow _ _ _ _ _ _ rfl rfl ((hoth 1 (free2_of (by kernel_rfl))).trans rfl) ((hM2.get 0 rfl).on hbel) Tryd.underlying30 rfl (info_PointC _ _ _) (symVT hX hsz rfl (show 7 < 10 by decide) rfl (Below.refl _ _) rfl)
  · intro A W hsz hoth hbel hX hdep
    refine kCall1 24 _ _ _ rfl rfl (by kernel_rfl) (by have h := hdep ⟨2, .data⟩ (by simp) rfl; exact h) ?_
    refine (eOn_as mx my b Hb.out W).mono ?_
    rintro e r ⟨rfl, hBc⟩
    exact ⟨_, rfl, (symVT hX hsz rfl (show 8 < 10 by decide) rfl hBc rfl)⟩
  · intro A W hsz hoth hbel hX hdep
    exact kEqlBool _ _ _ _ bb bb true rfl rfl (by have h := hdep ⟨1, .data⟩ (by simp) rfl; exact h) (by have h := hdep ⟨3, .data⟩ (by simp) rfl; exact h) Tryd.underlying4 (by simp) (symVT hX hsz rfl (show 9 < 10 by decide) rfl (Below.refl _ _) rfl)
  · intro A W hsz hoth hbel hX hdep
    exact kAssignV _ (.bool true) rfl rfl (by have h := hdep ⟨4, .data⟩ (by simp) rfl; exact h) (symVT hX hsz rfl (show 2 < 10 by decide) rfl (Below.refl _ _) rfl)
  intro w3 hB3
  dsimp only [AllV]
  intro hap
  dsimp only [putAll, List.take, List.drop]
  go_frame
  have hM3 := hM2.on hB3
  clear hB3 hM2 hap
  go_wp2_with fail
  go_ret
  exact ⟨rfl, hM3.below⟩
set_option maxRecDepth 100000 in
set_option maxHeartbeats 8000000 in
theorem CurveAdds_any {k1 : Nat} (hk1 : k1 < 65536) (b1 : Bool) {k2 : Nat} (hk2 : k2 < 65536) (b2 : Bool) (w : World) (hG : Glob 2 PP w) (hO : GlobP 0 0 0 true w) (hB : GlobPt 1 gPt w) :
    Calls Tryd.prog 4 #[.agg #[.int .u16 (k1 : Int), .bool b1], .agg #[.int .u16 (k2 : Int), .bool b2]] w fun e w' => e = .returned (.bool true) ∧ Below w.heap.size w w' := by
  obtain ⟨pa, HP1⟩ : ∃ q, Hid (pick k1 b1 = q) := ⟨_, Lib.hid rfl⟩
  have opa : pa.On := by rw [← HP1.out]; exact pick_on _ _
  obtain ⟨pb, HP2⟩ : ∃ q, Hid (pick k2 b2 = q) := ⟨_, Lib.hid rfl⟩
  have opb : pb.On := by rw [← HP2.out]; exact pick_on _ _
  cases hn : pN pa with
  | true =>
    obtain ⟨q22, Hq22⟩ : ∃ q, Hid (Pt.add ivP pa pb = q) := ⟨_, Lib.hid rfl⟩
    have oq22 : q22.On := by rw [← Hq22.out]; exact goodP.add_on opa opb
    obtain ⟨q25, Hq25⟩ : ∃ q, Hid (Pt.add ivP pa pb = q) := ⟨_, Lib.hid rfl⟩
    have oq25 : q25.On := by rw [← Hq25.out]; exact goodP.add_on opa opb
    have F30 := Lib.hid (show (ptc pa)[8]? = some (.bool true) by rw [pN_at, hn])
    have h26 := Lib.hid (Hq22.out.symm.trans Hq25.out)
    clear hn
    have hM0 := mm_nil w
    (try unfold WV)
    go_enter Tryd.func4, Tryd.ntmps4
    go_wp2_with (first
      | ((with_reducible change wpList _ _ _ (Oper.mk (some 2) _ _ _ _ _ :: _) _ _); refine mmBox hM0 _ _ (#[.int .u16 ((k1 : Int)), .bool b1]) rfl rfl rfl ?_; intro w1 hM1; clear hM0; go_frame)
      | ((with_reducible change wpList _ _ _ (Oper.mk (some 3) _ _ _ _ _ :: _) _ _); refine mmBox hM1 _ _ (#[.int .u16 ((k2 : Int)), .bool b2]) rfl rfl rfl ?_; intro w2 hM2; clear hM1; go_frame)
      | (go_at_call 15; refine (curveAlive_pt _ (hG.below hM2.below) (hO.below hM2.below) (hB.below hM2.below)).mono ?_; rintro e w3 ⟨rfl, hB3⟩; have hM3 := hM2.on hB3; clear hB3 hM2; (try unfold WV); go_frame))
    refine region_symT 6 _ [4, 5] [5, 6] [.val (.agg (#[.int .u16 ((k1 : Int)), .bool b1])), .val (.agg (ptc pa)), .val (.agg (#[.int .u16 ((k2 : Int)), .bool b2])), .val (.agg (ptc pb)), .hold w3.heap.size 30 (pcells 0 0 false), .hold w3.heap.size 30 (pcells 0 0 false)] rfl (by kernel_rfl) (by kernel_rfl) (by kernel_rfl) (by kernel_rfl) rfl (by intro s hs; simp only [List.mem_cons, List.not_mem_nil, or_false] at hs; rcases hs with rfl | rfl <;> rfl) (steps_all ⟨?_, ?_, ?_, ?_, ?_, ?_, trivial⟩) ?_
    · intro A W hsz hoth hbel hX hdep
      exact kLoadRow _ _ _ _ _ _ rfl rfl ((hoth 2 (free2_of (by kernel_rfl))).trans rfl) ((hM3.get 1 rfl).on hbel) Tryd.underlying41 rfl (info_PickC _ _) (symVT hX hsz rfl (show 9 < 39 by decide) rfl (Below.refl _ _) rfl)
    · intro A W hsz hoth hbel hX hdep
      refine kCall1 19 _ _ _ rfl rfl (by kernel_rfl) (by have h := hdep ⟨0, .data⟩ (by simp) rfl; exact h) ?_
      refine (pickOf_q hk1 b1 HP1.out W).mono ?_
      rintro e r ⟨rfl, hBc⟩
      exact ⟨_, rfl, (symVT hX hsz rfl (show 10 < 39 by decide) rfl hBc rfl)⟩
    · intro A W hsz hoth hbel hX hdep
      exact kLoadRow _ _ _ _ _ _ rfl rfl ((hoth 3 (free2_of (by kernel_rfl))).trans rfl) ((hM3.get 0 rfl).on hbel) Tryd.underlying41 rfl (info_PickC _ _) (symVT hX hsz rfl (show 11 < 39 by decide) rfl (Below.refl _ _) rfl)
    · intro A W hsz hoth hbel hX hdep
      refine kCall1 19 _ _ _ rfl rfl (by kernel_rfl) (by have h := hdep ⟨2, .data⟩ (by simp) rfl; exact h) ?_
      refine (pickOf_q hk2 b2 HP2.out W).mono ?_
      rintro e r ⟨rfl, hBc⟩
      exact ⟨_, rfl, (symVT hX hsz rfl (show 12 < 39 by decide) rfl hBc rfl)⟩
    · intro A W hsz hoth hbel hX hdep
      refine kAllocL _ _ rfl rfl zero_Point ?_
      intro r hR hl hBc
      exact (symAT hX hsz rfl (show 5 < 39 by decide) hl hBc ⟨_, rfl, hbel.size, hR⟩)
    · intro A W hsz hoth hbel hX hdep
      refine kAllocL _ _ rfl rfl zero_Point ?_
      intro r hR hl hBc
      exact (symAT hX hsz rfl (show 6 < 39 by decide) hl hBc ⟨_, rfl, hbel.size, hR⟩)
    intro w4 hB4
    dsimp only [AllV]
    intro g4_5 hg4_5 hR4_5
    intro g4_6 hg4_6 hR4_6
    intro hap
    dsimp only [putAll, List.take, List.drop]
    go_frame
    have hM4 := hM3.on hB4
    replace hM4 := hM4.cons hR4_5 (Nat.le_trans hM3.size hg4_5) (fun p hp => by have := hM3.lt hp; omega)
    have hne4_6_4_5 : g4_6 ≠ g4_5 := fun e => hap 5 (by simp) 4 (by simp) (by decide) g4_6 rfl (by rw [e]; rfl)
    replace hM4 := hM4.cons hR4_6 (Nat.le_trans hM3.size hg4_6) (List.forall_mem_cons.2 ⟨hne4_6_4_5, fun p hp => by have := hM3.lt hp; omega⟩)
    clear hB4 hM3 hap hg4_5 hR4_5 hg4_6 hR4_6
    go_wp2_with (first
      | ((with_reducible change wpList _ _ _ (Oper.mk none (Op.store _ (Operand.tmp 5) (Operand.tmp 10)) _ _ _ _ :: _) _ _); refine mmStoreAt hM4 1 _ _ _ _ _ _ (ptc pa) rfl rfl rfl rfl rfl (info_ptc _) (by simp only [pcells_size, ptc_size]) (ptc_one _) ?_; intro w5 hM5; dsimp only [List.set] at hM5; clear hM4; go_frame)
      | ((with_reducible change wpList _ _ _ (Oper.mk none (Op.store _ (Operand.tmp 6) (Operand.tmp 12)) _ _ _ _ :: _) _ _); refine mmStoreAt hM5 0 _ _ _ _ _ _ (ptc pb) rfl rfl rfl rfl rfl (info_ptc _) (by simp only [pcells_size, ptc_size]) (ptc_one _) ?_; intro w6 hM6; dsimp only [List.set] at hM6; clear hM5; go_frame))
    refine region_symT 27 _ [] [] [.val (.agg (ptc pa)), .val (.bool true), .val (.bool true), .val (.agg (ptc pb)), .val (.bool true), .val (.bool true), .val (.bool true), .val (.agg (ptc pa)), .val (.agg (ptc pb)), .val (.agg (ptc q22)), .val (.agg (ptc pa)), .val (.agg (ptc pb)), .val (.agg (ptc q25)), .val (.bool true), .val (.bool true), .val (.bool true), .val (.pointer (some ⟨g4_5, 8, none⟩)), .val (.bool true), .val (.bool true), .val (undef), .val (undef), .val (undef), .val (undef), .val (undef), .val (.bool true), .val (.bool true), .val (.bool true)] rfl (by kernel_rfl) (by kernel_rfl) (by kernel_rfl) (by kernel_rfl) rfl (by intro s hs; cases hs) (steps_all ⟨?_, ?_, ?_, ?_, ?_, ?_, ?_, ?_, ?_, ?_, ?_, ?_, ?_, ?_, ?_, ?_, ?_, ?_, ?_, ?_, ?_, ?_, ?_, ?_, ?_, ?_, ?_, trivial⟩) ?_
    · intro A W hsz hoth hbel hX hdep
      exact kLoadRow _ _ _ _ _ _ rfl rfl ((hoth 5 (free2_of (by kernel_rfl))).trans rfl) ((hM6.get 1 rfl).on hbel) Tryd.underlying30 rfl (info_ptc _) (symVT hX hsz rfl (show 13 < 39 by decide) rfl (Below.refl _ _) rfl)
    · intro A W hsz hoth hbel hX hdep
      refine kCall1 20 _ _ _ rfl rfl (by kernel_rfl) (by have h := hdep ⟨0, .data⟩ (by simp) rfl; exact h) ?_
      refine (cOn_pt opa W ((hG.below hM6.below).below hbel) ((hO.below hM6.below).below hbel)).mono ?_
      rintro e r ⟨rfl, hBc⟩
      exact ⟨_, rfl, (symVT hX hsz rfl (show 14 < 39 by decide) rfl hBc rfl)⟩
    · intro A W hsz hoth hbel hX hdep
      exact kMoveV _ (.bool true) rfl rfl (by have h := hdep ⟨1, .data⟩ (by simp) rfl; exact h) (symVT hX hsz rfl (show 15 < 39 by decide) rfl (Below.refl _ _) rfl)
    · intro A W hsz hoth hbel hX hdep
      exact kLoadRow _ _ _ _ _ _ rfl (wanted_of rfl rfl (by have h := hdep ⟨2, .guard⟩ (by simp) rfl; exact h)) ((hoth 6 (free2_of (by kernel_rfl))).trans rfl) ((hM6.get 0 rfl).on hbel) Tryd.underlying30 rfl (info_ptc _) (symVT hX hsz rfl (show 16 < 39 by decide) rfl (Below.refl _ _) rfl)
    · intro A W hsz hoth hbel hX hdep
      refine kCall1 20 _ _ _ rfl (wanted_of rfl rfl (by have h := hdep ⟨2, .chain⟩ (by simp) rfl; exact h)) (by kernel_rfl) (by have h := hdep ⟨3, .data⟩ (by simp) rfl; exact h) ?_
      refine (cOn_pt opb W ((hG.below hM6.below).below hbel) ((hO.below hM6.below).below hbel)).mono ?_
      rintro e r ⟨rfl, hBc⟩
      exact ⟨_, rfl, (symVT hX hsz rfl (show 17 < 39 by decide) rfl hBc rfl)⟩
    · intro A W hsz hoth hbel hX hdep
      exact kPick _ _ _ true (.bool true) rfl rfl (by have h := hdep ⟨2, .data⟩ (by simp) rfl; exact h) (by have h := hdep ⟨4, .data⟩ (by simp) rfl; exact h) (symVT hX hsz rfl (show 18 < 39 by decide) rfl (Below.refl _ _) rfl)
    · intro A W hsz hoth hbel hX hdep
      exact kMoveV _ (.bool true) rfl rfl (by have h := hdep ⟨5, .data⟩ (by simp) rfl; exact h) (symVT hX hsz rfl (show 19 < 39 by decide) rfl (Below.refl _ _) rfl)
    · intro A W hsz hoth hbel hX hdep
      exact kLoadRow _ _ _ _ _ _ rfl (wanted_of rfl rfl (by have h := hdep ⟨6, .guard⟩ (by simp) rfl; exact h)) ((hoth 5 (free2_of (by kernel_rfl))).trans rfl) ((hM6.get 1 rfl).on hbel) Tryd.underlying30 rfl (info_ptc _) (symVT hX hsz rfl (show 20 < 39 by decide) rfl (Below.refl _ _) rfl)
    · intro A W hsz hoth hbel hX hdep
      exact kLoadRow _ _ _ _ _ _ rfl (wanted_of rfl rfl (by have h := hdep ⟨6, .guard⟩ (by simp) rfl; exact h)) ((hoth 6 (free2_of (by kernel_rfl))).trans rfl) ((hM6.get 0 rfl).on hbel) Tryd.underlying30 rfl (info_ptc _) (symVT hX hsz rfl (show 21 < 39 by decide) rfl (Below.refl _ _) rfl)
    · intro A W hsz hoth hbel hX hdep
      refine kCall2 13 _ _ _ _ _ rfl (wanted_of rfl rfl (by have h := hdep ⟨6, .chain⟩ (by simp) rfl; exact h)) (by kernel_rfl) (by have h := hdep ⟨7, .data⟩ (by simp) rfl; exact h) (by have h := hdep ⟨8, .data⟩ (by simp) rfl; exact h) ?_
      refine (cAdd_q opa opb Hq22.out W ((hG.below hM6.below).below hbel) ((hO.below hM6.below).below hbel)).mono ?_
      rintro e r ⟨rfl, hBc⟩
      exact ⟨_, rfl, (symVT hX hsz rfl (show 22 < 39 by decide) rfl hBc rfl)⟩
    · intro A W hsz hoth hbel hX hdep
      exact kLoadRow _ _ _ _ _ _ rfl (wanted_of rfl rfl (by have h := hdep ⟨6, .guard⟩ (by simp) rfl; exact h)) ((hoth 5 (free2_of (by kernel_rfl))).trans rfl) ((hM6.get 1 rfl).on hbel) Tryd.underlying30 rfl (info_ptc _) (symVT hX hsz rfl (show 23 < 39 by decide) rfl (Below.refl _ _) rfl)
    · intro A W hsz hoth hbel hX hdep
      exact kLoadRow _ _ _ _ _ _ rfl (wanted_of rfl rfl (by have h := hdep ⟨6, .guard⟩ (by simp) rfl; exact h)) ((hoth 6 (free2_of (by kernel_rfl))).trans rfl) ((hM6.get 0 rfl).on hbel) Tryd.underlying30 rfl (info_ptc _) (symVT hX hsz rfl (show 24 < 39 by decide) rfl (Below.refl _ _) rfl)
    · intro A W hsz hoth hbel hX hdep
      refine kCall2 21 _ _ _ _ _ rfl (wanted_of rfl rfl (by have h := hdep ⟨6, .guard⟩ (by simp) rfl; exact h)) (by kernel_rfl) (by have h := hdep ⟨10, .data⟩ (by simp) rfl; exact h) (by have h := hdep ⟨11, .data⟩ (by simp) rfl; exact h) ?_
      refine (eAdd_q opa opb Hq25.out W).mono ?_
      rintro e r ⟨rfl, hBc⟩
      exact ⟨_, rfl, (symVT hX hsz rfl (show 25 < 39 by decide) rfl hBc rfl)⟩
    · intro A W hsz hoth hbel hX hdep
      exact kEqlPt _ _ _ q22 q25 true rfl (wanted_of rfl rfl (by have h := hdep ⟨6, .guard⟩ (by simp) rfl; exact h)) (by have h := hdep ⟨9, .data⟩ (by simp) rfl; exact h) (by have h := hdep ⟨12, .data⟩ (by simp) rfl; exact h) (eq_yes h26.out) (symVT hX hsz rfl (show 26 < 39 by decide) rfl (Below.refl _ _) rfl)
    · intro A W hsz hoth hbel hX hdep
      exact kPick _ _ _ true (.bool true) rfl rfl (by have h := hdep ⟨6, .data⟩ (by simp) rfl; exact h) (by have h := hdep ⟨13, .data⟩ (by simp) rfl; exact h) (symVT hX hsz rfl (show 27 < 39 by decide) rfl (Below.refl _ _) rfl)
    · intro A W hsz hoth hbel hX hdep
      exact kMoveV _ (.bool true) rfl rfl (by have h := hdep ⟨14, .data⟩ (by simp) rfl; exact h) (symVT hX hsz rfl (show 28 < 39 by decide) rfl (Below.refl _ _) rfl)
    · intro A W hsz hoth hbel hX hdep
      exact kFieldPoint2 _ _ rfl (wanted_of rfl rfl (by have h := hdep ⟨15, .guard⟩ (by simp) rfl; exact h)) ((hoth 5 (free2_of (by kernel_rfl))).trans rfl) (symVT hX hsz rfl (show 29 < 39 by decide) rfl (Below.refl _ _) rfl)
    · intro A W hsz hoth hbel hX hdep
      exact kLoad1 _ _ _ _ _ _ _ _ rfl (wanted_of rfl rfl (by have h := hdep ⟨15, .guard⟩ (by simp) rfl; exact h)) (by have h := hdep ⟨16, .data⟩ (by simp) rfl; exact h) ((hM6.get 1 rfl).on hbel) Tryd.underlying4 rfl (F30.out) (symVT hX hsz rfl (show 30 < 39 by decide) rfl (Below.refl _ _) rfl)
    · intro A W hsz hoth hbel hX hdep
      exact kMoveV _ (.bool true) rfl (wanted_of rfl rfl (by have h := hdep ⟨15, .chain⟩ (by simp) rfl; exact h)) (by have h := hdep ⟨17, .data⟩ (by simp) rfl; exact h) (symVT hX hsz rfl (show 31 < 39 by decide) rfl (Below.refl _ _) rfl)
    · intro A W hsz hoth hbel hX hdep
      exact wpList_skip (unwanted_of rfl rfl (by have h := hdep ⟨18, .guard⟩ (by simp) rfl; exact h) (.inl rfl)) (symVT hX hsz rfl (show 32 < 39 by decide) rfl (Below.refl _ _) rfl)
    · intro A W hsz hoth hbel hX hdep
      exact wpList_skip (unwanted_of rfl rfl (by have h := hdep ⟨18, .chain⟩ (by simp) rfl; exact h) (.inl rfl)) (symVT hX hsz rfl (show 33 < 39 by decide) rfl (Below.refl _ _) rfl)
    · intro A W hsz hoth hbel hX hdep
      exact wpList_skip (unwanted_of rfl rfl (by have h := hdep ⟨18, .guard⟩ (by simp) rfl; exact h) (.inl rfl)) (symVT hX hsz rfl (show 34 < 39 by decide) rfl (Below.refl _ _) rfl)
    · intro A W hsz hoth hbel hX hdep
      exact wpList_skip (unwanted_of rfl rfl (by have h := hdep ⟨18, .guard⟩ (by simp) rfl; exact h) (.inl rfl)) (symVT hX hsz rfl (show 35 < 39 by decide) rfl (Below.refl _ _) rfl)
    · intro A W hsz hoth hbel hX hdep
      exact wpList_skip (unwanted_of rfl rfl (by have h := hdep ⟨18, .guard⟩ (by simp) rfl; exact h) (.inl rfl)) (symVT hX hsz rfl (show 36 < 39 by decide) rfl (Below.refl _ _) rfl)
    · intro A W hsz hoth hbel hX hdep
      exact kPick _ _ _ true (.bool true) rfl (wanted_of rfl rfl (by have h := hdep ⟨15, .guard⟩ (by simp) rfl; exact h)) (by have h := hdep ⟨18, .data⟩ (by simp) rfl; exact h) rfl (symVT hX hsz rfl (show 37 < 39 by decide) rfl (Below.refl _ _) rfl)
    · intro A W hsz hoth hbel hX hdep
      exact kPick _ _ _ true (.bool true) rfl rfl (by have h := hdep ⟨15, .data⟩ (by simp) rfl; exact h) (by have h := hdep ⟨24, .data⟩ (by simp) rfl; exact h) (symVT hX hsz rfl (show 38 < 39 by decide) rfl (Below.refl _ _) rfl)
    · intro A W hsz hoth hbel hX hdep
      exact kAssignV _ (.bool true) rfl rfl (by have h := hdep ⟨25, .data⟩ (by simp) rfl; exact h) (symVT hX hsz rfl (show 4 < 39 by decide) rfl (Below.refl _ _) rfl)
    intro w7 hB7
    dsimp only [AllV]
    intro hap
    dsimp only [putAll, List.take, List.drop]
    go_frame
    have hM7 := hM6.on hB7
    clear hB7 hM6 hap
    go_wp2_with fail
    go_ret
    exact ⟨rfl, hM7.below⟩
  | false =>
    obtain ⟨q22, Hq22⟩ : ∃ q, Hid (Pt.add ivP pa pb = q) := ⟨_, Lib.hid rfl⟩
    have oq22 : q22.On := by rw [← Hq22.out]; exact goodP.add_on opa opb
    obtain ⟨q25, Hq25⟩ : ∃ q, Hid (Pt.add ivP pa pb = q) := ⟨_, Lib.hid rfl⟩
    have oq25 : q25.On := by rw [← Hq25.out]; exact goodP.add_on opa opb
    obtain ⟨q33, Hq33⟩ : ∃ q, Hid (pa.neg = q) := ⟨_, Lib.hid rfl⟩
    have oq33 : q33.On := by rw [← Hq33.out]; exact Pt.neg_on opa
    obtain ⟨q35, Hq35⟩ : ∃ q, Hid (pa.neg = q) := ⟨_, Lib.hid rfl⟩
    have oq35 : q35.On := by rw [← Hq35.out]; exact Pt.neg_on opa
    have F30 := Lib.hid (show (ptc pa)[8]? = some (.bool false) by rw [pN_at, hn])
    have h26 := Lib.hid (Hq22.out.symm.trans Hq25.out)
    have h36 := Lib.hid (Hq33.out.symm.trans Hq35.out)
    clear hn
    have hM0 := mm_nil w
    (try unfold WV)
    go_enter Tryd.func4, Tryd.ntmps4
    go_wp2_with (first
      | ((with_reducible change wpList _ _ _ (Oper.mk (some 2) _ _ _ _ _ :: _) _ _); refine mmBox hM0 _ _ (#[.int .u16 ((k1 : Int)), .bool b1]) rfl rfl rfl ?_; intro w1 hM1; clear hM0; go_frame)
      | ((with_reducible change wpList _ _ _ (Oper.mk (some 3) _ _ _ _ _ :: _) _ _); refine mmBox hM1 _ _ (#[.int .u16 ((k2 : Int)), .bool b2]) rfl rfl rfl ?_; intro w2 hM2; clear hM1; go_frame)
      | (go_at_call 15; refine (curveAlive_pt _ (hG.below hM2.below) (hO.below hM2.below) (hB.below hM2.below)).mono ?_; rintro e w3 ⟨rfl, hB3⟩; have hM3 := hM2.on hB3; clear hB3 hM2; (try unfold WV); go_frame))
    refine region_symT 6 _ [4, 5] [5, 6] [.val (.agg (#[.int .u16 ((k1 : Int)), .bool b1])), .val (.agg (ptc pa)), .val (.agg (#[.int .u16 ((k2 : Int)), .bool b2])), .val (.agg (ptc pb)), .hold w3.heap.size 30 (pcells 0 0 false), .hold w3.heap.size 30 (pcells 0 0 false)] rfl (by kernel_rfl) (by kernel_rfl) (by kernel_rfl) (by kernel_rfl) rfl (by intro s hs; simp only [List.mem_cons, List.not_mem_nil, or_false] at hs; rcases hs with rfl | rfl <;> rfl) (steps_all ⟨?_, ?_, ?_, ?_, ?_, ?_, trivial⟩) ?_
    · intro A W hsz hoth hbel hX hdep
      exact kLoadRow _ _ _ _ _ _ rfl rfl ((hoth 2 (free2_of (by kernel_rfl))).trans rfl) ((hM3.get 1 rfl).on hbel) Tryd.underlying41 rfl (info_PickC _ _) (symVT hX hsz rfl (show 9 < 39 by decide) rfl (Below.refl _ _) rfl)
    · intro A W hsz hoth hbel hX hdep
      refine kCall1 19 _ _ _ rfl rfl (by kernel_rfl) (by have h := hdep ⟨0, .data⟩ (by simp) rfl; exact h) ?_
      refine (pickOf_q hk1 b1 HP1.out W).mono ?_
      rintro e r ⟨rfl, hBc⟩
      exact ⟨_, rfl, (symVT hX hsz rfl (show 10 < 39 by decide) rfl hBc rfl)⟩
    · intro A W hsz hoth hbel hX hdep
      exact kLoadRow _ _ _ _ _ _ rfl rfl ((hoth 3 (free2_of (by kernel_rfl))).trans rfl) ((hM3.get 0 rfl).on hbel) Tryd.underlying41 rfl (info_PickC _ _) (symVT hX hsz rfl (show 11 < 39 by decide) rfl (Below.refl _ _) rfl)
    · intro A W hsz hoth hbel hX hdep
      refine kCall1 19 _ _ _ rfl rfl (by kernel_rfl) (by have h := hdep ⟨2, .data⟩ (by simp) rfl; exact h) ?_
      refine (pickOf_q hk2 b2 HP2.out W).mono ?_
      rintro e r ⟨rfl, hBc⟩
      exact ⟨_, rfl, (symVT hX hsz rfl (show 12 < 39 by decide) rfl hBc rfl)⟩
    · intro A W hsz hoth hbel hX hdep
      refine kAllocL _ _ rfl rfl zero_Point ?_
      intro r hR hl hBc
      exact (symAT hX hsz rfl (show 5 < 39 by decide) hl hBc ⟨_, rfl, hbel.size, hR⟩)
    · intro A W hsz hoth hbel hX hdep
      refine kAllocL _ _ rfl rfl zero_Point ?_
      intro r hR hl hBc
      exact (symAT hX hsz rfl (show 6 < 39 by decide) hl hBc ⟨_, rfl, hbel.size, hR⟩)
    intro w4 hB4
    dsimp only [AllV]
    intro g4_5 hg4_5 hR4_5
    intro g4_6 hg4_6 hR4_6
    intro hap
    dsimp only [putAll, List.take, List.drop]
    go_frame
    have hM4 := hM3.on hB4
    replace hM4 := hM4.cons hR4_5 (Nat.le_trans hM3.size hg4_5) (fun p hp => by have := hM3.lt hp; omega)
    have hne4_6_4_5 : g4_6 ≠ g4_5 := fun e => hap 5 (by simp) 4 (by simp) (by decide) g4_6 rfl (by rw [e]; rfl)
    replace hM4 := hM4.cons hR4_6 (Nat.le_trans hM3.size hg4_6) (List.forall_mem_cons.2 ⟨hne4_6_4_5, fun p hp => by have := hM3.lt hp; omega⟩)
    clear hB4 hM3 hap hg4_5 hR4_5 hg4_6 hR4_6
    go_wp2_with (first
      | ((with_reducible change wpList _ _ _ (Oper.mk none (Op.store _ (Operand.tmp 5) (Operand.tmp 10)) _ _ _ _ :: _) _ _); refine mmStoreAt hM4 1 _ _ _ _ _ _ (ptc pa) rfl rfl rfl rfl rfl (info_ptc _) (by simp only [pcells_size, ptc_size]) (ptc_one _) ?_; intro w5 hM5; dsimp only [List.set] at hM5; clear hM4; go_frame)
      | ((with_reducible change wpList _ _ _ (Oper.mk none (Op.store _ (Operand.tmp 6) (Operand.tmp 12)) _ _ _ _ :: _) _ _); refine mmStoreAt hM5 0 _ _ _ _ _ _ (ptc pb) rfl rfl rfl rfl rfl (info_ptc _) (by simp only [pcells_size, ptc_size]) (ptc_one _) ?_; intro w6 hM6; dsimp only [List.set] at hM6; clear hM5; go_frame))
    refine region_symT 27 _ [] [] [.val (.agg (ptc pa)), .val (.bool true), .val (.bool true), .val (.agg (ptc pb)), .val (.bool true), .val (.bool true), .val (.bool true), .val (.agg (ptc pa)), .val (.agg (ptc pb)), .val (.agg (ptc q22)), .val (.agg (ptc pa)), .val (.agg (ptc pb)), .val (.agg (ptc q25)), .val (.bool true), .val (.bool true), .val (.bool true), .val (.pointer (some ⟨g4_5, 8, none⟩)), .val (.bool false), .val (.bool false), .val (.agg (ptc pa)), .val (.agg (ptc q33)), .val (.agg (ptc pa)), .val (.agg (ptc q35)), .val (.bool true), .val (.bool true), .val (.bool true), .val (.bool true)] rfl (by kernel_rfl) (by kernel_rfl) (by kernel_rfl) (by kernel_rfl) rfl (by intro s hs; cases hs) (steps_all ⟨?_, ?_, ?_, ?_, ?_, ?_, ?_, ?_, ?_, ?_, ?_, ?_, ?_, ?_, ?_, ?_, ?_, ?_, ?_, ?_, ?_, ?_, ?_, ?_, ?_, ?_, ?_, trivial⟩) ?_
    · intro A W hsz hoth hbel hX hdep
      exact kLoadRow _ _ _ _ _ _ rfl rfl ((hoth 5 (free2_of (by kernel_rfl))).trans rfl) ((hM6.get 1 rfl).on hbel) Tryd.underlying30 rfl (info_ptc _) (symVT hX hsz rfl (show 13 < 39 by decide) rfl (Below.refl _ _) rfl)
    · intro A W hsz hoth hbel hX hdep
      refine kCall1 20 _ _ _ rfl rfl (by kernel_rfl) (by have h := hdep ⟨0, .data⟩ (by simp) rfl; exact h) ?_
      refine (cOn_pt opa W ((hG.below hM6.below).below hbel) ((hO.below hM6.below).below hbel)).mono ?_
      rintro e r ⟨rfl, hBc⟩
      exact ⟨_, rfl, (symVT hX hsz rfl (show 14 < 39 by decide) rfl hBc rfl)⟩
    · intro A W hsz hoth hbel hX hdep
      exact kMoveV _ (.bool true) rfl rfl (by have h := hdep ⟨1, .data⟩ (by simp) rfl; exact h) (symVT hX hsz rfl (show 15 < 39 by decide) rfl (Below.refl _ _) rfl)
    · intro A W hsz hoth hbel hX hdep
      exact kLoadRow _ _ _ _ _ _ rfl (wanted_of rfl rfl (by have h := hdep ⟨2, .guard⟩ (by simp) rfl; exact h)) ((hoth 6 (free2_of (by kernel_rfl))).trans rfl) ((hM6.get 0 rfl).on hbel) Tryd.underlying30 rfl (info_ptc _) (symVT hX hsz rfl (show 16 < 39 by decide) rfl (Below.refl _ _) rfl)
    · intro A W hsz hoth hbel hX hdep
      refine kCall1 20 _ _ _ rfl (wanted_of rfl rfl (by have h := hdep ⟨2, .chain⟩ (by simp) rfl; exact h)) (by kernel_rfl) (by have h := hdep ⟨3, .data⟩ (by simp) rfl; exact h) ?_
      refine (cOn_pt opb W ((hG.below hM6.below).below hbel) ((hO.below hM6.below).below hbel)).mono ?_
      rintro e r ⟨rfl, hBc⟩
      exact ⟨_, rfl, (symVT hX hsz rfl (show 17 < 39 by decide) rfl hBc rfl)⟩
    · intro A W hsz hoth hbel hX hdep
      exact kPick _ _ _ true (.bool true) rfl rfl (by have h := hdep ⟨2, .data⟩ (by simp) rfl; exact h) (by have h := hdep ⟨4, .data⟩ (by simp) rfl; exact h) (symVT hX hsz rfl (show 18 < 39 by decide) rfl (Below.refl _ _) rfl)
    · intro A W hsz hoth hbel hX hdep
      exact kMoveV _ (.bool true) rfl rfl (by have h := hdep ⟨5, .data⟩ (by simp) rfl; exact h) (symVT hX hsz rfl (show 19 < 39 by decide) rfl (Below.refl _ _) rfl)
    · intro A W hsz hoth hbel hX hdep
      exact kLoadRow _ _ _ _ _ _ rfl (wanted_of rfl rfl (by have h := hdep ⟨6, .guard⟩ (by simp) rfl; exact h)) ((hoth 5 (free2_of (by kernel_rfl))).trans rfl) ((hM6.get 1 rfl).on hbel) Tryd.underlying30 rfl (info_ptc _) (symVT hX hsz rfl (show 20 < 39 by decide) rfl (Below.refl _ _) rfl)
    · intro A W hsz hoth hbel hX hdep
      exact kLoadRow _ _ _ _ _ _ rfl (wanted_of rfl rfl (by have h := hdep ⟨6, .guard⟩ (by simp) rfl; exact h)) ((hoth 6 (free2_of (by kernel_rfl))).trans rfl) ((hM6.get 0 rfl).on hbel) Tryd.underlying30 rfl (info_ptc _) (symVT hX hsz rfl (show 21 < 39 by decide) rfl (Below.refl _ _) rfl)
    · intro A W hsz hoth hbel hX hdep
      refine kCall2 13 _ _ _ _ _ rfl (wanted_of rfl rfl (by have h := hdep ⟨6, .chain⟩ (by simp) rfl; exact h)) (by kernel_rfl) (by have h := hdep ⟨7, .data⟩ (by simp) rfl; exact h) (by have h := hdep ⟨8, .data⟩ (by simp) rfl; exact h) ?_
      refine (cAdd_q opa opb Hq22.out W ((hG.below hM6.below).below hbel) ((hO.below hM6.below).below hbel)).mono ?_
      rintro e r ⟨rfl, hBc⟩
      exact ⟨_, rfl, (symVT hX hsz rfl (show 22 < 39 by decide) rfl hBc rfl)⟩
    · intro A W hsz hoth hbel hX hdep
      exact kLoadRow _ _ _ _ _ _ rfl (wanted_of rfl rfl (by have h := hdep ⟨6, .guard⟩ (by simp) rfl; exact h)) ((hoth 5 (free2_of (by kernel_rfl))).trans rfl) ((hM6.get 1 rfl).on hbel) Tryd.underlying30 rfl (info_ptc _) (symVT hX hsz rfl (show 23 < 39 by decide) rfl (Below.refl _ _) rfl)
    · intro A W hsz hoth hbel hX hdep
      exact kLoadRow _ _ _ _ _ _ rfl (wanted_of rfl rfl (by have h := hdep ⟨6, .guard⟩ (by simp) rfl; exact h)) ((hoth 6 (free2_of (by kernel_rfl))).trans rfl) ((hM6.get 0 rfl).on hbel) Tryd.underlying30 rfl (info_ptc _) (symVT hX hsz rfl (show 24 < 39 by decide) rfl (Below.refl _ _) rfl)
    · intro A W hsz hoth hbel hX hdep
      refine kCall2 21 _ _ _ _ _ rfl (wanted_of rfl rfl (by have h := hdep ⟨6, .guard⟩ (by simp) rfl; exact h)) (by kernel_rfl) (by have h := hdep ⟨10, .data⟩ (by simp) rfl; exact h) (by have h := hdep ⟨11, .data⟩ (by simp) rfl; exact h) ?_
      refine (eAdd_q opa opb Hq25.out W).mono ?_
      rintro e r ⟨rfl, hBc⟩
      exact ⟨_, rfl, (symVT hX hsz rfl (show 25 < 39 by decide) rfl hBc rfl)⟩
    · intro A W hsz hoth hbel hX hdep
      exact kEqlPt _ _ _ q22 q25 true rfl (wanted_of rfl rfl (by have h := hdep ⟨6, .guard⟩ (by simp) rfl; exact h)) (by have h := hdep ⟨9, .data⟩ (by simp) rfl; exact h) (by have h := hdep ⟨12, .data⟩ (by simp) rfl; exact h) (eq_yes h26.out) (symVT hX hsz rfl (show 26 < 39 by decide) rfl (Below.refl _ _) rfl)
    · intro A W hsz hoth hbel hX hdep
      exact kPick _ _ _ true (.bool true) rfl rfl (by have h := hdep ⟨6, .data⟩ (by simp) rfl; exact h) (by have h := hdep ⟨13, .data⟩ (by simp) rfl; exact h) (symVT hX hsz rfl (show 27 < 39 by decide) rfl (Below.refl _ _) rfl)
    · intro A W hsz hoth hbel hX hdep
      exact kMoveV _ (.bool true) rfl rfl (by have h := hdep ⟨14, .data⟩ (by simp) rfl; exact h) (symVT hX hsz rfl (show 28 < 39 by decide) rfl (Below.refl _ _) rfl)
    · intro A W hsz hoth hbel hX hdep
      exact kFieldPoint2 _ _ rfl (wanted_of rfl rfl (by have h := hdep ⟨15, .guard⟩ (by simp) rfl; exact h)) ((hoth 5 (free2_of (by kernel_rfl))).trans rfl) (symVT hX hsz rfl (show 29 < 39 by decide) rfl (Below.refl _ _) rfl)
    · intro A W hsz hoth hbel hX hdep
      exact kLoad1 _ _ _ _ _ _ _ _ rfl (wanted_of rfl rfl (by have h := hdep ⟨15, .guard⟩ (by simp) rfl; exact h)) (by have h := hdep ⟨16, .data⟩ (by simp) rfl; exact h) ((hM6.get 1 rfl).on hbel) Tryd.underlying4 rfl (F30.out) (symVT hX hsz rfl (show 30 < 39 by decide) rfl (Below.refl _ _) rfl)
    · intro A W hsz hoth hbel hX hdep
      exact kMoveV _ (.bool false) rfl (wanted_of rfl rfl (by have h := hdep ⟨15, .chain⟩ (by simp) rfl; exact h)) (by have h := hdep ⟨17, .data⟩ (by simp) rfl; exact h) (symVT hX hsz rfl (show 31 < 39 by decide) rfl (Below.refl _ _) rfl)
    · intro A W hsz hoth hbel hX hdep
      exact kLoadRow _ _ _ _ _ _ rfl (wanted_of rfl rfl (by have h := hdep ⟨18, .guard⟩ (by simp) rfl; exact h)) ((hoth 5 (free2_of (by kernel_rfl))).trans rfl) ((hM6.get 1 rfl).on hbel) Tryd.underlying30 rfl (info_ptc _) (symVT hX hsz rfl (show 32 < 39 by decide) rfl (Below.refl _ _) rfl)
    · intro A W hsz hoth hbel hX hdep
      refine kCall1 22 _ _ _ rfl (wanted_of rfl rfl (by have h := hdep ⟨18, .chain⟩ (by simp) rfl; exact h)) (by kernel_rfl) (by have h := hdep ⟨19, .data⟩ (by simp) rfl; exact h) ?_
      refine (cNeg_q Hq33.out W ((hG.below hM6.below).below hbel)).mono ?_
      rintro e r ⟨rfl, hBc⟩
      exact ⟨_, rfl, (symVT hX hsz rfl (show 33 < 39 by decide) rfl hBc rfl)⟩
    · intro A W hsz hoth hbel hX hdep
      exact kLoadRow _ _ _ _ _ _ rfl (wanted_of rfl rfl (by have h := hdep ⟨18, .guard⟩ (by simp) rfl; exact h)) ((hoth 5 (free2_of (by kernel_rfl))).trans rfl) ((hM6.get 1 rfl).on hbel) Tryd.underlying30 rfl (info_ptc _) (symVT hX hsz rfl (show 34 < 39 by decide) rfl (Below.refl _ _) rfl)
    · intro A W hsz hoth hbel hX hdep
      refine kCall1 23 _ _ _ rfl (wanted_of rfl rfl (by have h := hdep ⟨18, .guard⟩ (by simp) rfl; exact h)) (by kernel_rfl) (by have h := hdep ⟨21, .data⟩ (by simp) rfl; exact h) ?_
      refine (eNeg_q Hq35.out W).mono ?_
      rintro e r ⟨rfl, hBc⟩
      exact ⟨_, rfl, (symVT hX hsz rfl (show 35 < 39 by decide) rfl hBc rfl)⟩
    · intro A W hsz hoth hbel hX hdep
      exact kEqlPt _ _ _ q33 q35 true rfl (wanted_of rfl rfl (by have h := hdep ⟨18, .guard⟩ (by simp) rfl; exact h)) (by have h := hdep ⟨20, .data⟩ (by simp) rfl; exact h) (by have h := hdep ⟨22, .data⟩ (by simp) rfl; exact h) (eq_yes h36.out) (symVT hX hsz rfl (show 36 < 39 by decide) rfl (Below.refl _ _) rfl)
    · intro A W hsz hoth hbel hX hdep
      exact kPick _ _ _ false (.bool true) rfl (wanted_of rfl rfl (by have h := hdep ⟨15, .guard⟩ (by simp) rfl; exact h)) (by have h := hdep ⟨18, .data⟩ (by simp) rfl; exact h) (by have h := hdep ⟨23, .data⟩ (by simp) rfl; exact h) (symVT hX hsz rfl (show 37 < 39 by decide) rfl (Below.refl _ _) rfl)
    · intro A W hsz hoth hbel hX hdep
      exact kPick _ _ _ true (.bool true) rfl rfl (by have h := hdep ⟨15, .data⟩ (by simp) rfl; exact h) (by have h := hdep ⟨24, .data⟩ (by simp) rfl; exact h) (symVT hX hsz rfl (show 38 < 39 by decide) rfl (Below.refl _ _) rfl)
    · intro A W hsz hoth hbel hX hdep
      exact kAssignV _ (.bool true) rfl rfl (by have h := hdep ⟨25, .data⟩ (by simp) rfl; exact h) (symVT hX hsz rfl (show 4 < 39 by decide) rfl (Below.refl _ _) rfl)
    intro w7 hB7
    dsimp only [AllV]
    intro hap
    dsimp only [putAll, List.take, List.drop]
    go_frame
    have hM7 := hM6.on hB7
    clear hB7 hM6 hap
    go_wp2_with fail
    go_ret
    exact ⟨rfl, hM7.below⟩
set_option maxRecDepth 100000 in
set_option maxHeartbeats 8000000 in
theorem CurveTimes_any {k1 : Nat} (hk1 : k1 < 65536) (b1 : Bool) {k m : Nat} (mk : k < M256) (mm : m < M256) (w : World) (hG : Glob 2 PP w) (hO : GlobP 0 0 0 true w) (hB : GlobPt 1 gPt w) :
    Calls Tryd.prog 6 #[.agg #[.int .u16 (k1 : Int), .bool b1], WV k, WV m] w fun e w' => e = .returned (.bool true) ∧ Below w.heap.size w w' := by
  obtain ⟨pa, HP1⟩ : ∃ q, Hid (pick k1 b1 = q) := ⟨_, Lib.hid rfl⟩
  have opa : pa.On := by rw [← HP1.out]; exact pick_on _ _
  obtain ⟨q16, Hq16⟩ : ∃ q, Hid (Pt.times ivP pa k = q) := ⟨_, Lib.hid rfl⟩
  have oq16 : q16.On := by rw [← Hq16.out]; exact goodP.times_on opa _
  obtain ⟨q20, Hq20⟩ : ∃ q, Hid (Pt.times ivP pa k = q) := ⟨_, Lib.hid rfl⟩
  have oq20 : q20.On := by rw [← Hq20.out]; exact goodP.times_on opa _
  obtain ⟨q29, Hq29⟩ : ∃ q, Hid (Pt.times ivP gPt m = q) := ⟨_, Lib.hid rfl⟩
  have oq29 : q29.On := by rw [← Hq29.out]; exact goodP.times_on gPt_on _
  obtain ⟨q31, Hq31⟩ : ∃ q, Hid (Pt.add ivP q29 q16 = q) := ⟨_, Lib.hid rfl⟩
  have oq31 : q31.On := by rw [← Hq31.out]; exact goodP.add_on oq29 oq16
  obtain ⟨q35, Hq35⟩ : ∃ q, Hid (both ivP gPt pa m k = q) := ⟨_, Lib.hid rfl⟩
  have oq35 : q35.On := by rw [← Hq35.out]; exact goodP.two_on gPt_on opa _ _
  have h21 := Lib.hid (Hq16.out.symm.trans Hq20.out)
  have h37 := Lib.hid (show q35 = q31 by rw [← Hq35.out, ← Hq31.out, ← Hq29.out, ← Hq16.out]; rfl)
  have hM0 := mm_nil w
  (try unfold WV)
  go_enter Tryd.func6, Tryd.ntmps6
  go_wp2_with (first
    | ((with_reducible change wpList _ _ _ (Oper.mk (some 3) _ _ _ _ _ :: _) _ _); refine mmBox hM0 _ _ (#[.int .u16 ((k1 : Int)), .bool b1]) rfl rfl rfl ?_; intro w1 hM1; clear hM0; go_frame)
    | ((with_reducible change wpList _ _ _ (Oper.mk (some 4) _ _ _ _ _ :: _) _ _); refine mmBox hM1 _ _ (wcells k) rfl rfl rfl ?_; intro w2 hM2; clear hM1; go_frame)
    | ((with_reducible change wpList _ _ _ (Oper.mk (some 5) _ _ _ _ _ :: _) _ _); refine mmBox hM2 _ _ (wcells m) rfl rfl rfl ?_; intro w3 hM3; clear hM2; go_frame)
    | (go_at_call 15; refine (curveAlive_pt _ (hG.below hM3.below) (hO.below hM3.below) (hB.below hM3.below)).mono ?_; rintro e w4 ⟨rfl, hB4⟩; have hM4 := hM3.on hB4; clear hB4 hM3; (try unfold WV); go_frame)
    | ((with_reducible change wpList _ _ _ (Oper.mk (some 12) _ _ _ _ _ :: _) _ _); refine kLoadRow _ _ _ _ _ _ rfl rfl rfl (hM4.get 2 rfl) Tryd.underlying41 rfl (info_PickC _ _) ?_; go_frame)
    | (go_at_call 19; (with_reducible change Calls _ _ #[Value.agg (#[.int .u16 ((k1 : Int)), .bool b1])] _ _); refine (pickOf_q hk1 b1 HP1.out _).mono ?_; rintro e w5 ⟨rfl, hB5⟩; have hM5 := hM4.on hB5; clear hB5 hM4; (try unfold WV); go_frame)
    | ((with_reducible change wpList _ _ _ (Oper.mk (some 7) _ _ _ _ _ :: _) _ _); refine mmAlloc hM5 _ _ rfl rfl zero_Point ?_; intro w6 hM6; clear hM5; go_frame)
    | ((with_reducible change wpList _ _ _ (Oper.mk none (Op.store _ (Operand.tmp 7) (Operand.tmp 13)) _ _ _ _ :: _) _ _); refine mmStoreAt hM6 0 _ _ _ _ _ _ (ptc pa) rfl rfl rfl rfl rfl (info_ptc _) (by simp only [pcells_size, ptc_size]) (ptc_one _) ?_; intro w7 hM7; dsimp only [List.set] at hM7; clear hM6; go_frame)
    | ((with_reducible change wpList _ _ _ (Oper.mk (some 14) _ _ _ _ _ :: _) _ _); refine kLoadRow _ _ _ _ _ _ rfl rfl rfl (hM7.get 2 rfl) Tryd.underlying24 rfl (info_WideC _) ?_; go_frame)
    | ((with_reducible change wpList _ _ _ (Oper.mk (some 15) _ _ _ _ _ :: _) _ _); refine kLoadRow _ _ _ _ _ _ rfl rfl rfl (hM7.get 0 rfl) Tryd.underlying30 rfl (info_ptc _) ?_; go_frame)
    | (go_at_call 16; (with_reducible change Calls _ _ #[Value.agg (wcells k), Value.agg (ptc pa)] _ _); refine (cTimes_q mk opa Hq16.out _ (hG.below hM7.below) (hO.below hM7.below) (hB.below hM7.below)).mono ?_; rintro e w8 ⟨rfl, hB8⟩; have hM8 := hM7.on hB8; clear hB8 hM7; (try unfold WV); go_frame)
    | ((with_reducible change wpList _ _ _ (Oper.mk (some 8) _ _ _ _ _ :: _) _ _); refine mmAlloc hM8 _ _ rfl rfl zero_Point ?_; intro w9 hM9; clear hM8; go_frame)
    | ((with_reducible change wpList _ _ _ (Oper.mk none (Op.store _ (Operand.tmp 8) (Operand.tmp 16)) _ _ _ _ :: _) _ _); refine mmStoreAt hM9 0 _ _ _ _ _ _ (ptc q16) rfl rfl rfl rfl rfl (info_ptc _) (by simp only [pcells_size, ptc_size]) (ptc_one _) ?_; intro w10 hM10; dsimp only [List.set] at hM10; clear hM9; go_frame))
  refine region_symT 10 _ [] [] [.val (.agg (ptc q16)), .val (.agg (wcells k)), .val (.agg (ptc pa)), .val (.agg (ptc q20)), .val (.bool false), .val (.bool false), .val (.agg (ptc q16)), .val (.bool true), .val (.bool false), .val (.bool false)] rfl (by kernel_rfl) (by kernel_rfl) (by kernel_rfl) (by kernel_rfl) rfl (by intro s hs; cases hs) (steps_all ⟨?_, ?_, ?_, ?_, ?_, ?_, ?_, ?_, ?_, ?_, trivial⟩) ?_
  · intro A W hsz hoth hbel hX hdep
    exact kLoadRow _ _ _ _ _ _ rfl rfl ((hoth 8 (free2_of (by kernel_rfl))).trans rfl) ((hM10.get 0 rfl).on hbel) Tryd.underlying30 rfl (info_ptc _) (symVT hX hsz rfl (show 17 < 38 by decide) rfl (Below.refl _ _) rfl)
  · intro A W hsz hoth hbel hX hdep
    exact kLoadRow _ _ _ _ _ _ rfl rfl ((hoth 4 (free2_of (by kernel_rfl))).trans rfl) ((hM10.get 3 rfl).on hbel) Tryd.underlying24 rfl (info_WideC _) (symVT hX hsz rfl (show 18 < 38 by decide) rfl (Below.refl _ _) rfl)
  · intro A W hsz hoth hbel hX hdep
    exact kLoadRow _ _ _ _ _ _ rfl rfl ((hoth 7 (free2_of (by kernel_rfl))).trans rfl) ((hM10.get 1 rfl).on hbel) Tryd.underlying30 rfl (info_ptc _) (symVT hX hsz rfl (show 19 < 38 by decide) rfl (Below.refl _ _) rfl)
  · intro A W hsz hoth hbel hX hdep
    refine kCall2 25 _ _ _ _ _ rfl rfl (by kernel_rfl) (by have h := hdep ⟨1, .data⟩ (by simp) rfl; exact h) (by have h := hdep ⟨2, .data⟩ (by simp) rfl; exact h) ?_
    refine (eTimes_q mk opa Hq20.out W).mono ?_
    rintro e r ⟨rfl, hBc⟩
    exact ⟨_, rfl, (symVT hX hsz rfl (show 20 < 38 by decide) rfl hBc rfl)⟩
  · intro A W hsz hoth hbel hX hdep
    exact kNeqPt _ _ _ q16 q20 false rfl rfl (by have h := hdep ⟨0, .data⟩ (by simp) rfl; exact h) (by have h := hdep ⟨3, .data⟩ (by simp) rfl; exact h) (ne_no h21.out) (symVT hX hsz rfl (show 21 < 38 by decide) rfl (Below.refl _ _) rfl)
  · intro A W hsz hoth hbel hX hdep
    exact kMoveV _ (.bool false) rfl rfl (by have h := hdep ⟨4, .data⟩ (by simp) rfl; exact h) (symVT hX hsz rfl (show 22 < 38 by decide) rfl (Below.refl _ _) rfl)
  · intro A W hsz hoth hbel hX hdep
    exact kLoadRow _ _ _ _ _ _ rfl (wanted_of rfl rfl (by have h := hdep ⟨5, .guard⟩ (by simp) rfl; exact h)) ((hoth 8 (free2_of (by kernel_rfl))).trans rfl) ((hM10.get 0 rfl).on hbel) Tryd.underlying30 rfl (info_ptc _) (symVT hX hsz rfl (show 23 < 38 by decide) rfl (Below.refl _ _) rfl)
  · intro A W hsz hoth hbel hX hdep
    refine kCall1 20 _ _ _ rfl (wanted_of rfl rfl (by have h := hdep ⟨5, .chain⟩ (by simp) rfl; exact h)) (by kernel_rfl) (by have h := hdep ⟨6, .data⟩ (by simp) rfl; exact h) ?_
    refine (cOn_pt oq16 W ((hG.below hM10.below).below hbel) ((hO.below hM10.below).below hbel)).mono ?_
    rintro e r ⟨rfl, hBc⟩
    exact ⟨_, rfl, (symVT hX hsz rfl (show 24 < 38 by decide) rfl hBc rfl)⟩
  · intro A W hsz hoth hbel hX hdep
    exact kNot _ _ true rfl (wanted_of rfl rfl (by have h := hdep ⟨5, .guard⟩ (by simp) rfl; exact h)) (by have h := hdep ⟨7, .data⟩ (by simp) rfl; exact h) (symVT hX hsz rfl (show 25 < 38 by decide) rfl (Below.refl _ _) rfl)
  · intro A W hsz hoth hbel hX hdep
    exact kPick _ _ _ false (.bool false) rfl rfl (by have h := hdep ⟨5, .data⟩ (by simp) rfl; exact h) (by have h := hdep ⟨8, .data⟩ (by simp) rfl; exact h) (symVT hX hsz rfl (show 26 < 38 by decide) rfl (Below.refl _ _) rfl)
  intro w11 hB11
  dsimp only [AllV]
  intro hap
  dsimp only [putAll, List.take, List.drop]
  go_frame
  have hM11 := hM10.on hB11
  clear hB11 hM10 hap
  go_wp2_with fail
  refine region_symT 6 _ [5] [9] [.val (.agg (wcells m)), .val (.agg (ptc gPt)), .val (.agg (ptc q29)), .val (.agg (ptc q16)), .val (.agg (ptc q31)), .hold w11.heap.size 30 (pcells 0 0 false)] rfl (by kernel_rfl) (by kernel_rfl) (by kernel_rfl) (by kernel_rfl) rfl (by intro s hs; simp only [List.mem_cons, List.not_mem_nil, or_false] at hs; rcases hs with rfl <;> rfl) (steps_all ⟨?_, ?_, ?_, ?_, ?_, ?_, trivial⟩) ?_
  · intro A W hsz hoth hbel hX hdep
    exact kLoadRow _ _ _ _ _ _ rfl rfl ((hoth 5 (free2_of (by kernel_rfl))).trans rfl) ((hM11.get 2 rfl).on hbel) Tryd.underlying24 rfl (info_WideC _) (symVT hX hsz rfl (show 27 < 38 by decide) rfl (Below.refl _ _) rfl)
  · intro A W hsz hoth hbel hX hdep
    refine kCall0 26 _ rfl rfl (by kernel_rfl)  ?_
    refine (eBase_any W).mono ?_
    rintro e r ⟨rfl, hBc⟩
    exact ⟨_, rfl, (symVT hX hsz rfl (show 28 < 38 by decide) rfl hBc rfl)⟩
  · intro A W hsz hoth hbel hX hdep
    refine kCall2 25 _ _ _ _ _ rfl rfl (by kernel_rfl) (by have h := hdep ⟨0, .data⟩ (by simp) rfl; exact h) (by have h := hdep ⟨1, .data⟩ (by simp) rfl; exact h) ?_
    refine (eTimes_q mm gPt_on Hq29.out W).mono ?_
    rintro e r ⟨rfl, hBc⟩
    exact ⟨_, rfl, (symVT hX hsz rfl (show 29 < 38 by decide) rfl hBc rfl)⟩
  · intro A W hsz hoth hbel hX hdep
    exact kLoadRow _ _ _ _ _ _ rfl rfl ((hoth 8 (free2_of (by kernel_rfl))).trans rfl) ((hM11.get 0 rfl).on hbel) Tryd.underlying30 rfl (info_ptc _) (symVT hX hsz rfl (show 30 < 38 by decide) rfl (Below.refl _ _) rfl)
  · intro A W hsz hoth hbel hX hdep
    refine kCall2 21 _ _ _ _ _ rfl rfl (by kernel_rfl) (by have h := hdep ⟨2, .data⟩ (by simp) rfl; exact h) (by have h := hdep ⟨3, .data⟩ (by simp) rfl; exact h) ?_
    refine (eAdd_q oq29 oq16 Hq31.out W).mono ?_
    rintro e r ⟨rfl, hBc⟩
    exact ⟨_, rfl, (symVT hX hsz rfl (show 31 < 38 by decide) rfl hBc rfl)⟩
  · intro A W hsz hoth hbel hX hdep
    refine kAllocL _ _ rfl rfl zero_Point ?_
    intro r hR hl hBc
    exact (symAT hX hsz rfl (show 9 < 38 by decide) hl hBc ⟨_, rfl, hbel.size, hR⟩)
  intro w12 hB12
  dsimp only [AllV]
  intro g12_9 hg12_9 hR12_9
  intro hap
  dsimp only [putAll, List.take, List.drop]
  go_frame
  have hM12 := hM11.on hB12
  replace hM12 := hM12.cons hR12_9 (Nat.le_trans hM11.size hg12_9) (fun p hp => by have := hM11.lt hp; omega)
  clear hB12 hM11 hap hg12_9 hR12_9
  go_wp2_with (first
    | ((with_reducible change wpList _ _ _ (Oper.mk none (Op.store _ (Operand.tmp 9) (Operand.tmp 31)) _ _ _ _ :: _) _ _); refine mmStoreAt hM12 0 _ _ _ _ _ _ (ptc q31) rfl rfl rfl rfl rfl (info_ptc _) (by simp only [pcells_size, ptc_size]) (ptc_one _) ?_; intro w13 hM13; dsimp only [List.set] at hM13; clear hM12; go_frame))
  refine region_symT 7 _ [] [] [.val (.agg (wcells m)), .val (.agg (wcells k)), .val (.agg (ptc pa)), .val (.agg (ptc q35)), .val (.agg (ptc q31)), .val (.bool true), .val (.bool true)] rfl (by kernel_rfl) (by kernel_rfl) (by kernel_rfl) (by kernel_rfl) rfl (by intro s hs; cases hs) (steps_all ⟨?_, ?_, ?_, ?_, ?_, ?_, ?_, trivial⟩) ?_
  · intro A W hsz hoth hbel hX hdep
    exact kLoadRow _ _ _ _ _ _ rfl rfl ((hoth 5 (free2_of (by kernel_rfl))).trans rfl) ((hM13.get 3 rfl).on hbel) Tryd.underlying24 rfl (info_WideC _) (symVT hX hsz rfl (show 32 < 38 by decide) rfl (Below.refl _ _) rfl)
  · intro A W hsz hoth hbel hX hdep
    exact kLoadRow _ _ _ _ _ _ rfl rfl ((hoth 4 (free2_of (by kernel_rfl))).trans rfl) ((hM13.get 4 rfl).on hbel) Tryd.underlying24 rfl (info_WideC _) (symVT hX hsz rfl (show 33 < 38 by decide) rfl (Below.refl _ _) rfl)
  · intro A W hsz hoth hbel hX hdep
    exact kLoadRow _ _ _ _ _ _ rfl rfl ((hoth 7 (free2_of (by kernel_rfl))).trans rfl) ((hM13.get 2 rfl).on hbel) Tryd.underlying30 rfl (info_ptc _) (symVT hX hsz rfl (show 34 < 38 by decide) rfl (Below.refl _ _) rfl)
  · intro A W hsz hoth hbel hX hdep
    refine kCall3 27 _ _ _ _ _ _ _ rfl rfl (by kernel_rfl) (by have h := hdep ⟨0, .data⟩ (by simp) rfl; exact h) (by have h := hdep ⟨1, .data⟩ (by simp) rfl; exact h) (by have h := hdep ⟨2, .data⟩ (by simp) rfl; exact h) ?_
    refine (cBoth_q mm mk opa Hq35.out W ((hG.below hM13.below).below hbel) ((hO.below hM13.below).below hbel) ((hB.below hM13.below).below hbel)).mono ?_
    rintro e r ⟨rfl, hBc⟩
    exact ⟨_, rfl, (symVT hX hsz rfl (show 35 < 38 by decide) rfl hBc rfl)⟩
  · intro A W hsz hoth hbel hX hdep
    exact kLoadRow _ _ _ _ _ _ rfl rfl ((hoth 9 (free2_of (by kernel_rfl))).trans rfl) ((hM13.get 0 rfl).on hbel) Tryd.underlying30 rfl (info_ptc _) (symVT hX hsz rfl (show 36 < 38 by decide) rfl (Below.refl _ _) rfl)
  · intro A W hsz hoth hbel hX hdep
    exact kEqlPt _ _ _ q35 q31 true rfl rfl (by have h := hdep ⟨3, .data⟩ (by simp) rfl; exact h) (by have h := hdep ⟨4, .data⟩ (by simp) rfl; exact h) (eq_yes h37.out) (symVT hX hsz rfl (show 37 < 38 by decide) rfl (Below.refl _ _) rfl)
  · intro A W hsz hoth hbel hX hdep
    exact kAssignV _ (.bool true) rfl rfl (by have h := hdep ⟨5, .data⟩ (by simp) rfl; exact h) (symVT hX hsz rfl (show 6 < 38 by decide) rfl (Below.refl _ _) rfl)
  intro w14 hB14
  dsimp only [AllV]
  intro hap
  dsimp only [putAll, List.take, List.drop]
  go_frame
  have hM14 := hM13.on hB14
  clear hB14 hM13 hap
  go_wp2_with fail
  go_ret
  exact ⟨rfl, hM14.below⟩
set_option maxRecDepth 100000 in
set_option maxHeartbeats 8000000 in
theorem CurveGroups_any {k1 : Nat} (hk1 : k1 < 65536) (b1 : Bool) {k2 : Nat} (hk2 : k2 < 65536) (b2 : Bool) {j0 j1 : Nat} (hj0 : j0 < 4294967296) (hj1 : j1 < 4294967296) (w : World) (hG : Glob 2 PP w) (hO : GlobP 0 0 0 true w) (hB : GlobPt 1 gPt w) :
    Calls Tryd.prog 8 #[.agg #[.int .u16 (k1 : Int), .bool b1], .agg #[.int .u16 (k2 : Int), .bool b2], .agg #[.int .u32 (j0 : Int), .int .u32 (j1 : Int)]] w fun e w' => e = .returned (.bool true) ∧ Below w.heap.size w w' := by
  obtain ⟨pa, HP1⟩ : ∃ q, Hid (pick k1 b1 = q) := ⟨_, Lib.hid rfl⟩
  have opa : pa.On := by rw [← HP1.out]; exact pick_on _ _
  obtain ⟨pb, HP2⟩ : ∃ q, Hid (pick k2 b2 = q) := ⟨_, Lib.hid rfl⟩
  have opb : pb.On := by rw [← HP2.out]; exact pick_on _ _
  obtain ⟨nN, HnN⟩ : ∃ n, Hid (NN = n) := ⟨_, Lib.hid rfl⟩
  have mnN : nN < M256 := by rw [← HnN.out]; decide
  have hPN := Lib.hid (show PrimeIs false nN by rw [← HnN.out]; exact rPrime_false)
  have hjs : j0 + j1 < 18446744073709551616 := by omega
  have mj0 : j0 < M256 := Nat.lt_trans hj0 (by decide)
  have mj1 : j1 < M256 := Nat.lt_trans hj1 (by decide)
  have h64_0 : j0 < 18446744073709551616 := by omega
  have h64_1 : j1 < 18446744073709551616 := by omega
  have mjs : j0 + j1 < M256 := Nat.lt_trans hjs (by decide)
  obtain ⟨q21, Hq21⟩ : ∃ q, Hid (Pt.add ivP pa pb = q) := ⟨_, Lib.hid rfl⟩
  have oq21 : q21.On := by rw [← Hq21.out]; exact goodP.add_on opa opb
  obtain ⟨q24, Hq24⟩ : ∃ q, Hid (Pt.add ivP pb pa = q) := ⟨_, Lib.hid rfl⟩
  have oq24 : q24.On := by rw [← Hq24.out]; exact goodP.add_on opb opa
  obtain ⟨q36, Hq36⟩ : ∃ q, Hid (Pt.add ivP pa pa = q) := ⟨_, Lib.hid rfl⟩
  have oq36 : q36.On := by rw [← Hq36.out]; exact goodP.add_on opa opa
  obtain ⟨q37, Hq37⟩ : ∃ q, Hid (Pt.add ivP q21 q36 = q) := ⟨_, Lib.hid rfl⟩
  have oq37 : q37.On := by rw [← Hq37.out]; exact goodP.add_on oq21 oq36
  obtain ⟨q40, Hq40⟩ : ∃ q, Hid (Pt.add ivP q21 pa = q) := ⟨_, Lib.hid rfl⟩
  have oq40 : q40.On := by rw [← Hq40.out]; exact goodP.add_on oq21 opa
  obtain ⟨q42, Hq42⟩ : ∃ q, Hid (Pt.add ivP q40 pa = q) := ⟨_, Lib.hid rfl⟩
  have oq42 : q42.On := by rw [← Hq42.out]; exact goodP.add_on oq40 opa
  obtain ⟨q50, Hq50⟩ : ∃ q, Hid (Pt.times ivP pa j0 = q) := ⟨_, Lib.hid rfl⟩
  have oq50 : q50.On := by rw [← Hq50.out]; exact goodP.times_on opa _
  obtain ⟨q56, Hq56⟩ : ∃ q, Hid (Pt.times ivP pa j1 = q) := ⟨_, Lib.hid rfl⟩
  have oq56 : q56.On := by rw [← Hq56.out]; exact goodP.times_on opa _
  obtain ⟨q61, Hq61⟩ : ∃ q, Hid (Pt.add ivP q50 q56 = q) := ⟨_, Lib.hid rfl⟩
  have oq61 : q61.On := by rw [← Hq61.out]; exact goodP.add_on oq50 oq56
  obtain ⟨q71, Hq71⟩ : ∃ q, Hid (Pt.times ivP pa (j0 + j1) = q) := ⟨_, Lib.hid rfl⟩
  have oq71 : q71.On := by rw [← Hq71.out]; exact goodP.times_on opa _
  obtain ⟨q76, Hq76⟩ : ∃ q, Hid (Pt.times ivP pa nN = q) := ⟨_, Lib.hid rfl⟩
  have oq76 : q76.On := by rw [← Hq76.out]; exact goodP.times_on opa _
  have h26 := Lib.hid (show q24 = q21 by rw [← Hq24.out, ← Hq21.out]; exact goodP.add_comm opb opa)
  have h43 := Lib.hid (show q37 = q42 by rw [← Hq37.out, ← Hq42.out, ← Hq36.out, ← Hq40.out]; exact (goodP.assoc oq21 opa opa).symm)
  have h72 := Lib.hid (show q61 = q71 by rw [← Hq61.out, ← Hq71.out, ← Hq50.out, ← Hq56.out]; exact (goodP.times_add opa _ _).symm)
  have h78 := Lib.hid (show q76 = .o by rw [← Hq76.out, ← HP1.out, ← HnN.out]; exact pick_N _ _)
  have hM0 := mm_nil w
  (try unfold WV)
  go_enter Tryd.func8, Tryd.ntmps8
  go_wp2_with (first
    | ((with_reducible change wpList _ _ _ (Oper.mk (some 3) _ _ _ _ _ :: _) _ _); refine mmBox hM0 _ _ (#[.int .u16 ((k1 : Int)), .bool b1]) rfl rfl rfl ?_; intro w1 hM1; clear hM0; go_frame)
    | ((with_reducible change wpList _ _ _ (Oper.mk (some 4) _ _ _ _ _ :: _) _ _); refine mmBox hM1 _ _ (#[.int .u16 ((k2 : Int)), .bool b2]) rfl rfl rfl ?_; intro w2 hM2; clear hM1; go_frame)
    | ((with_reducible change wpList _ _ _ (Oper.mk (some 5) _ _ _ _ _ :: _) _ _); refine mmBox hM2 _ _ (#[.int .u32 (j0 : Int), .int .u32 (j1 : Int)]) rfl rfl rfl ?_; intro w3 hM3; clear hM2; go_frame)
    | (go_at_call 15; refine (curveAlive_pt _ (hG.below hM3.below) (hO.below hM3.below) (hB.below hM3.below)).mono ?_; rintro e w4 ⟨rfl, hB4⟩; have hM4 := hM3.on hB4; clear hB4 hM3; (try unfold WV); go_frame))
  refine region_symT 6 _ [4, 5] [7, 8] [.val (.agg (#[.int .u16 ((k1 : Int)), .bool b1])), .val (.agg (ptc pa)), .val (.agg (#[.int .u16 ((k2 : Int)), .bool b2])), .val (.agg (ptc pb)), .hold w4.heap.size 30 (pcells 0 0 false), .hold w4.heap.size 30 (pcells 0 0 false)] rfl (by kernel_rfl) (by kernel_rfl) (by kernel_rfl) (by kernel_rfl) rfl (by intro s hs; simp only [List.mem_cons, List.not_mem_nil, or_false] at hs; rcases hs with rfl | rfl <;> rfl) (steps_all ⟨?_, ?_, ?_, ?_, ?_, ?_, trivial⟩) ?_
  · intro A W hsz hoth hbel hX hdep
    exact kLoadRow _ _ _ _ _ _ rfl rfl ((hoth 3 (free2_of (by kernel_rfl))).trans rfl) ((hM4.get 2 rfl).on hbel) Tryd.underlying41 rfl (info_PickC _ _) (symVT hX hsz rfl (show 15 < 80 by decide) rfl (Below.refl _ _) rfl)
  · intro A W hsz hoth hbel hX hdep
    refine kCall1 19 _ _ _ rfl rfl (by kernel_rfl) (by have h := hdep ⟨0, .data⟩ (by simp) rfl; exact h) ?_
    refine (pickOf_q hk1 b1 HP1.out W).mono ?_
    rintro e r ⟨rfl, hBc⟩
    exact ⟨_, rfl, (symVT hX hsz rfl (show 16 < 80 by decide) rfl hBc rfl)⟩
  · intro A W hsz hoth hbel hX hdep
    exact kLoadRow _ _ _ _ _ _ rfl rfl ((hoth 4 (free2_of (by kernel_rfl))).trans rfl) ((hM4.get 1 rfl).on hbel) Tryd.underlying41 rfl (info_PickC _ _) (symVT hX hsz rfl (show 17 < 80 by decide) rfl (Below.refl _ _) rfl)
  · intro A W hsz hoth hbel hX hdep
    refine kCall1 19 _ _ _ rfl rfl (by kernel_rfl) (by have h := hdep ⟨2, .data⟩ (by simp) rfl; exact h) ?_
    refine (pickOf_q hk2 b2 HP2.out W).mono ?_
    rintro e r ⟨rfl, hBc⟩
    exact ⟨_, rfl, (symVT hX hsz rfl (show 18 < 80 by decide) rfl hBc rfl)⟩
  · intro A W hsz hoth hbel hX hdep
    refine kAllocL _ _ rfl rfl zero_Point ?_
    intro r hR hl hBc
    exact (symAT hX hsz rfl (show 7 < 80 by decide) hl hBc ⟨_, rfl, hbel.size, hR⟩)
  · intro A W hsz hoth hbel hX hdep
    refine kAllocL _ _ rfl rfl zero_Point ?_
    intro r hR hl hBc
    exact (symAT hX hsz rfl (show 8 < 80 by decide) hl hBc ⟨_, rfl, hbel.size, hR⟩)
  intro w5 hB5
  dsimp only [AllV]
  intro g5_7 hg5_7 hR5_7
  intro g5_8 hg5_8 hR5_8
  intro hap
  dsimp only [putAll, List.take, List.drop]
  go_frame
  have hM5 := hM4.on hB5
  replace hM5 := hM5.cons hR5_7 (Nat.le_trans hM4.size hg5_7) (fun p hp => by have := hM4.lt hp; omega)
  have hne5_8_5_7 : g5_8 ≠ g5_7 := fun e => hap 5 (by simp) 4 (by simp) (by decide) g5_8 rfl (by rw [e]; rfl)
  replace hM5 := hM5.cons hR5_8 (Nat.le_trans hM4.size hg5_8) (List.forall_mem_cons.2 ⟨hne5_8_5_7, fun p hp => by have := hM4.lt hp; omega⟩)
  clear hB5 hM4 hap hg5_7 hR5_7 hg5_8 hR5_8
  go_wp2_with (first
    | ((with_reducible change wpList _ _ _ (Oper.mk none (Op.store _ (Operand.tmp 7) (Operand.tmp 16)) _ _ _ _ :: _) _ _); refine mmStoreAt hM5 1 _ _ _ _ _ _ (ptc pa) rfl rfl rfl rfl rfl (info_ptc _) (by simp only [pcells_size, ptc_size]) (ptc_one _) ?_; intro w6 hM6; dsimp only [List.set] at hM6; clear hM5; go_frame)
    | ((with_reducible change wpList _ _ _ (Oper.mk none (Op.store _ (Operand.tmp 8) (Operand.tmp 18)) _ _ _ _ :: _) _ _); refine mmStoreAt hM6 0 _ _ _ _ _ _ (ptc pb) rfl rfl rfl rfl rfl (info_ptc _) (by simp only [pcells_size, ptc_size]) (ptc_one _) ?_; intro w7 hM7; dsimp only [List.set] at hM7; clear hM6; go_frame)
    | ((with_reducible change wpList _ _ _ (Oper.mk (some 19) _ _ _ _ _ :: _) _ _); refine kLoadRow _ _ _ _ _ _ rfl rfl rfl (hM7.get 1 rfl) Tryd.underlying30 rfl (info_ptc _) ?_; go_frame)
    | ((with_reducible change wpList _ _ _ (Oper.mk (some 20) _ _ _ _ _ :: _) _ _); refine kLoadRow _ _ _ _ _ _ rfl rfl rfl (hM7.get 0 rfl) Tryd.underlying30 rfl (info_ptc _) ?_; go_frame)
    | (go_at_call 13; (with_reducible change Calls _ _ #[Value.agg (ptc pa), Value.agg (ptc pb)] _ _); refine (cAdd_q opa opb Hq21.out _ (hG.below hM7.below) (hO.below hM7.below)).mono ?_; rintro e w8 ⟨rfl, hB8⟩; have hM8 := hM7.on hB8; clear hB8 hM7; (try unfold WV); go_frame)
    | ((with_reducible change wpList _ _ _ (Oper.mk (some 9) _ _ _ _ _ :: _) _ _); refine mmAlloc hM8 _ _ rfl rfl zero_Point ?_; intro w9 hM9; clear hM8; go_frame)
    | ((with_reducible change wpList _ _ _ (Oper.mk none (Op.store _ (Operand.tmp 9) (Operand.tmp 21)) _ _ _ _ :: _) _ _); refine mmStoreAt hM9 0 _ _ _ _ _ _ (ptc q21) rfl rfl rfl rfl rfl (info_ptc _) (by simp only [pcells_size, ptc_size]) (ptc_one _) ?_; intro w10 hM10; dsimp only [List.set] at hM10; clear hM9; go_frame))
  refine region_symT 23 _ [] [] [.val (.agg (ptc pb)), .val (.agg (ptc pa)), .val (.agg (ptc q24)), .val (.agg (ptc q21)), .val (.bool false), .val (.bool false), .val (.agg (ptc q21)), .val (.bool true), .val (.bool false), .val (.bool false), .val (.bool false), .val (.agg (ptc q21)), .val (.agg (ptc pa)), .val (.agg (ptc pa)), .val (.agg (ptc q36)), .val (.agg (ptc q37)), .val (.agg (ptc q21)), .val (.agg (ptc pa)), .val (.agg (ptc q40)), .val (.agg (ptc pa)), .val (.agg (ptc q42)), .val (.bool false), .val (.bool false)] rfl (by kernel_rfl) (by kernel_rfl) (by kernel_rfl) (by kernel_rfl) rfl (by intro s hs; cases hs) (steps_all ⟨?_, ?_, ?_, ?_, ?_, ?_, ?_, ?_, ?_, ?_, ?_, ?_, ?_, ?_, ?_, ?_, ?_, ?_, ?_, ?_, ?_, ?_, ?_, trivial⟩) ?_
  · intro A W hsz hoth hbel hX hdep
    exact kLoadRow _ _ _ _ _ _ rfl rfl ((hoth 8 (free2_of (by kernel_rfl))).trans rfl) ((hM10.get 1 rfl).on hbel) Tryd.underlying30 rfl (info_ptc _) (symVT hX hsz rfl (show 22 < 80 by decide) rfl (Below.refl _ _) rfl)
  · intro A W hsz hoth hbel hX hdep
    exact kLoadRow _ _ _ _ _ _ rfl rfl ((hoth 7 (free2_of (by kernel_rfl))).trans rfl) ((hM10.get 2 rfl).on hbel) Tryd.underlying30 rfl (info_ptc _) (symVT hX hsz rfl (show 23 < 80 by decide) rfl (Below.refl _ _) rfl)
  · intro A W hsz hoth hbel hX hdep
    refine kCall2 13 _ _ _ _ _ rfl rfl (by kernel_rfl) (by have h := hdep ⟨0, .data⟩ (by simp) rfl; exact h) (by have h := hdep ⟨1, .data⟩ (by simp) rfl; exact h) ?_
    refine (cAdd_q opb opa Hq24.out W ((hG.below hM10.below).below hbel) ((hO.below hM10.below).below hbel)).mono ?_
    rintro e r ⟨rfl, hBc⟩
    exact ⟨_, rfl, (symVT hX hsz rfl (show 24 < 80 by decide) rfl hBc rfl)⟩
  · intro A W hsz hoth hbel hX hdep
    exact kLoadRow _ _ _ _ _ _ rfl rfl ((hoth 9 (free2_of (by kernel_rfl))).trans rfl) ((hM10.get 0 rfl).on hbel) Tryd.underlying30 rfl (info_ptc _) (symVT hX hsz rfl (show 25 < 80 by decide) rfl (Below.refl _ _) rfl)
  · intro A W hsz hoth hbel hX hdep
    exact kNeqPt _ _ _ q24 q21 false rfl rfl (by have h := hdep ⟨2, .data⟩ (by simp) rfl; exact h) (by have h := hdep ⟨3, .data⟩ (by simp) rfl; exact h) (ne_no h26.out) (symVT hX hsz rfl (show 26 < 80 by decide) rfl (Below.refl _ _) rfl)
  · intro A W hsz hoth hbel hX hdep
    exact kMoveV _ (.bool false) rfl rfl (by have h := hdep ⟨4, .data⟩ (by simp) rfl; exact h) (symVT hX hsz rfl (show 27 < 80 by decide) rfl (Below.refl _ _) rfl)
  · intro A W hsz hoth hbel hX hdep
    exact kLoadRow _ _ _ _ _ _ rfl (wanted_of rfl rfl (by have h := hdep ⟨5, .guard⟩ (by simp) rfl; exact h)) ((hoth 9 (free2_of (by kernel_rfl))).trans rfl) ((hM10.get 0 rfl).on hbel) Tryd.underlying30 rfl (info_ptc _) (symVT hX hsz rfl (show 28 < 80 by decide) rfl (Below.refl _ _) rfl)
  · intro A W hsz hoth hbel hX hdep
    refine kCall1 20 _ _ _ rfl (wanted_of rfl rfl (by have h := hdep ⟨5, .chain⟩ (by simp) rfl; exact h)) (by kernel_rfl) (by have h := hdep ⟨6, .data⟩ (by simp) rfl; exact h) ?_
    refine (cOn_pt oq21 W ((hG.below hM10.below).below hbel) ((hO.below hM10.below).below hbel)).mono ?_
    rintro e r ⟨rfl, hBc⟩
    exact ⟨_, rfl, (symVT hX hsz rfl (show 29 < 80 by decide) rfl hBc rfl)⟩
  · intro A W hsz hoth hbel hX hdep
    exact kNot _ _ true rfl (wanted_of rfl rfl (by have h := hdep ⟨5, .guard⟩ (by simp) rfl; exact h)) (by have h := hdep ⟨7, .data⟩ (by simp) rfl; exact h) (symVT hX hsz rfl (show 30 < 80 by decide) rfl (Below.refl _ _) rfl)
  · intro A W hsz hoth hbel hX hdep
    exact kPick _ _ _ false (.bool false) rfl rfl (by have h := hdep ⟨5, .data⟩ (by simp) rfl; exact h) (by have h := hdep ⟨8, .data⟩ (by simp) rfl; exact h) (symVT hX hsz rfl (show 31 < 80 by decide) rfl (Below.refl _ _) rfl)
  · intro A W hsz hoth hbel hX hdep
    exact kMoveV _ (.bool false) rfl rfl (by have h := hdep ⟨9, .data⟩ (by simp) rfl; exact h) (symVT hX hsz rfl (show 32 < 80 by decide) rfl (Below.refl _ _) rfl)
  · intro A W hsz hoth hbel hX hdep
    exact kLoadRow _ _ _ _ _ _ rfl (wanted_of rfl rfl (by have h := hdep ⟨10, .guard⟩ (by simp) rfl; exact h)) ((hoth 9 (free2_of (by kernel_rfl))).trans rfl) ((hM10.get 0 rfl).on hbel) Tryd.underlying30 rfl (info_ptc _) (symVT hX hsz rfl (show 33 < 80 by decide) rfl (Below.refl _ _) rfl)
  · intro A W hsz hoth hbel hX hdep
    exact kLoadRow _ _ _ _ _ _ rfl (wanted_of rfl rfl (by have h := hdep ⟨10, .guard⟩ (by simp) rfl; exact h)) ((hoth 7 (free2_of (by kernel_rfl))).trans rfl) ((hM10.get 2 rfl).on hbel) Tryd.underlying30 rfl (info_ptc _) (symVT hX hsz rfl (show 34 < 80 by decide) rfl (Below.refl _ _) rfl)
  · intro A W hsz hoth hbel hX hdep
    exact kLoadRow _ _ _ _ _ _ rfl (wanted_of rfl rfl (by have h := hdep ⟨10, .guard⟩ (by simp) rfl; exact h)) ((hoth 7 (free2_of (by kernel_rfl))).trans rfl) ((hM10.get 2 rfl).on hbel) Tryd.underlying30 rfl (info_ptc _) (symVT hX hsz rfl (show 35 < 80 by decide) rfl (Below.refl _ _) rfl)
  · intro A W hsz hoth hbel hX hdep
    refine kCall2 13 _ _ _ _ _ rfl (wanted_of rfl rfl (by have h := hdep ⟨10, .chain⟩ (by simp) rfl; exact h)) (by kernel_rfl) (by have h := hdep ⟨12, .data⟩ (by simp) rfl; exact h) (by have h := hdep ⟨13, .data⟩ (by simp) rfl; exact h) ?_
    refine (cAdd_q opa opa Hq36.out W ((hG.below hM10.below).below hbel) ((hO.below hM10.below).below hbel)).mono ?_
    rintro e r ⟨rfl, hBc⟩
    exact ⟨_, rfl, (symVT hX hsz rfl (show 36 < 80 by decide) rfl hBc rfl)⟩
  · intro A W hsz hoth hbel hX hdep
    refine kCall2 13 _ _ _ _ _ rfl (wanted_of rfl rfl (by have h := hdep ⟨10, .guard⟩ (by simp) rfl; exact h)) (by kernel_rfl) (by have h := hdep ⟨11, .data⟩ (by simp) rfl; exact h) (by have h := hdep ⟨14, .data⟩ (by simp) rfl; exact h) ?_
    refine (cAdd_q oq21 oq36 Hq37.out W ((hG.below hM10.below).below hbel) ((hO.below hM10.below).below hbel)).mono ?_
    rintro e r ⟨rfl, hBc⟩
    exact ⟨_, rfl, (symVT hX hsz rfl (show 37 < 80 by decide) rfl hBc rfl)⟩
  · intro A W hsz hoth hbel hX hdep
    exact kLoadRow _ _ _ _ _ _ rfl (wanted_of rfl rfl (by have h := hdep ⟨10, .guard⟩ (by simp) rfl; exact h)) ((hoth 9 (free2_of (by kernel_rfl))).trans rfl) ((hM10.get 0 rfl).on hbel) Tryd.underlying30 rfl (info_ptc _) (symVT hX hsz rfl (show 38 < 80 by decide) rfl (Below.refl _ _) rfl)
  · intro A W hsz hoth hbel hX hdep
    exact kLoadRow _ _ _ _ _ _ rfl (wanted_of rfl rfl (by have h := hdep ⟨10, .guard⟩ (by simp) rfl; exact h)) ((hoth 7 (free2_of (by kernel_rfl))).trans rfl) ((hM10.get 2 rfl).on hbel) Tryd.underlying30 rfl (info_ptc _) (symVT hX hsz rfl (show 39 < 80 by decide) rfl (Below.refl _ _) rfl)
  · intro A W hsz hoth hbel hX hdep
    refine kCall2 13 _ _ _ _ _ rfl (wanted_of rfl rfl (by have h := hdep ⟨10, .guard⟩ (by simp) rfl; exact h)) (by kernel_rfl) (by have h := hdep ⟨16, .data⟩ (by simp) rfl; exact h) (by have h := hdep ⟨17, .data⟩ (by simp) rfl; exact h) ?_
    refine (cAdd_q oq21 opa Hq40.out W ((hG.below hM10.below).below hbel) ((hO.below hM10.below).below hbel)).mono ?_
    rintro e r ⟨rfl, hBc⟩
    exact ⟨_, rfl, (symVT hX hsz rfl (show 40 < 80 by decide) rfl hBc rfl)⟩
  · intro A W hsz hoth hbel hX hdep
    exact kLoadRow _ _ _ _ _ _ rfl (wanted_of rfl rfl (by have h := hdep ⟨10, .guard⟩ (by simp) rfl; exact h)) ((hoth 7 (free2_of (by kernel_rfl))).trans rfl) ((hM10.get 2 rfl).on hbel) Tryd.underlying30 rfl (info_ptc _) (symVT hX hsz rfl (show 41 < 80 by decide) rfl (Below.refl _ _) rfl)
  · intro A W hsz hoth hbel hX hdep
    refine kCall2 13 _ _ _ _ _ rfl (wanted_of rfl rfl (by have h := hdep ⟨10, .guard⟩ (by simp) rfl; exact h)) (by kernel_rfl) (by have h := hdep ⟨18, .data⟩ (by simp) rfl; exact h) (by have h := hdep ⟨19, .data⟩ (by simp) rfl; exact h) ?_
    refine (cAdd_q oq40 opa Hq42.out W ((hG.below hM10.below).below hbel) ((hO.below hM10.below).below hbel)).mono ?_
    rintro e r ⟨rfl, hBc⟩
    exact ⟨_, rfl, (symVT hX hsz rfl (show 42 < 80 by decide) rfl hBc rfl)⟩
  · intro A W hsz hoth hbel hX hdep
    exact kNeqPt _ _ _ q37 q42 false rfl (wanted_of rfl rfl (by have h := hdep ⟨10, .guard⟩ (by simp) rfl; exact h)) (by have h := hdep ⟨15, .data⟩ (by simp) rfl; exact h) (by have h := hdep ⟨20, .data⟩ (by simp) rfl; exact h) (ne_no h43.out) (symVT hX hsz rfl (show 43 < 80 by decide) rfl (Below.refl _ _) rfl)
  · intro A W hsz hoth hbel hX hdep
    exact kPick _ _ _ false (.bool false) rfl rfl (by have h := hdep ⟨10, .data⟩ (by simp) rfl; exact h) (by have h := hdep ⟨21, .data⟩ (by simp) rfl; exact h) (symVT hX hsz rfl (show 44 < 80 by decide) rfl (Below.refl _ _) rfl)
  intro w11 hB11
  dsimp only [AllV]
  intro hap
  dsimp only [putAll, List.take, List.drop]
  go_frame
  have hM11 := hM10.on hB11
  clear hB11 hM10 hap
  go_wp2_with fail
  refine region_symT 7 _ [6] [10] [.val (.pointer (some ⟨w2.heap.size, 0, none⟩)), .val (.int .u32 ((j0 : Int))), .val (.int .u64 ((j0 : Int))), .val (.agg (wcells j0)), .val (.agg (ptc pa)), .val (.agg (ptc q50)), .hold w11.heap.size 30 (pcells 0 0 false)] rfl (by kernel_rfl) (by kernel_rfl) (by kernel_rfl) (by kernel_rfl) rfl (by intro s hs; simp only [List.mem_cons, List.not_mem_nil, or_false] at hs; rcases hs with rfl <;> rfl) (steps_all ⟨?_, ?_, ?_, ?_, ?_, ?_, ?_, trivial⟩) ?_
  · intro A W hsz hoth hbel hX hdep
    exact kIndexAddr1 _ _ _ _ _ _ _ 0 _ rfl rfl ((hoth 5 (free2_of (by kernel_rfl))).trans rfl) rfl Tryd.underlying52 info_u32 rfl (by decide) (symVT hX hsz rfl (show 45 < 80 by decide) rfl (Below.refl _ _) rfl)
  · intro A W hsz hoth hbel hX hdep
    exact kLoad1 _ _ _ _ _ _ _ _ rfl rfl (by have h := hdep ⟨0, .data⟩ (by simp) rfl; exact h) ((hM11.get 3 rfl).on hbel) Tryd.underlying51 rfl rfl (symVT hX hsz rfl (show 46 < 80 by decide) rfl (Below.refl _ _) rfl)
  · intro A W hsz hoth hbel hX hdep
    exact kConvU32 _ j0 hj0 rfl rfl (by have h := hdep ⟨1, .data⟩ (by simp) rfl; exact h) (symVT hX hsz rfl (show 47 < 80 by decide) rfl (Below.refl _ _) rfl)
  · intro A W hsz hoth hbel hX hdep
    refine kCall1 18 _ _ _ rfl rfl (by kernel_rfl) (by have h := hdep ⟨2, .data⟩ (by simp) rfl; exact h) ?_
    refine (wOf_lit j0 (j0 : Int) h64_0 rfl W).mono ?_
    rintro e r ⟨rfl, hBc⟩
    exact ⟨_, rfl, (symVT hX hsz rfl (show 48 < 80 by decide) rfl hBc rfl)⟩
  · intro A W hsz hoth hbel hX hdep
    exact kLoadRow _ _ _ _ _ _ rfl rfl ((hoth 7 (free2_of (by kernel_rfl))).trans rfl) ((hM11.get 2 rfl).on hbel) Tryd.underlying30 rfl (info_ptc _) (symVT hX hsz rfl (show 49 < 80 by decide) rfl (Below.refl _ _) rfl)
  · intro A W hsz hoth hbel hX hdep
    refine kCall2 16 _ _ _ _ _ rfl rfl (by kernel_rfl) (by have h := hdep ⟨3, .data⟩ (by simp) rfl; exact h) (by have h := hdep ⟨4, .data⟩ (by simp) rfl; exact h) ?_
    refine (cTimes_q mj0 opa Hq50.out W ((hG.below hM11.below).below hbel) ((hO.below hM11.below).below hbel) ((hB.below hM11.below).below hbel)).mono ?_
    rintro e r ⟨rfl, hBc⟩
    exact ⟨_, rfl, (symVT hX hsz rfl (show 50 < 80 by decide) rfl hBc rfl)⟩
  · intro A W hsz hoth hbel hX hdep
    refine kAllocL _ _ rfl rfl zero_Point ?_
    intro r hR hl hBc
    exact (symAT hX hsz rfl (show 10 < 80 by decide) hl hBc ⟨_, rfl, hbel.size, hR⟩)
  intro w12 hB12
  dsimp only [AllV]
  intro g12_10 hg12_10 hR12_10
  intro hap
  dsimp only [putAll, List.take, List.drop]
  go_frame
  have hM12 := hM11.on hB12
  replace hM12 := hM12.cons hR12_10 (Nat.le_trans hM11.size hg12_10) (fun p hp => by have := hM11.lt hp; omega)
  clear hB12 hM11 hap hg12_10 hR12_10
  go_wp2_with (first
    | ((with_reducible change wpList _ _ _ (Oper.mk none (Op.store _ (Operand.tmp 10) (Operand.tmp 50)) _ _ _ _ :: _) _ _); refine mmStoreAt hM12 0 _ _ _ _ _ _ (ptc q50) rfl rfl rfl rfl rfl (info_ptc _) (by simp only [pcells_size, ptc_size]) (ptc_one _) ?_; intro w13 hM13; dsimp only [List.set] at hM13; clear hM12; go_frame))
  refine region_symT 7 _ [6] [11] [.val (.pointer (some ⟨w2.heap.size, 1, none⟩)), .val (.int .u32 ((j1 : Int))), .val (.int .u64 ((j1 : Int))), .val (.agg (wcells j1)), .val (.agg (ptc pa)), .val (.agg (ptc q56)), .hold w13.heap.size 30 (pcells 0 0 false)] rfl (by kernel_rfl) (by kernel_rfl) (by kernel_rfl) (by kernel_rfl) rfl (by intro s hs; simp only [List.mem_cons, List.not_mem_nil, or_false] at hs; rcases hs with rfl <;> rfl) (steps_all ⟨?_, ?_, ?_, ?_, ?_, ?_, ?_, trivial⟩) ?_
  · intro A W hsz hoth hbel hX hdep
    exact kIndexAddr1 _ _ _ _ _ _ _ 1 _ rfl rfl ((hoth 5 (free2_of (by kernel_rfl))).trans rfl) rfl Tryd.underlying52 info_u32 rfl (by decide) (symVT hX hsz rfl (show 51 < 80 by decide) rfl (Below.refl _ _) rfl)
  · intro A W hsz hoth hbel hX hdep
    exact kLoad1 _ _ _ _ _ _ _ _ rfl rfl (by have h := hdep ⟨0, .data⟩ (by simp) rfl; exact h) ((hM13.get 4 rfl).on hbel) Tryd.underlying51 rfl rfl (symVT hX hsz rfl (show 52 < 80 by decide) rfl (Below.refl _ _) rfl)
  · intro A W hsz hoth hbel hX hdep
    exact kConvU32 _ j1 hj1 rfl rfl (by have h := hdep ⟨1, .data⟩ (by simp) rfl; exact h) (symVT hX hsz rfl (show 53 < 80 by decide) rfl (Below.refl _ _) rfl)
  · intro A W hsz hoth hbel hX hdep
    refine kCall1 18 _ _ _ rfl rfl (by kernel_rfl) (by have h := hdep ⟨2, .data⟩ (by simp) rfl; exact h) ?_
    refine (wOf_lit j1 (j1 : Int) h64_1 rfl W).mono ?_
    rintro e r ⟨rfl, hBc⟩
    exact ⟨_, rfl, (symVT hX hsz rfl (show 54 < 80 by decide) rfl hBc rfl)⟩
  · intro A W hsz hoth hbel hX hdep
    exact kLoadRow _ _ _ _ _ _ rfl rfl ((hoth 7 (free2_of (by kernel_rfl))).trans rfl) ((hM13.get 3 rfl).on hbel) Tryd.underlying30 rfl (info_ptc _) (symVT hX hsz rfl (show 55 < 80 by decide) rfl (Below.refl _ _) rfl)
  · intro A W hsz hoth hbel hX hdep
    refine kCall2 16 _ _ _ _ _ rfl rfl (by kernel_rfl) (by have h := hdep ⟨3, .data⟩ (by simp) rfl; exact h) (by have h := hdep ⟨4, .data⟩ (by simp) rfl; exact h) ?_
    refine (cTimes_q mj1 opa Hq56.out W ((hG.below hM13.below).below hbel) ((hO.below hM13.below).below hbel) ((hB.below hM13.below).below hbel)).mono ?_
    rintro e r ⟨rfl, hBc⟩
    exact ⟨_, rfl, (symVT hX hsz rfl (show 56 < 80 by decide) rfl hBc rfl)⟩
  · intro A W hsz hoth hbel hX hdep
    refine kAllocL _ _ rfl rfl zero_Point ?_
    intro r hR hl hBc
    exact (symAT hX hsz rfl (show 11 < 80 by decide) hl hBc ⟨_, rfl, hbel.size, hR⟩)
  intro w14 hB14
  dsimp only [AllV]
  intro g14_11 hg14_11 hR14_11
  intro hap
  dsimp only [putAll, List.take, List.drop]
  go_frame
  have hM14 := hM13.on hB14
  replace hM14 := hM14.cons hR14_11 (Nat.le_trans hM13.size hg14_11) (fun p hp => by have := hM13.lt hp; omega)
  clear hB14 hM13 hap hg14_11 hR14_11
  go_wp2_with (first
    | ((with_reducible change wpList _ _ _ (Oper.mk none (Op.store _ (Operand.tmp 11) (Operand.tmp 56)) _ _ _ _ :: _) _ _); refine mmStoreAt hM14 0 _ _ _ _ _ _ (ptc q56) rfl rfl rfl rfl rfl (info_ptc _) (by simp only [pcells_size, ptc_size]) (ptc_one _) ?_; intro w15 hM15; dsimp only [List.set] at hM15; clear hM14; go_frame)
    | (go_at_call 11; (with_reducible change Calls _ _ #[Value.bool false] _ _); refine (hPN.out _).mono ?_; rintro e w16 ⟨x16, rfl, hN16, hB16⟩; have hM16 := hM15.on hB16; clear hB16 hM15; have hM17 := mm_nil w16; go_frame)
    | (go_at_call 10; (with_reducible change Calls _ _ #[x16] _ _); refine (dWide_num (hN16.below hM17.below)).mono ?_; rintro e w18 ⟨rfl, hB18⟩; have hM18 := hM17.on hB18; clear hB18 hM17; (try unfold WV); go_frame)
    | ((with_reducible change wpList _ _ _ (Oper.mk (some 12) _ _ _ _ _ :: _) _ _); refine mmAlloc hM18 _ _ rfl rfl zero_Wide ?_; intro w19 hM19; clear hM18; go_frame)
    | ((with_reducible change wpList _ _ _ (Oper.mk none (Op.store _ (Operand.tmp 12) (Operand.tmp 58)) _ _ _ _ :: _) _ _); refine mmStoreAt hM19 0 _ _ _ _ _ _ (wcells nN) rfl rfl rfl rfl rfl (info_WideC _) (by simp only [wcells_size]) (wcells_one _) ?_; intro w20 hM20; dsimp only [List.set] at hM20; clear hM19; go_frame))
  refine region_symT 22 _ [] [] [.val (.agg (ptc q50)), .val (.agg (ptc q56)), .val (.agg (ptc q61)), .val (.pointer (some ⟨w2.heap.size, 0, none⟩)), .val (.int .u32 ((j0 : Int))), .val (.int .u64 ((j0 : Int))), .val (.pointer (some ⟨w2.heap.size, 1, none⟩)), .val (.int .u32 ((j1 : Int))), .val (.int .u64 ((j1 : Int))), .val (.int .u64 (((j0 + j1 : Nat) : Int))), .val (.agg (wcells ((j0 + j1)))), .val (.agg (ptc pa)), .val (.agg (ptc q71)), .val (.bool true), .val (.bool true), .val (.agg (wcells nN)), .val (.agg (ptc pa)), .val (.agg (ptc q76)), .val (.agg (ptc .o)), .val (.bool true), .val (.bool true), .val (.bool true)] rfl (by kernel_rfl) (by kernel_rfl) (by kernel_rfl) (by kernel_rfl) rfl (by intro s hs; cases hs) (steps_all ⟨?_, ?_, ?_, ?_, ?_, ?_, ?_, ?_, ?_, ?_, ?_, ?_, ?_, ?_, ?_, ?_, ?_, ?_, ?_, ?_, ?_, ?_, trivial⟩) ?_
  · intro A W hsz hoth hbel hX hdep
    exact kLoadRow _ _ _ _ _ _ rfl rfl ((hoth 10 (free2_of (by kernel_rfl))).trans rfl) (((hM16.get 1 rfl).on hM20.below).on hbel) Tryd.underlying30 rfl (info_ptc _) (symVT hX hsz rfl (show 59 < 80 by decide) rfl (Below.refl _ _) rfl)
  · intro A W hsz hoth hbel hX hdep
    exact kLoadRow _ _ _ _ _ _ rfl rfl ((hoth 11 (free2_of (by kernel_rfl))).trans rfl) (((hM16.get 0 rfl).on hM20.below).on hbel) Tryd.underlying30 rfl (info_ptc _) (symVT hX hsz rfl (show 60 < 80 by decide) rfl (Below.refl _ _) rfl)
  · intro A W hsz hoth hbel hX hdep
    refine kCall2 13 _ _ _ _ _ rfl rfl (by kernel_rfl) (by have h := hdep ⟨0, .data⟩ (by simp) rfl; exact h) (by have h := hdep ⟨1, .data⟩ (by simp) rfl; exact h) ?_
    refine (cAdd_q oq50 oq56 Hq61.out W (((hG.below hM16.below).below hM20.below).below hbel) (((hO.below hM16.below).below hM20.below).below hbel)).mono ?_
    rintro e r ⟨rfl, hBc⟩
    exact ⟨_, rfl, (symVT hX hsz rfl (show 61 < 80 by decide) rfl hBc rfl)⟩
  · intro A W hsz hoth hbel hX hdep
    exact kIndexAddr1 _ _ _ _ _ _ _ 0 _ rfl rfl ((hoth 5 (free2_of (by kernel_rfl))).trans rfl) rfl Tryd.underlying52 info_u32 rfl (by decide) (symVT hX hsz rfl (show 62 < 80 by decide) rfl (Below.refl _ _) rfl)
  · intro A W hsz hoth hbel hX hdep
    exact kLoad1 _ _ _ _ _ _ _ _ rfl rfl (by have h := hdep ⟨3, .data⟩ (by simp) rfl; exact h) (((hM16.get 5 rfl).on hM20.below).on hbel) Tryd.underlying51 rfl rfl (symVT hX hsz rfl (show 63 < 80 by decide) rfl (Below.refl _ _) rfl)
  · intro A W hsz hoth hbel hX hdep
    exact kConvU32 _ j0 hj0 rfl rfl (by have h := hdep ⟨4, .data⟩ (by simp) rfl; exact h) (symVT hX hsz rfl (show 64 < 80 by decide) rfl (Below.refl _ _) rfl)
  · intro A W hsz hoth hbel hX hdep
    exact kIndexAddr1 _ _ _ _ _ _ _ 1 _ rfl rfl ((hoth 5 (free2_of (by kernel_rfl))).trans rfl) rfl Tryd.underlying52 info_u32 rfl (by decide) (symVT hX hsz rfl (show 65 < 80 by decide) rfl (Below.refl _ _) rfl)
  · intro A W hsz hoth hbel hX hdep
    exact kLoad1 _ _ _ _ _ _ _ _ rfl rfl (by have h := hdep ⟨6, .data⟩ (by simp) rfl; exact h) (((hM16.get 5 rfl).on hM20.below).on hbel) Tryd.underlying51 rfl rfl (symVT hX hsz rfl (show 66 < 80 by decide) rfl (Below.refl _ _) rfl)
  · intro A W hsz hoth hbel hX hdep
    exact kConvU32 _ j1 hj1 rfl rfl (by have h := hdep ⟨7, .data⟩ (by simp) rfl; exact h) (symVT hX hsz rfl (show 67 < 80 by decide) rfl (Below.refl _ _) rfl)
  · intro A W hsz hoth hbel hX hdep
    exact kAddU _ _ _ _ j0 j1 rfl rfl (by have h := hdep ⟨5, .data⟩ (by simp) rfl; exact h) (by have h := hdep ⟨8, .data⟩ (by simp) rfl; exact h) (by omega) (symVT hX hsz rfl (show 68 < 80 by decide) rfl (Below.refl _ _) rfl)
  · intro A W hsz hoth hbel hX hdep
    refine kCall1 18 _ _ _ rfl rfl (by kernel_rfl) (by have h := hdep ⟨9, .data⟩ (by simp) rfl; exact h) ?_
    refine (wOf_lit (j0 + j1) ((j0 + j1 : Nat) : Int) hjs rfl W).mono ?_
    rintro e r ⟨rfl, hBc⟩
    exact ⟨_, rfl, (symVT hX hsz rfl (show 69 < 80 by decide) rfl hBc rfl)⟩
  · intro A W hsz hoth hbel hX hdep
    exact kLoadRow _ _ _ _ _ _ rfl rfl ((hoth 7 (free2_of (by kernel_rfl))).trans rfl) (((hM16.get 4 rfl).on hM20.below).on hbel) Tryd.underlying30 rfl (info_ptc _) (symVT hX hsz rfl (show 70 < 80 by decide) rfl (Below.refl _ _) rfl)
  · intro A W hsz hoth hbel hX hdep
    refine kCall2 16 _ _ _ _ _ rfl rfl (by kernel_rfl) (by have h := hdep ⟨10, .data⟩ (by simp) rfl; exact h) (by have h := hdep ⟨11, .data⟩ (by simp) rfl; exact h) ?_
    refine (cTimes_q mjs opa Hq71.out W (((hG.below hM16.below).below hM20.below).below hbel) (((hO.below hM16.below).below hM20.below).below hbel) (((hB.below hM16.below).below hM20.below).below hbel)).mono ?_
    rintro e r ⟨rfl, hBc⟩
    exact ⟨_, rfl, (symVT hX hsz rfl (show 71 < 80 by decide) rfl hBc rfl)⟩
  · intro A W hsz hoth hbel hX hdep
    exact kEqlPt _ _ _ q61 q71 true rfl rfl (by have h := hdep ⟨2, .data⟩ (by simp) rfl; exact h) (by have h := hdep ⟨12, .data⟩ (by simp) rfl; exact h) (eq_yes h72.out) (symVT hX hsz rfl (show 72 < 80 by decide) rfl (Below.refl _ _) rfl)
  · intro A W hsz hoth hbel hX hdep
    exact kMoveV _ (.bool true) rfl rfl (by have h := hdep ⟨13, .data⟩ (by simp) rfl; exact h) (symVT hX hsz rfl (show 73 < 80 by decide) rfl (Below.refl _ _) rfl)
  · intro A W hsz hoth hbel hX hdep
    exact kLoadRow _ _ _ _ _ _ rfl (wanted_of rfl rfl (by have h := hdep ⟨14, .guard⟩ (by simp) rfl; exact h)) ((hoth 12 (free2_of (by kernel_rfl))).trans rfl) ((hM20.get 0 rfl).on hbel) Tryd.underlying24 rfl (info_WideC _) (symVT hX hsz rfl (show 74 < 80 by decide) rfl (Below.refl _ _) rfl)
  · intro A W hsz hoth hbel hX hdep
    exact kLoadRow _ _ _ _ _ _ rfl (wanted_of rfl rfl (by have h := hdep ⟨14, .guard⟩ (by simp) rfl; exact h)) ((hoth 7 (free2_of (by kernel_rfl))).trans rfl) (((hM16.get 4 rfl).on hM20.below).on hbel) Tryd.underlying30 rfl (info_ptc _) (symVT hX hsz rfl (show 75 < 80 by decide) rfl (Below.refl _ _) rfl)
  · intro A W hsz hoth hbel hX hdep
    refine kCall2 16 _ _ _ _ _ rfl (wanted_of rfl rfl (by have h := hdep ⟨14, .chain⟩ (by simp) rfl; exact h)) (by kernel_rfl) (by have h := hdep ⟨15, .data⟩ (by simp) rfl; exact h) (by have h := hdep ⟨16, .data⟩ (by simp) rfl; exact h) ?_
    refine (cTimes_q mnN opa Hq76.out W (((hG.below hM16.below).below hM20.below).below hbel) (((hO.below hM16.below).below hM20.below).below hbel) (((hB.below hM16.below).below hM20.below).below hbel)).mono ?_
    rintro e r ⟨rfl, hBc⟩
    exact ⟨_, rfl, (symVT hX hsz rfl (show 76 < 80 by decide) rfl hBc rfl)⟩
  · intro A W hsz hoth hbel hX hdep
    refine kCall0 17 _ rfl (wanted_of rfl rfl (by have h := hdep ⟨14, .guard⟩ (by simp) rfl; exact h)) (by kernel_rfl)  ?_
    refine (nowhere_any W).mono ?_
    rintro e r ⟨rfl, hBc⟩
    exact ⟨_, rfl, (symVT hX hsz rfl (show 77 < 80 by decide) rfl hBc rfl)⟩
  · intro A W hsz hoth hbel hX hdep
    exact kEqlPt _ _ _ q76 .o true rfl (wanted_of rfl rfl (by have h := hdep ⟨14, .guard⟩ (by simp) rfl; exact h)) (by have h := hdep ⟨17, .data⟩ (by simp) rfl; exact h) (by have h := hdep ⟨18, .data⟩ (by simp) rfl; exact h) (eq_yes h78.out) (symVT hX hsz rfl (show 78 < 80 by decide) rfl (Below.refl _ _) rfl)
  · intro A W hsz hoth hbel hX hdep
    exact kPick _ _ _ true (.bool true) rfl rfl (by have h := hdep ⟨14, .data⟩ (by simp) rfl; exact h) (by have h := hdep ⟨19, .data⟩ (by simp) rfl; exact h) (symVT hX hsz rfl (show 79 < 80 by decide) rfl (Below.refl _ _) rfl)
  · intro A W hsz hoth hbel hX hdep
    exact kAssignV _ (.bool true) rfl rfl (by have h := hdep ⟨20, .data⟩ (by simp) rfl; exact h) (symVT hX hsz rfl (show 6 < 80 by decide) rfl (Below.refl _ _) rfl)
  intro w21 hB21
  dsimp only [AllV]
  intro hap
  dsimp only [putAll, List.take, List.drop]
  go_frame
  have hM21 := hM20.on hB21
  clear hB21 hM20 hap
  go_wp2_with fail
  go_ret
  exact ⟨rfl, ((hM16.below).trans (hM21.below.mono (hM16.below).size))⟩
set_option maxRecDepth 100000 in
set_option maxHeartbeats 8000000 in
theorem CurveNegs_any {k1 : Nat} (hk1 : k1 < 65536) (b1 : Bool) (w : World) (hG : Glob 2 PP w) (hO : GlobP 0 0 0 true w) (hB : GlobPt 1 gPt w) :
    Calls Tryd.prog 9 #[.agg #[.int .u16 (k1 : Int), .bool b1]] w fun e w' => e = .returned (.bool true) ∧ Below w.heap.size w w' := by
  obtain ⟨pa, HP1⟩ : ∃ q, Hid (pick k1 b1 = q) := ⟨_, Lib.hid rfl⟩
  have opa : pa.On := by rw [← HP1.out]; exact pick_on _ _
  obtain ⟨nN, HnN⟩ : ∃ n, Hid (NN = n) := ⟨_, Lib.hid rfl⟩
  have mnN : nN < M256 := by rw [← HnN.out]; decide
  have hPN := Lib.hid (show PrimeIs false nN by rw [← HnN.out]; exact rPrime_false)
  obtain ⟨n1, H1⟩ : ∃ n, Hid (n = 1) := ⟨1, Lib.hid rfl⟩
  have h1 : n1 < 18446744073709551616 := by rw [H1.out]; decide
  have mn1 : n1 < M256 := by rw [H1.out]; decide
  have E1 : (1 : Int) = (n1 : Int) := by rw [H1.out]; rfl
  replace E1 := Lib.hid E1
  obtain ⟨nM, HnM⟩ : ∃ n, Hid (NN - 1 = n) := ⟨_, Lib.hid rfl⟩
  have mnM : nM < M256 := by rw [← HnM.out]; decide
  have Hdec := Lib.hid (show (wcells nN).setIfInBounds 0 (.int .u64 ((limb nN 0 : Int) - 1)) = wcells nM by rw [← HnN.out, ← HnM.out]; exact less_one)
  have hl0 := Lib.hid (show (limb nN 0 : Int) - 1 = (limb nN 0 : Int) - 1 ∧ 0 ≤ (limb nN 0 : Int) - 1 ∧ (limb nN 0 : Int) - 1 < 18446744073709551616 by have h := limb_lt nN 0; have h2 := limbs_N.2.2.2.2; rw [HnN.out] at h2; omega)
  obtain ⟨q17, Hq17⟩ : ∃ q, Hid (pa.neg = q) := ⟨_, Lib.hid rfl⟩
  have oq17 : q17.On := by rw [← Hq17.out]; exact Pt.neg_on opa
  obtain ⟨q19, Hq19⟩ : ∃ q, Hid (q17.neg = q) := ⟨_, Lib.hid rfl⟩
  have oq19 : q19.On := by rw [← Hq19.out]; exact Pt.neg_on oq17
  obtain ⟨q36, Hq36⟩ : ∃ q, Hid (Pt.times ivP pa nM = q) := ⟨_, Lib.hid rfl⟩
  have oq36 : q36.On := by rw [← Hq36.out]; exact goodP.times_on opa _
  obtain ⟨q43, Hq43⟩ : ∃ q, Hid (Pt.add ivP pa q17 = q) := ⟨_, Lib.hid rfl⟩
  have oq43 : q43.On := by rw [← Hq43.out]; exact goodP.add_on opa oq17
  obtain ⟨q51, Hq51⟩ : ∃ q, Hid (both ivP gPt gPt nM n1 = q) := ⟨_, Lib.hid rfl⟩
  have oq51 : q51.On := by rw [← Hq51.out]; exact goodP.two_on gPt_on gPt_on _ _
  have h21 := Lib.hid (show q19 = pa by rw [← Hq19.out, ← Hq17.out]; exact Pt.neg_neg pa)
  have h31 := Lib.hid (show pX q17 = pX pa by rw [← Hq17.out]; exact pX_neg pa)
  have h38 := Lib.hid (show q36 = q17 by rw [← Hq36.out, ← Hq17.out, ← HnM.out]; exact goodP.neg_times opa (by rw [← HP1.out]; exact pick_N _ _) (by decide))
  have h45 := Lib.hid (show q43 = .o by rw [← Hq43.out, ← Hq17.out]; exact goodP.add_neg pa)
  have h53 := Lib.hid (show q51 = .o by rw [← Hq51.out, ← HnM.out, H1.out]; unfold both; rw [← goodP.times_add gPt_on, show NN - 1 + 1 = NN by decide]; exact base_N)
  have hM0 := mm_nil w
  (try unfold WV)
  go_enter Tryd.func9, Tryd.ntmps9
  go_wp2_with (first
    | ((with_reducible change wpList _ _ _ (Oper.mk (some 1) _ _ _ _ _ :: _) _ _); refine mmBox hM0 _ _ (#[.int .u16 ((k1 : Int)), .bool b1]) rfl rfl rfl ?_; intro w1 hM1; clear hM0; go_frame)
    | (go_at_call 15; refine (curveAlive_pt _ (hG.below hM1.below) (hO.below hM1.below) (hB.below hM1.below)).mono ?_; rintro e w2 ⟨rfl, hB2⟩; have hM2 := hM1.on hB2; clear hB2 hM1; (try unfold WV); go_frame)
    | ((with_reducible change wpList _ _ _ (Oper.mk (some 8) _ _ _ _ _ :: _) _ _); refine kLoadRow _ _ _ _ _ _ rfl rfl rfl (hM2.get 0 rfl) Tryd.underlying41 rfl (info_PickC _ _) ?_; go_frame)
    | (go_at_call 19; (with_reducible change Calls _ _ #[Value.agg (#[.int .u16 ((k1 : Int)), .bool b1])] _ _); refine (pickOf_q hk1 b1 HP1.out _).mono ?_; rintro e w3 ⟨rfl, hB3⟩; have hM3 := hM2.on hB3; clear hB3 hM2; (try unfold WV); go_frame)
    | ((with_reducible change wpList _ _ _ (Oper.mk (some 3) _ _ _ _ _ :: _) _ _); refine mmAlloc hM3 _ _ rfl rfl zero_Point ?_; intro w4 hM4; clear hM3; go_frame)
    | ((with_reducible change wpList _ _ _ (Oper.mk none (Op.store _ (Operand.tmp 3) (Operand.tmp 9)) _ _ _ _ :: _) _ _); refine mmStoreAt hM4 0 _ _ _ _ _ _ (ptc pa) rfl rfl rfl rfl rfl (info_ptc _) (by simp only [pcells_size, ptc_size]) (ptc_one _) ?_; intro w5 hM5; dsimp only [List.set] at hM5; clear hM4; go_frame)
    | (go_at_call 11; (with_reducible change Calls _ _ #[Value.bool false] _ _); refine (hPN.out _).mono ?_; rintro e w6 ⟨x6, rfl, hN6, hB6⟩; have hM6 := hM5.on hB6; clear hB6 hM5; have hM7 := mm_nil w6; go_frame)
    | (go_at_call 10; (with_reducible change Calls _ _ #[x6] _ _); refine (dWide_num (hN6.below hM7.below)).mono ?_; rintro e w8 ⟨rfl, hB8⟩; have hM8 := hM7.on hB8; clear hB8 hM7; (try unfold WV); go_frame)
    | ((with_reducible change wpList _ _ _ (Oper.mk (some 4) _ _ _ _ _ :: _) _ _); refine mmAlloc hM8 _ _ rfl rfl zero_Wide ?_; intro w9 hM9; clear hM8; go_frame)
    | ((with_reducible change wpList _ _ _ (Oper.mk none (Op.store _ (Operand.tmp 4) (Operand.tmp 11)) _ _ _ _ :: _) _ _); refine mmStoreAt hM9 0 _ _ _ _ _ _ (wcells nN) rfl rfl rfl rfl rfl (info_WideC _) (by simp only [wcells_size]) (wcells_one _) ?_; intro w10 hM10; dsimp only [List.set] at hM10; clear hM9; go_frame)
    | ((with_reducible change wpList _ _ _ (Oper.mk (some 12) _ _ _ _ _ :: _) _ _); refine kIndexAddr1 _ _ _ _ _ _ _ 0 _ rfl rfl rfl rfl Tryd.underlying24 info_w64 rfl (by decide) ?_; go_frame)
    | ((with_reducible change wpList _ _ _ (Oper.mk (some 13) _ _ _ _ _ :: _) _ _); refine kLoad1 _ _ _ _ _ _ _ _ rfl rfl rfl (hM10.get 0 rfl) Tryd.underlying22 rfl (wcells_get nN 0 (by decide)) ?_; go_frame)
    | ((with_reducible change wpList _ _ _ (Oper.mk (some 14) _ _ _ _ _ :: _) _ _); refine kSubU _ _ _ _ (limb nN 0 : Int) 1 ((limb nN 0 : Int) - 1) rfl rfl rfl rfl (hl0.out) ?_; go_frame)
    | ((with_reducible change wpList _ _ _ (Oper.mk (some 15) _ _ _ _ _ :: _) _ _); refine kIndexAddr1 _ _ _ _ _ _ _ 0 _ rfl rfl rfl rfl Tryd.underlying24 info_w64 rfl (by decide) ?_; go_frame)
    | ((with_reducible change wpList _ _ _ (Oper.mk none (Op.store _ (Operand.tmp 15) (Operand.tmp 14)) _ _ _ _ :: _) _ _); refine mmStore1 hM10 0 _ _ _ _ _ 0 _ _ (wcells nM) rfl rfl rfl rfl rfl info_w64 (by rw [wcells_size]; decide) rfl Hdec.out ?_; intro w11 hM11; dsimp only [List.set] at hM11; clear hM10; go_frame)
    | ((with_reducible change wpList _ _ _ (Oper.mk (some 16) _ _ _ _ _ :: _) _ _); refine kLoadRow _ _ _ _ _ _ rfl rfl rfl ((hM6.get 0 rfl).on hM11.below) Tryd.underlying30 rfl (info_ptc _) ?_; go_frame)
    | (go_at_call 22; (with_reducible change Calls _ _ #[Value.agg (ptc pa)] _ _); refine (cNeg_q Hq17.out _ ((hG.below hM6.below).below hM11.below)).mono ?_; rintro e w12 ⟨rfl, hB12⟩; have hM12 := hM11.on hB12; clear hB12 hM11; (try unfold WV); go_frame)
    | ((with_reducible change wpList _ _ _ (Oper.mk (some 5) _ _ _ _ _ :: _) _ _); refine mmAlloc hM12 _ _ rfl rfl zero_Point ?_; intro w13 hM13; clear hM12; go_frame)
    | ((with_reducible change wpList _ _ _ (Oper.mk none (Op.store _ (Operand.tmp 5) (Operand.tmp 17)) _ _ _ _ :: _) _ _); refine mmStoreAt hM13 0 _ _ _ _ _ _ (ptc q17) rfl rfl rfl rfl rfl (info_ptc _) (by simp only [pcells_size, ptc_size]) (ptc_one _) ?_; intro w14 hM14; dsimp only [List.set] at hM14; clear hM13; go_frame))
  refine region_symT 38 _ [] [] [.val (.agg (ptc q17)), .val (.agg (ptc q19)), .val (.agg (ptc pa)), .val (.bool true), .val (.bool true), .val (.agg (ptc q17)), .val (.bool true), .val (.bool true), .val (.bool true), .val (.pointer (some ⟨w12.heap.size, 0, none⟩)), .val (.agg (wcells ((pX q17)))), .val (.pointer (some ⟨w3.heap.size, 0, none⟩)), .val (.agg (wcells ((pX pa)))), .val (.bool true), .val (.bool true), .val (.bool true), .val (.agg (wcells nM)), .val (.agg (ptc pa)), .val (.agg (ptc q36)), .val (.agg (ptc q17)), .val (.bool true), .val (.bool true), .val (.bool true), .val (.agg (ptc pa)), .val (.agg (ptc q17)), .val (.agg (ptc q43)), .val (.agg (ptc .o)), .val (.bool true), .val (.bool true), .val (.bool true), .val (.agg (wcells nM)), .val (.agg (wcells n1)), .val (.agg (ptc gPt)), .val (.agg (ptc q51)), .val (.agg (ptc .o)), .val (.bool true), .val (.bool true), .val (.bool true)] rfl (by kernel_rfl) (by kernel_rfl) (by kernel_rfl) (by kernel_rfl) rfl (by intro s hs; cases hs) (steps_all ⟨?_, ?_, ?_, ?_, ?_, ?_, ?_, ?_, ?_, ?_, ?_, ?_, ?_, ?_, ?_, ?_, ?_, ?_, ?_, ?_, ?_, ?_, ?_, ?_, ?_, ?_, ?_, ?_, ?_, ?_, ?_, ?_, ?_, ?_, ?_, ?_, ?_, ?_, trivial⟩) ?_
  · intro A W hsz hoth hbel hX hdep
    exact kLoadRow _ _ _ _ _ _ rfl rfl ((hoth 5 (free2_of (by kernel_rfl))).trans rfl) ((hM14.get 0 rfl).on hbel) Tryd.underlying30 rfl (info_ptc _) (symVT hX hsz rfl (show 18 < 55 by decide) rfl (Below.refl _ _) rfl)
  · intro A W hsz hoth hbel hX hdep
    refine kCall1 22 _ _ _ rfl rfl (by kernel_rfl) (by have h := hdep ⟨0, .data⟩ (by simp) rfl; exact h) ?_
    refine (cNeg_q Hq19.out W (((hG.below hM6.below).below hM14.below).below hbel)).mono ?_
    rintro e r ⟨rfl, hBc⟩
    exact ⟨_, rfl, (symVT hX hsz rfl (show 19 < 55 by decide) rfl hBc rfl)⟩
  · intro A W hsz hoth hbel hX hdep
    exact kLoadRow _ _ _ _ _ _ rfl rfl ((hoth 3 (free2_of (by kernel_rfl))).trans rfl) (((hM6.get 0 rfl).on hM14.below).on hbel) Tryd.underlying30 rfl (info_ptc _) (symVT hX hsz rfl (show 20 < 55 by decide) rfl (Below.refl _ _) rfl)
  · intro A W hsz hoth hbel hX hdep
    exact kEqlPt _ _ _ q19 pa true rfl rfl (by have h := hdep ⟨1, .data⟩ (by simp) rfl; exact h) (by have h := hdep ⟨2, .data⟩ (by simp) rfl; exact h) (eq_yes h21.out) (symVT hX hsz rfl (show 21 < 55 by decide) rfl (Below.refl _ _) rfl)
  · intro A W hsz hoth hbel hX hdep
    exact kMoveV _ (.bool true) rfl rfl (by have h := hdep ⟨3, .data⟩ (by simp) rfl; exact h) (symVT hX hsz rfl (show 22 < 55 by decide) rfl (Below.refl _ _) rfl)
  · intro A W hsz hoth hbel hX hdep
    exact kLoadRow _ _ _ _ _ _ rfl (wanted_of rfl rfl (by have h := hdep ⟨4, .guard⟩ (by simp) rfl; exact h)) ((hoth 5 (free2_of (by kernel_rfl))).trans rfl) ((hM14.get 0 rfl).on hbel) Tryd.underlying30 rfl (info_ptc _) (symVT hX hsz rfl (show 23 < 55 by decide) rfl (Below.refl _ _) rfl)
  · intro A W hsz hoth hbel hX hdep
    refine kCall1 20 _ _ _ rfl (wanted_of rfl rfl (by have h := hdep ⟨4, .chain⟩ (by simp) rfl; exact h)) (by kernel_rfl) (by have h := hdep ⟨5, .data⟩ (by simp) rfl; exact h) ?_
    refine (cOn_pt oq17 W (((hG.below hM6.below).below hM14.below).below hbel) (((hO.below hM6.below).below hM14.below).below hbel)).mono ?_
    rintro e r ⟨rfl, hBc⟩
    exact ⟨_, rfl, (symVT hX hsz rfl (show 24 < 55 by decide) rfl hBc rfl)⟩
  · intro A W hsz hoth hbel hX hdep
    exact kPick _ _ _ true (.bool true) rfl rfl (by have h := hdep ⟨4, .data⟩ (by simp) rfl; exact h) (by have h := hdep ⟨6, .data⟩ (by simp) rfl; exact h) (symVT hX hsz rfl (show 25 < 55 by decide) rfl (Below.refl _ _) rfl)
  · intro A W hsz hoth hbel hX hdep
    exact kMoveV _ (.bool true) rfl rfl (by have h := hdep ⟨7, .data⟩ (by simp) rfl; exact h) (symVT hX hsz rfl (show 26 < 55 by decide) rfl (Below.refl _ _) rfl)
  · intro A W hsz hoth hbel hX hdep
    exact kFieldPoint0 _ _ rfl (wanted_of rfl rfl (by have h := hdep ⟨8, .guard⟩ (by simp) rfl; exact h)) ((hoth 5 (free2_of (by kernel_rfl))).trans rfl) (symVT hX hsz rfl (show 27 < 55 by decide) rfl (Below.refl _ _) rfl)
  · intro A W hsz hoth hbel hX hdep
    exact kLoadAs _ _ _ _ _ 4 _ _ _ rfl (wanted_of rfl rfl (by have h := hdep ⟨8, .guard⟩ (by simp) rfl; exact h)) (by have h := hdep ⟨9, .data⟩ (by simp) rfl; exact h) ((hM14.get 0 rfl).on hbel) Tryd.underlying24 rfl info_Wide (by rw [ptc_size]; decide) (ptc_at0 _) (symVT hX hsz rfl (show 28 < 55 by decide) rfl (Below.refl _ _) rfl)
  · intro A W hsz hoth hbel hX hdep
    exact kFieldPoint0 _ _ rfl (wanted_of rfl rfl (by have h := hdep ⟨8, .guard⟩ (by simp) rfl; exact h)) ((hoth 3 (free2_of (by kernel_rfl))).trans rfl) (symVT hX hsz rfl (show 29 < 55 by decide) rfl (Below.refl _ _) rfl)
  · intro A W hsz hoth hbel hX hdep
    exact kLoadAs _ _ _ _ _ 4 _ _ _ rfl (wanted_of rfl rfl (by have h := hdep ⟨8, .guard⟩ (by simp) rfl; exact h)) (by have h := hdep ⟨11, .data⟩ (by simp) rfl; exact h) (((hM6.get 0 rfl).on hM14.below).on hbel) Tryd.underlying24 rfl info_Wide (by rw [ptc_size]; decide) (ptc_at0 _) (symVT hX hsz rfl (show 30 < 55 by decide) rfl (Below.refl _ _) rfl)
  · intro A W hsz hoth hbel hX hdep
    exact kEqlW _ _ _ ((pX q17)) ((pX pa)) true rfl (wanted_of rfl rfl (by have h := hdep ⟨8, .guard⟩ (by simp) rfl; exact h)) (by have h := hdep ⟨10, .data⟩ (by simp) rfl; exact h) (by have h := hdep ⟨12, .data⟩ (by simp) rfl; exact h) (eqlW_yes h31.out) (symVT hX hsz rfl (show 31 < 55 by decide) rfl (Below.refl _ _) rfl)
  · intro A W hsz hoth hbel hX hdep
    exact kPick _ _ _ true (.bool true) rfl rfl (by have h := hdep ⟨8, .data⟩ (by simp) rfl; exact h) (by have h := hdep ⟨13, .data⟩ (by simp) rfl; exact h) (symVT hX hsz rfl (show 32 < 55 by decide) rfl (Below.refl _ _) rfl)
  · intro A W hsz hoth hbel hX hdep
    exact kMoveV _ (.bool true) rfl rfl (by have h := hdep ⟨14, .data⟩ (by simp) rfl; exact h) (symVT hX hsz rfl (show 33 < 55 by decide) rfl (Below.refl _ _) rfl)
  · intro A W hsz hoth hbel hX hdep
    exact kLoadRow _ _ _ _ _ _ rfl (wanted_of rfl rfl (by have h := hdep ⟨15, .guard⟩ (by simp) rfl; exact h)) ((hoth 4 (free2_of (by kernel_rfl))).trans rfl) ((hM14.get 1 rfl).on hbel) Tryd.underlying24 rfl (info_WideC _) (symVT hX hsz rfl (show 34 < 55 by decide) rfl (Below.refl _ _) rfl)
  · intro A W hsz hoth hbel hX hdep
    exact kLoadRow _ _ _ _ _ _ rfl (wanted_of rfl rfl (by have h := hdep ⟨15, .guard⟩ (by simp) rfl; exact h)) ((hoth 3 (free2_of (by kernel_rfl))).trans rfl) (((hM6.get 0 rfl).on hM14.below).on hbel) Tryd.underlying30 rfl (info_ptc _) (symVT hX hsz rfl (show 35 < 55 by decide) rfl (Below.refl _ _) rfl)
  · intro A W hsz hoth hbel hX hdep
    refine kCall2 16 _ _ _ _ _ rfl (wanted_of rfl rfl (by have h := hdep ⟨15, .chain⟩ (by simp) rfl; exact h)) (by kernel_rfl) (by have h := hdep ⟨16, .data⟩ (by simp) rfl; exact h) (by have h := hdep ⟨17, .data⟩ (by simp) rfl; exact h) ?_
    refine (cTimes_q mnM opa Hq36.out W (((hG.below hM6.below).below hM14.below).below hbel) (((hO.below hM6.below).below hM14.below).below hbel) (((hB.below hM6.below).below hM14.below).below hbel)).mono ?_
    rintro e r ⟨rfl, hBc⟩
    exact ⟨_, rfl, (symVT hX hsz rfl (show 36 < 55 by decide) rfl hBc rfl)⟩
  · intro A W hsz hoth hbel hX hdep
    exact kLoadRow _ _ _ _ _ _ rfl (wanted_of rfl rfl (by have h := hdep ⟨15, .guard⟩ (by simp) rfl; exact h)) ((hoth 5 (free2_of (by kernel_rfl))).trans rfl) ((hM14.get 0 rfl).on hbel) Tryd.underlying30 rfl (info_ptc _) (symVT hX hsz rfl (show 37 < 55 by decide) rfl (Below.refl _ _) rfl)
  · intro A W hsz hoth hbel hX hdep
    exact kEqlPt _ _ _ q36 q17 true rfl (wanted_of rfl rfl (by have h := hdep ⟨15, .guard⟩ (by simp) rfl; exact h)) (by have h := hdep ⟨18, .data⟩ (by simp) rfl; exact h) (by have h := hdep ⟨19, .data⟩ (by simp) rfl; exact h) (eq_yes h38.out) (symVT hX hsz rfl (show 38 < 55 by decide) rfl (Below.refl _ _) rfl)
  · intro A W hsz hoth hbel hX hdep
    exact kPick _ _ _ true (.bool true) rfl rfl (by have h := hdep ⟨15, .data⟩ (by simp) rfl; exact h) (by have h := hdep ⟨20, .data⟩ (by simp) rfl; exact h) (symVT hX hsz rfl (show 39 < 55 by decide) rfl (Below.refl _ _) rfl)
  · intro A W hsz hoth hbel hX hdep
    exact kMoveV _ (.bool true) rfl rfl (by have h := hdep ⟨21, .data⟩ (by simp) rfl; exact h) (symVT hX hsz rfl (show 40 < 55 by decide) rfl (Below.refl _ _) rfl)
  · intro A W hsz hoth hbel hX hdep
    exact kLoadRow _ _ _ _ _ _ rfl (wanted_of rfl rfl (by have h := hdep ⟨22, .guard⟩ (by simp) rfl; exact h)) ((hoth 3 (free2_of (by kernel_rfl))).trans rfl) (((hM6.get 0 rfl).on hM14.below).on hbel) Tryd.underlying30 rfl (info_ptc _) (symVT hX hsz rfl (show 41 < 55 by decide) rfl (Below.refl _ _) rfl)
  · intro A W hsz hoth hbel hX hdep
    exact kLoadRow _ _ _ _ _ _ rfl (wanted_of rfl rfl (by have h := hdep ⟨22, .guard⟩ (by simp) rfl; exact h)) ((hoth 5 (free2_of (by kernel_rfl))).trans rfl) ((hM14.get 0 rfl).on hbel) Tryd.underlying30 rfl (info_ptc _) (symVT hX hsz rfl (show 42 < 55 by decide) rfl (Below.refl _ _) rfl)
  · intro A W hsz hoth hbel hX hdep
    refine kCall2 13 _ _ _ _ _ rfl (wanted_of rfl rfl (by have h := hdep ⟨22, .chain⟩ (by simp) rfl; exact h)) (by kernel_rfl) (by have h := hdep ⟨23, .data⟩ (by simp) rfl; exact h) (by have h := hdep ⟨24, .data⟩ (by simp) rfl; exact h) ?_
    refine (cAdd_q opa oq17 Hq43.out W (((hG.below hM6.below).below hM14.below).below hbel) (((hO.below hM6.below).below hM14.below).below hbel)).mono ?_
    rintro e r ⟨rfl, hBc⟩
    exact ⟨_, rfl, (symVT hX hsz rfl (show 43 < 55 by decide) rfl hBc rfl)⟩
  · intro A W hsz hoth hbel hX hdep
    refine kCall0 17 _ rfl (wanted_of rfl rfl (by have h := hdep ⟨22, .guard⟩ (by simp) rfl; exact h)) (by kernel_rfl)  ?_
    refine (nowhere_any W).mono ?_
    rintro e r ⟨rfl, hBc⟩
    exact ⟨_, rfl, (symVT hX hsz rfl (show 44 < 55 by decide) rfl hBc rfl)⟩
  · intro A W hsz hoth hbel hX hdep
    exact kEqlPt _ _ _ q43 .o true rfl (wanted_of rfl rfl (by have h := hdep ⟨22, .guard⟩ (by simp) rfl; exact h)) (by have h := hdep ⟨25, .data⟩ (by simp) rfl; exact h) (by have h := hdep ⟨26, .data⟩ (by simp) rfl; exact h) (eq_yes h45.out) (symVT hX hsz rfl (show 45 < 55 by decide) rfl (Below.refl _ _) rfl)
  · intro A W hsz hoth hbel hX hdep
    exact kPick _ _ _ true (.bool true) rfl rfl (by have h := hdep ⟨22, .data⟩ (by simp) rfl; exact h) (by have h := hdep ⟨27, .data⟩ (by simp) rfl; exact h) (symVT hX hsz rfl (show 46 < 55 by decide) rfl (Below.refl _ _) rfl)
  · intro A W hsz hoth hbel hX hdep
    exact kMoveV _ (.bool true) rfl rfl (by have h := hdep ⟨28, .data⟩ (by simp) rfl; exact h) (symVT hX hsz rfl (show 47 < 55 by decide) rfl (Below.refl _ _) rfl)
  · intro A W hsz hoth hbel hX hdep
    exact kLoadRow _ _ _ _ _ _ rfl (wanted_of rfl rfl (by have h := hdep ⟨29, .guard⟩ (by simp) rfl; exact h)) ((hoth 4 (free2_of (by kernel_rfl))).trans rfl) ((hM14.get 1 rfl).on hbel) Tryd.underlying24 rfl (info_WideC _) (symVT hX hsz rfl (show 48 < 55 by decide) rfl (Below.refl _ _) rfl)
  · intro A W hsz hoth hbel hX hdep
    refine kCall1 18 _ _ _ rfl (wanted_of rfl rfl (by have h := hdep ⟨29, .chain⟩ (by simp) rfl; exact h)) (by kernel_rfl) rfl ?_
    refine (wOf_lit n1 1 h1 E1.out W).mono ?_
    rintro e r ⟨rfl, hBc⟩
    exact ⟨_, rfl, (symVT hX hsz rfl (show 49 < 55 by decide) rfl hBc rfl)⟩
  · intro A W hsz hoth hbel hX hdep
    refine kCall0 14 _ rfl (wanted_of rfl rfl (by have h := hdep ⟨29, .guard⟩ (by simp) rfl; exact h)) (by kernel_rfl)  ?_
    refine (cBase_pt W (((hB.below hM6.below).below hM14.below).below hbel)).mono ?_
    rintro e r ⟨rfl, hBc⟩
    exact ⟨_, rfl, (symVT hX hsz rfl (show 50 < 55 by decide) rfl hBc rfl)⟩
  · intro A W hsz hoth hbel hX hdep
    refine kCall3 27 _ _ _ _ _ _ _ rfl (wanted_of rfl rfl (by have h := hdep ⟨29, .guard⟩ (by simp) rfl; exact h)) (by kernel_rfl) (by have h := hdep ⟨30, .data⟩ (by simp) rfl; exact h) (by have h := hdep ⟨31, .data⟩ (by simp) rfl; exact h) (by have h := hdep ⟨32, .data⟩ (by simp) rfl; exact h) ?_
    refine (cBoth_q mnM mn1 gPt_on Hq51.out W (((hG.below hM6.below).below hM14.below).below hbel) (((hO.below hM6.below).below hM14.below).below hbel) (((hB.below hM6.below).below hM14.below).below hbel)).mono ?_
    rintro e r ⟨rfl, hBc⟩
    exact ⟨_, rfl, (symVT hX hsz rfl (show 51 < 55 by decide) rfl hBc rfl)⟩
  · intro A W hsz hoth hbel hX hdep
    refine kCall0 17 _ rfl (wanted_of rfl rfl (by have h := hdep ⟨29, .guard⟩ (by simp) rfl; exact h)) (by kernel_rfl)  ?_
    refine (nowhere_any W).mono ?_
    rintro e r ⟨rfl, hBc⟩
    exact ⟨_, rfl, (symVT hX hsz rfl (show 52 < 55 by decide) rfl hBc rfl)⟩
  · intro A W hsz hoth hbel hX hdep
    exact kEqlPt _ _ _ q51 .o true rfl (wanted_of rfl rfl (by have h := hdep ⟨29, .guard⟩ (by simp) rfl; exact h)) (by have h := hdep ⟨33, .data⟩ (by simp) rfl; exact h) (by have h := hdep ⟨34, .data⟩ (by simp) rfl; exact h) (eq_yes h53.out) (symVT hX hsz rfl (show 53 < 55 by decide) rfl (Below.refl _ _) rfl)
  · intro A W hsz hoth hbel hX hdep
    exact kPick _ _ _ true (.bool true) rfl rfl (by have h := hdep ⟨29, .data⟩ (by simp) rfl; exact h) (by have h := hdep ⟨35, .data⟩ (by simp) rfl; exact h) (symVT hX hsz rfl (show 54 < 55 by decide) rfl (Below.refl _ _) rfl)
  · intro A W hsz hoth hbel hX hdep
    exact kAssignV _ (.bool true) rfl rfl (by have h := hdep ⟨36, .data⟩ (by simp) rfl; exact h) (symVT hX hsz rfl (show 2 < 55 by decide) rfl (Below.refl _ _) rfl)
  intro w15 hB15
  dsimp only [AllV]
  intro hap
  dsimp only [putAll, List.take, List.drop]
  go_frame
  have hM15 := hM14.on hB15
  clear hB15 hM14 hap
  go_wp2_with fail
  go_ret
  exact ⟨rfl, ((hM6.below).trans (hM15.below.mono (hM6.below).size))⟩
end Go.Proofs.YtecibidncelebaaDoor
