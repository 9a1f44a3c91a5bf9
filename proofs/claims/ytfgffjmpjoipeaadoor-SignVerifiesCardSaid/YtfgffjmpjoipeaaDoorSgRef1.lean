/-
  The reference of layer 5: Sign.
-/
import Derived.Test.YtfgffjmpjoipeaaDoorSgRef0
namespace Go.Proofs.YtfgffjmpjoipeaaDoor
open Go Go.RowKit

open Cv
theorem sg_same2 {m a z k r s0 zm u v i : Nat} (Hm : m = NN) (hr : sgR k = r) (hs : sgS0 a z k = s0) (hz : z % m = zm) (hu : r * a % m = u) (hv : (zm + u) % m = v) (hi : k ^ (m - 2) % m = i) : v * i % m = s0 := by
  subst Hm; rw [← hv, ← hu, ← hz, ← Nat.add_mod, ← hs, ← hr, ← hi]; rfl
theorem tr_nil {l : List Nat} {n : Nat} (h : Tr l) (hn : dval l = n) (h0 : n = 0) : l = [] := tr_zero h (hn.trans h0)
section
variable {ops : Array Oper} {Q : Exit → Act → World → Prop} {rest : List Oper} {o : Oper} {a : Act} {w : World}
/-- how many digits: none, if the number is 0 -/
theorem kLenT (x : Operand) (n : Nat) (b : Bool) (v : Value) (ho : o.op = .call { callee := .builtin .len, args := #[x], argTypes := #[27] }) (hg : Region.wanted o (yielded ops a.tmps) = true) (hx : a.eval x = v) (hv : NumT w v n) (hb : decide (n = 0) = b)
    (h : ∀ L : Int, Hid (decide (L = 0) = b) → wpList Tryd.prog ops Q rest (a.put o.dst (.int .i64 L)) w) : wpList Tryd.prog ops Q (o :: rest) a w := by
  obtain ⟨l, _, h2, h3, h4⟩ := hv
  refine kLenN _ _ _ _ _ l.length ho hg hx h2 (by simp) Tryd.underlying27 (h _ (Lib.hid ?_))
  subst hb
  refine decide_eq_decide.2 ⟨fun e => ?_, fun e => ?_⟩
  · have e2 : l = [] := List.length_eq_zero_iff.1 (by omega)
    rw [e2] at h3; exact h3.symm
  · rw [tr_nil h4 h3 e]; rfl
end
set_option maxRecDepth 100000 in
set_option maxHeartbeats 8000000 in
theorem gSign_no0 {a k : Nat} (ma : a < M256) (ha : isSec a = false) {f : Nat → Nat} (w : World) : Calls Tryd.prog 17 #[WV a, .agg (bcells f), WV k] w fun e w' => e = .returned (.tuple #[.agg (wcells2 0 0), .int .i64 51]) ∧ Below w.heap.size w w' := by
  obtain ⟨m, Hm⟩ : ∃ m, Hid (m = NN) := ⟨_, Lib.hid rfl⟩
  have hP : PrimeIs false m := by rw [Hm.out]; exact rPrime_false
  replace ha := Lib.hid ha
  have hM0 := mm_nil w
  (try unfold WV)
  go_enter Tryd.func17, Tryd.ntmps17
  go_wp2_with (first
    | ((with_reducible change wpList _ _ _ (Oper.mk (some 3) _ _ _ _ _ :: _) _ _); refine mmBox hM0 _ _ (wcells a) rfl rfl rfl ?_; intro w1 hM1; clear hM0; go_frame)
    | ((with_reducible change wpList _ _ _ (Oper.mk (some 4) _ _ _ _ _ :: _) _ _); refine mmBox hM1 _ _ (bcells f) rfl rfl rfl ?_; intro w2 hM2; clear hM1; go_frame)
    | ((with_reducible change wpList _ _ _ (Oper.mk (some 5) _ _ _ _ _ :: _) _ _); refine mmBox hM2 _ _ (wcells k) rfl rfl rfl ?_; intro w3 hM3; clear hM2; go_frame)
    | ((with_reducible change wpList _ _ _ (Oper.mk (some 6) _ _ _ _ _ :: _) _ _); refine mmAlloc hM3 _ _ rfl rfl zero_Sig ?_; intro w4 hM4; clear hM3; go_frame)
    | ((with_reducible change wpList _ _ _ (Oper.mk (some 11) _ _ _ _ _ :: _) _ _); refine kLoadRow _ _ _ _ _ _ rfl rfl rfl (hM4.get 3 rfl) Tryd.underlying24 rfl (info_WideC _) ?_; go_frame)
    | (go_at_call 18; (with_reducible change Calls _ _ #[Value.agg (wcells a)] _ _); refine (gSecret_as Hm.out hP ma ha.out _).mono ?_; rintro e w5 ⟨rfl, hB5⟩; have hM5 := hM4.on hB5; clear hB5 hM4; (try unfold WV); go_frame)
    | ((with_reducible change wpList _ _ _ (Oper.mk (some 19) _ _ _ _ _ :: _) _ _); refine kBuildSig0 rfl rfl ?_; go_frame)
    | ((with_reducible change wpList _ _ _ (Oper.mk none (Op.store _ (Operand.tmp 6) (Operand.tmp 19)) _ _ _ _ :: _) _ _); refine mmStoreAt hM5 0 _ _ _ _ _ _ (wcells2 0 0) rfl rfl rfl rfl rfl (info_SigC _ _) rfl (wcells2_one _ _) ?_; intro w6 hM6; dsimp only [List.set] at hM6; clear hM5; go_frame))
  exact result_row_tmp Tryd.results17 rfl rfl (hM6.get 0 rfl) Tryd.underlying35 rfl (info_SigC _ _) rfl ⟨rfl, hM6.below⟩
set_option maxRecDepth 100000 in
set_option maxHeartbeats 8000000 in
theorem gSign_no1 {a k : Nat} (ma : a < M256) (mk : k < M256) (ha : isSec a = true) (hk : isSec k = false) {f : Nat → Nat} (w : World) : Calls Tryd.prog 17 #[WV a, .agg (bcells f), WV k] w fun e w' => e = .returned (.tuple #[.agg (wcells2 0 0), .int .i64 51]) ∧ Below w.heap.size w w' := by
  obtain ⟨m, Hm⟩ : ∃ m, Hid (m = NN) := ⟨_, Lib.hid rfl⟩
  have hP : PrimeIs false m := by rw [Hm.out]; exact rPrime_false
  replace ha := Lib.hid ha
  replace hk := Lib.hid hk
  have hM0 := mm_nil w
  (try unfold WV)
  go_enter Tryd.func17, Tryd.ntmps17
  go_wp2_with (first
    | ((with_reducible change wpList _ _ _ (Oper.mk (some 3) _ _ _ _ _ :: _) _ _); refine mmBox hM0 _ _ (wcells a) rfl rfl rfl ?_; intro w1 hM1; clear hM0; go_frame)
    | ((with_reducible change wpList _ _ _ (Oper.mk (some 4) _ _ _ _ _ :: _) _ _); refine mmBox hM1 _ _ (bcells f) rfl rfl rfl ?_; intro w2 hM2; clear hM1; go_frame)
    | ((with_reducible change wpList _ _ _ (Oper.mk (some 5) _ _ _ _ _ :: _) _ _); refine mmBox hM2 _ _ (wcells k) rfl rfl rfl ?_; intro w3 hM3; clear hM2; go_frame)
    | ((with_reducible change wpList _ _ _ (Oper.mk (some 6) _ _ _ _ _ :: _) _ _); refine mmAlloc hM3 _ _ rfl rfl zero_Sig ?_; intro w4 hM4; clear hM3; go_frame)
    | ((with_reducible change wpList _ _ _ (Oper.mk (some 11) _ _ _ _ _ :: _) _ _); refine kLoadRow _ _ _ _ _ _ rfl rfl rfl (hM4.get 3 rfl) Tryd.underlying24 rfl (info_WideC _) ?_; go_frame)
    | (go_at_call 18; (with_reducible change Calls _ _ #[Value.agg (wcells a)] _ _); refine (gSecret_as Hm.out hP ma ha.out _).mono ?_; rintro e w5 ⟨rfl, hB5⟩; have hM5 := hM4.on hB5; clear hB5 hM4; (try unfold WV); go_frame)
    | ((with_reducible change wpList _ _ _ (Oper.mk (some 15) _ _ _ _ _ :: _) _ _); refine kLoadRow _ _ _ _ _ _ rfl rfl rfl (hM5.get 1 rfl) Tryd.underlying24 rfl (info_WideC _) ?_; go_frame)
    | (go_at_call 18; (with_reducible change Calls _ _ #[Value.agg (wcells k)] _ _); refine (gSecret_as Hm.out hP mk hk.out _).mono ?_; rintro e w6 ⟨rfl, hB6⟩; have hM6 := hM5.on hB6; clear hB6 hM5; (try unfold WV); go_frame)
    | ((with_reducible change wpList _ _ _ (Oper.mk (some 19) _ _ _ _ _ :: _) _ _); refine kBuildSig0 rfl rfl ?_; go_frame)
    | ((with_reducible change wpList _ _ _ (Oper.mk none (Op.store _ (Operand.tmp 6) (Operand.tmp 19)) _ _ _ _ :: _) _ _); refine mmStoreAt hM6 0 _ _ _ _ _ _ (wcells2 0 0) rfl rfl rfl rfl rfl (info_SigC _ _) rfl (wcells2_one _ _) ?_; intro w7 hM7; dsimp only [List.set] at hM7; clear hM6; go_frame))
  exact result_row_tmp Tryd.results17 rfl rfl (hM7.get 0 rfl) Tryd.underlying35 rfl (info_SigC _ _) rfl ⟨rfl, hM7.below⟩
set_option maxRecDepth 100000 in
set_option maxHeartbeats 8000000 in
theorem gSign_t_r {a k r s0 s : Nat} {f : Nat → Nat} {z : Nat} (hf : ∀ i, f i < 256) (hz : zOf f = z) (ha : isSec a = true) (hk : isSec k = true) (hr : sgR k = r) (hs0 : sgS0 a z k = s0) (hb : isHi s0 = true) (hs : NN - s0 = s) (h0 : r = 0) (w : World) : Calls Tryd.prog 17 #[WV a, .agg (bcells f), WV k] w fun e w' => e = .returned (.tuple #[.agg (wcells2 0 0), .int .i64 51]) ∧ Below w.heap.size w w' := by
  have ma := isSec_lt ha
  have mk := isSec_lt hk
  have mr : r < M256 := by rw [← hr]; exact Nat.lt_trans (sgR_lt k) (by decide)
  have ls0 : s0 < NN := by rw [← hs0]; exact sgS0_lt a z k
  have ms0 : s0 < M256 := Nat.lt_trans ls0 (by decide)
  obtain ⟨m, Hm⟩ : ∃ m, Hid (m = NN) := ⟨_, Lib.hid rfl⟩
  have hm : Modu m := by rw [Hm.out]; exact modu_N
  have hP : PrimeIs false m := by rw [Hm.out]; exact rPrime_false
  have Hz := Lib.hid hz
  obtain ⟨zm, Hzm⟩ : ∃ n, Hid (z % m = n) := ⟨_, Lib.hid rfl⟩
  have mzm : zm < M256 := by rw [← Hzm.out]; exact hm.mod _
  clear hz
  have hS := Lib.hid (show (0 + m - s0) % m = s by have := isHi_iff.1 hb; rw [← hs, Hm.out, Nat.zero_add]; exact Nat.mod_eq_of_lt (by have := NN_pos; omega))
  have ms : s < M256 := by rw [← hS.out]; exact hm.mod _
  have lsm := Lib.hid (show s0 < m by rw [Hm.out]; exact ls0)
  obtain ⟨q, Hq⟩ : ∃ q, Hid (Pt.times ivP gPt k = q) := ⟨_, Lib.hid rfl⟩
  obtain ⟨xq, Hxq⟩ : ∃ x, Hid (pX q = x) := ⟨_, Lib.hid rfl⟩
  have mxq : xq < M256 := by rw [← Hxq.out]; exact pX_lt q
  have Hr := Lib.hid (show xq % m = r by rw [← Hxq.out, ← Hq.out, Hm.out]; exact hr)
  have Hr2 := Lib.hid hr
  have Hs0 := Lib.hid hs0
  have F0 := Lib.hid (show decide (r = 0) = true from decide_eq_true h0)
  replace ha := Lib.hid ha
  replace hk := Lib.hid hk
  replace hb := Lib.hid hb
  clear hs hr hs0 h0
  obtain ⟨v30, Hv30, mv30⟩ := nameMod hm (r * a)
  obtain ⟨v31, Hv31, mv31⟩ := nameMod hm (zm + v30)
  obtain ⟨v35, Hv35, mv35⟩ := nameMod hm (k ^ (m - 2))
  have hM0 := mm_nil w
  (try unfold WV)
  go_enter Tryd.func17, Tryd.ntmps17
  go_wp2_with (first
    | ((with_reducible change wpList _ _ _ (Oper.mk (some 3) _ _ _ _ _ :: _) _ _); refine mmBox hM0 _ _ (wcells a) rfl rfl rfl ?_; intro w1 hM1; clear hM0; go_frame)
    | ((with_reducible change wpList _ _ _ (Oper.mk (some 4) _ _ _ _ _ :: _) _ _); refine mmBox hM1 _ _ (bcells f) rfl rfl rfl ?_; intro w2 hM2; clear hM1; go_frame)
    | ((with_reducible change wpList _ _ _ (Oper.mk (some 5) _ _ _ _ _ :: _) _ _); refine mmBox hM2 _ _ (wcells k) rfl rfl rfl ?_; intro w3 hM3; clear hM2; go_frame)
    | ((with_reducible change wpList _ _ _ (Oper.mk (some 6) _ _ _ _ _ :: _) _ _); refine mmAlloc hM3 _ _ rfl rfl zero_Sig ?_; intro w4 hM4; clear hM3; go_frame)
    | ((with_reducible change wpList _ _ _ (Oper.mk (some 11) _ _ _ _ _ :: _) _ _); refine kLoadRow _ _ _ _ _ _ rfl rfl rfl (hM4.get 3 rfl) Tryd.underlying24 rfl (info_WideC _) ?_; go_frame)
    | (go_at_call 18; (with_reducible change Calls _ _ #[Value.agg (wcells a)] _ _); refine (gSecret_as Hm.out hP ma ha.out _).mono ?_; rintro e w5 ⟨rfl, hB5⟩; have hM5 := hM4.on hB5; clear hB5 hM4; (try unfold WV); go_frame)
    | ((with_reducible change wpList _ _ _ (Oper.mk (some 15) _ _ _ _ _ :: _) _ _); refine kLoadRow _ _ _ _ _ _ rfl rfl rfl (hM5.get 1 rfl) Tryd.underlying24 rfl (info_WideC _) ?_; go_frame)
    | (go_at_call 18; (with_reducible change Calls _ _ #[Value.agg (wcells k)] _ _); refine (gSecret_as Hm.out hP mk hk.out _).mono ?_; rintro e w6 ⟨rfl, hB6⟩; have hM6 := hM5.on hB6; clear hB6 hM5; (try unfold WV); go_frame))
  refine region_symT 6 _ [] [] [.val (.agg (wcells k)), .val (.agg (ptc gPt)), .val (.agg (ptc q)), .val (.agg (wcells xq)), .prop (fun w v => NumT w v (r)) (fun _ _ _ hb h => h.below hb), .prop (fun w v => NumT w v (r)) (fun _ _ _ hb h => h.below hb)] rfl (by kernel_rfl) (by kernel_rfl) (by kernel_rfl) (by kernel_rfl) rfl (by intro s hs; cases hs) (steps_all ⟨?_, ?_, ?_, ?_, ?_, ?_, trivial⟩) ?_
  · exact fun A W sz ot hbel ap dp => kLoadRow _ _ _ _ _ _ rfl rfl (sO ot 5) ((hM6.get 1 rfl).on hbel) Tryd.underlying24 rfl (info_WideC _) (sE ap sz rfl)
  · intro A W sz ot hbel ap dp
    refine kCall0 16 _ rfl rfl (by kernel_rfl)  ?_
    refine (eBase_any W).mono ?_
    rintro e r ⟨rfl, hBc⟩
    exact ⟨_, rfl, (sV ap sz hBc rfl)⟩
  · exact fun A W sz ot hbel ap dp => sCall2 19 rfl (sD dp 0 .data) (sD dp 1 .data) (sC (eTimes_q mk gPt_on Hq.out W) ap sz (fun _ => rfl))
  · exact fun A W sz ot hbel ap dp => kFieldX _ q xq (Hxq.out) rfl rfl (sD dp 2 .data) (sE ap sz rfl)
  · intro A W sz ot hbel ap dp
    refine kCall2 37 _ _ _ _ _ rfl rfl (by kernel_rfl) (sD dp 3 .data) rfl ?_
    refine (rOf_as hm hP mxq Hr.out W).mono ?_
    rintro e r ⟨xx, rfl, hNx, hBc⟩
    exact ⟨_, rfl, (sV ap sz hBc hNx)⟩
  · intro A W sz ot hbel ap dp
    have hN := (sD dp 4 .data)
    exact kAssignV _ (A.tmps.getD 24 undef) rfl rfl rfl (sE ap sz hN)
  intro w7 hB7
  dsimp only [AllV]
  intro x7_24 hN7_24
  intro x7_8 hN7_8
  intro hap
  dsimp only [putAll, List.take, List.drop]
  go_frame
  have hM7 := hM6.on hB7
  clear hB7 hM6 hap
  have hM8 := mm_nil w7
  go_wp2_with fail
  refine region_symT 8 _ [] [] [.val (.agg (bcells f)), .prop (fun w v => NumT w v (zm)) (fun _ _ _ hb h => h.below hb), .val (x7_8), .val (.agg (wcells a)), .prop (fun w v => Num w v (a) 16) (fun _ _ _ hb h => h.below hb), .prop (fun w v => NumT w v (v30)) (fun _ _ _ hb h => h.below hb), .prop (fun w v => NumT w v (v31)) (fun _ _ _ hb h => h.below hb), .prop (fun w v => NumT w v (v31)) (fun _ _ _ hb h => h.below hb)] rfl (by kernel_rfl) (by kernel_rfl) (by kernel_rfl) (by kernel_rfl) rfl (by intro s hs; cases hs) (steps_all ⟨?_, ?_, ?_, ?_, ?_, ?_, ?_, ?_, trivial⟩) ?_
  · exact fun A W sz ot hbel ap dp => kLoadRow _ _ _ _ _ _ rfl rfl (sO ot 4) (((hM7.get 2 rfl).on hM8.below).on hbel) Tryd.underlying40 rfl (info_HashC _) (sE ap sz rfl)
  · intro A W sz ot hbel ap dp
    refine kCall1 39 _ _ _ rfl rfl (by kernel_rfl) (sD dp 0 .data) ?_
    refine (gNumber_as hm hP hf Hz.out Hzm.out W).mono ?_
    rintro e r ⟨xx, rfl, hNx, hBc⟩
    exact ⟨_, rfl, (sV ap sz hBc hNx)⟩
  · exact fun A W sz ot hbel ap dp => kMoveV _ _ rfl rfl (sO ot 8) (sE ap sz rfl)
  · exact fun A W sz ot hbel ap dp => kLoadRow _ _ _ _ _ _ rfl rfl (sO ot 3) (((hM7.get 3 rfl).on hM8.below).on hbel) Tryd.underlying24 rfl (info_WideC _) (sE ap sz rfl)
  · intro A W sz ot hbel ap dp
    refine kCall1 41 _ _ _ rfl rfl (by kernel_rfl) (sD dp 3 .data) ?_
    refine (dOf_num a ma W).mono ?_
    rintro e r ⟨xx, rfl, hNx, hBc⟩
    exact ⟨_, rfl, (sV ap sz hBc hNx)⟩
  · intro A W sz ot hbel ap dp
    have hN29 := (show Num W (A.tmps.getD 29 undef) (a) 16 from (sD dp 4 .data))
    refine kCall3 40 _ _ _ _ _ _ _ rfl rfl (by kernel_rfl) (sD dp 2 .data) (rfl : A.eval (Operand.tmp 29) = A.tmps.getD 29 undef) rfl ?_
    refine (rMul_as hm hP (((hN7_8.below hM8.below).below hbel).n16 mr) hN29 Hv30.out).mono ?_
    rintro e r ⟨xx, rfl, hNx, hBc⟩
    exact ⟨_, rfl, (sV ap sz hBc hNx)⟩
  · intro A W sz ot hbel ap dp
    have hN26 := (show NumT W (A.tmps.getD 26 undef) (zm) from (sD dp 1 .data))
    have hN30 := (show NumT W (A.tmps.getD 30 undef) (v30) from (sD dp 5 .data))
    refine kCall3 38 _ _ _ _ _ _ _ rfl rfl (by kernel_rfl) (rfl : A.eval (Operand.tmp 26) = A.tmps.getD 26 undef) (rfl : A.eval (Operand.tmp 30) = A.tmps.getD 30 undef) rfl ?_
    refine (rAdd_as hm hP (hN26.n16 mzm) (hN30.n16 mv30) Hv31.out).mono ?_
    rintro e r ⟨xx, rfl, hNx, hBc⟩
    exact ⟨_, rfl, (sV ap sz hBc hNx)⟩
  · intro A W sz ot hbel ap dp
    have hN := (sD dp 6 .data)
    exact kAssignV _ (A.tmps.getD 31 undef) rfl rfl rfl (sE ap sz hN)
  intro w9 hB9
  dsimp only [AllV]
  intro x9_26 hN9_26
  intro x9_29 hN9_29
  intro x9_30 hN9_30
  intro x9_31 hN9_31
  intro x9_9 hN9_9
  intro hap
  dsimp only [putAll, List.take, List.drop]
  go_frame
  have hM9 := hM8.on hB9
  clear hB9 hM8 hap
  have hM10 := mm_nil w9
  go_wp2_with (first
    | ((with_reducible change wpList _ _ _ (Oper.mk (some 33) _ _ _ _ _ :: _) _ _); refine kLoadRow _ _ _ _ _ _ rfl rfl rfl (((hM7.get 1 rfl).on hM9.below).on hM10.below) Tryd.underlying24 rfl (info_WideC _) ?_; go_frame)
    | (go_at_call 41; (with_reducible change Calls _ _ #[Value.agg (wcells k)] _ _); refine (dOf_num k mk _).mono ?_; rintro e w11 ⟨x11, rfl, hN11, hB11⟩; have hM11 := hM10.on hB11; clear hB11 hM10; have hM12 := mm_nil w11; go_frame)
    | (go_at_call 42; (with_reducible change Calls _ _ #[x11, Value.bool false] _ _); refine (rInv_as hm hP (hN11.below hM12.below) Hv35.out).mono ?_; rintro e w13 ⟨x13, rfl, hN13, hB13⟩; have hM13 := hM12.on hB13; clear hB13 hM12; have hM14 := mm_nil w13; go_frame)
    | (go_at_call 40; (with_reducible change Calls _ _ #[x9_9, x13, Value.bool false] _ _); refine (rMul_as hm hP ((((hN9_9.below hM11.below).below hM13.below).below hM14.below).n16 mv31) ((hN13.below hM14.below).n16 mv35) (sg_same2 Hm.out Hr2.out Hs0.out Hzm.out Hv30.out Hv31.out Hv35.out)).mono ?_; rintro e w15 ⟨x15, rfl, hN15, hB15⟩; have hM15 := hM14.on hB15; clear hB15 hM14; have hM16 := mm_nil w15; go_frame)
    | (go_at_call 43; (with_reducible change Calls _ _ #[x15] _ _); refine (gHigh_as Hm.out hP ((hN15.below hM16.below).n16 ms0) hb.out).mono ?_; rintro e w17 ⟨rfl, hB17⟩; have hM17 := hM16.on hB17; clear hB17 hM16; (try unfold WV); go_frame)
    | ((with_reducible change wpList _ _ _ (Oper.mk (some 39) _ _ _ _ _ :: _) _ _); refine kDig0 rfl rfl ?_; intro w18 x18 hN18 hB18; have hM18 := hM17.on hB18; clear hB18 hM17; have hM19 := mm_nil w18; go_frame)
    | (go_at_call 44; (with_reducible change Calls _ _ #[x18, x15, Value.bool false] _ _); refine (rSub_as hm hP ((hN18.below hM19.below).n16 M256_pos) (((hN15.below hM18.below).below hM19.below).n16 ms0) lsm.out hS.out).mono ?_; rintro e w20 ⟨x20, rfl, hN20, hB20⟩; have hM20 := hM19.on hB20; clear hB20 hM19; have hM21 := mm_nil w20; go_frame)
    | ((with_reducible change wpList _ _ _ (Oper.mk (some 43) _ _ _ _ _ :: _) _ _); refine kLenT _ r true _ rfl rfl rfl (((((((hN7_8.below hM9.below).below hM11.below).below hM13.below).below hM15.below).below hM18.below).below hM20.below).below hM21.below) (F0.out) ?_; intro L43 hL43; go_frame)
    | ((with_reducible change wpList _ _ _ (Oper.mk (some 44) _ _ _ _ _ :: _) _ _); refine kEqlI _ _ _ _ .i64 (L43) (0) true rfl rfl rfl rfl (hL43.out) ?_; go_frame)
    | ((with_reducible change wpList _ _ _ (Oper.mk (some 50) _ _ _ _ _ :: _) _ _); refine kBuildSig0 rfl rfl ?_; go_frame)
    | ((with_reducible change wpList _ _ _ (Oper.mk none (Op.store _ (Operand.tmp 6) (Operand.tmp 50)) _ _ _ _ :: _) _ _); have hJ := (Mm.join (Mm.join (Mm.join (Mm.join (Mm.join (Mm.join (Mm.join hM7 hM9) hM11) hM13) hM15) hM18) hM20) hM21); dsimp only [List.append, List.cons_append, List.nil_append] at hJ; refine mmStoreAt hJ 0 _ _ _ _ _ _ (wcells2 0 0) rfl rfl rfl rfl rfl (info_SigC _ _) rfl (wcells2_one _ _) ?_; intro w22 hM22; dsimp only [List.set] at hM22; clear hJ; go_frame))
  exact result_row_tmp Tryd.results17 rfl rfl (hM22.get 0 rfl) Tryd.underlying35 rfl (info_SigC _ _) rfl ⟨rfl, hM22.below⟩
set_option maxRecDepth 100000 in
set_option maxHeartbeats 8000000 in
theorem gSign_t_s {a k r s0 s : Nat} {f : Nat → Nat} {z : Nat} (hf : ∀ i, f i < 256) (hz : zOf f = z) (ha : isSec a = true) (hk : isSec k = true) (hr : sgR k = r) (hs0 : sgS0 a z k = s0) (hb : isHi s0 = true) (hs : NN - s0 = s) (h0 : r ≠ 0) (h1 : s = 0) (w : World) : Calls Tryd.prog 17 #[WV a, .agg (bcells f), WV k] w fun e w' => e = .returned (.tuple #[.agg (wcells2 0 0), .int .i64 51]) ∧ Below w.heap.size w w' := by
  have ma := isSec_lt ha
  have mk := isSec_lt hk
  have mr : r < M256 := by rw [← hr]; exact Nat.lt_trans (sgR_lt k) (by decide)
  have ls0 : s0 < NN := by rw [← hs0]; exact sgS0_lt a z k
  have ms0 : s0 < M256 := Nat.lt_trans ls0 (by decide)
  obtain ⟨m, Hm⟩ : ∃ m, Hid (m = NN) := ⟨_, Lib.hid rfl⟩
  have hm : Modu m := by rw [Hm.out]; exact modu_N
  have hP : PrimeIs false m := by rw [Hm.out]; exact rPrime_false
  have Hz := Lib.hid hz
  obtain ⟨zm, Hzm⟩ : ∃ n, Hid (z % m = n) := ⟨_, Lib.hid rfl⟩
  have mzm : zm < M256 := by rw [← Hzm.out]; exact hm.mod _
  clear hz
  have hS := Lib.hid (show (0 + m - s0) % m = s by have := isHi_iff.1 hb; rw [← hs, Hm.out, Nat.zero_add]; exact Nat.mod_eq_of_lt (by have := NN_pos; omega))
  have ms : s < M256 := by rw [← hS.out]; exact hm.mod _
  have lsm := Lib.hid (show s0 < m by rw [Hm.out]; exact ls0)
  obtain ⟨q, Hq⟩ : ∃ q, Hid (Pt.times ivP gPt k = q) := ⟨_, Lib.hid rfl⟩
  obtain ⟨xq, Hxq⟩ : ∃ x, Hid (pX q = x) := ⟨_, Lib.hid rfl⟩
  have mxq : xq < M256 := by rw [← Hxq.out]; exact pX_lt q
  have Hr := Lib.hid (show xq % m = r by rw [← Hxq.out, ← Hq.out, Hm.out]; exact hr)
  have Hr2 := Lib.hid hr
  have Hs0 := Lib.hid hs0
  have F0 := Lib.hid (show decide (r = 0) = false from decide_eq_false h0)
  have F1 := Lib.hid (show decide (s = 0) = true from decide_eq_true h1)
  replace ha := Lib.hid ha
  replace hk := Lib.hid hk
  replace hb := Lib.hid hb
  clear hs hr hs0 h0 h1
  obtain ⟨v30, Hv30, mv30⟩ := nameMod hm (r * a)
  obtain ⟨v31, Hv31, mv31⟩ := nameMod hm (zm + v30)
  obtain ⟨v35, Hv35, mv35⟩ := nameMod hm (k ^ (m - 2))
  have hM0 := mm_nil w
  (try unfold WV)
  go_enter Tryd.func17, Tryd.ntmps17
  go_wp2_with (first
    | ((with_reducible change wpList _ _ _ (Oper.mk (some 3) _ _ _ _ _ :: _) _ _); refine mmBox hM0 _ _ (wcells a) rfl rfl rfl ?_; intro w1 hM1; clear hM0; go_frame)
    | ((with_reducible change wpList _ _ _ (Oper.mk (some 4) _ _ _ _ _ :: _) _ _); refine mmBox hM1 _ _ (bcells f) rfl rfl rfl ?_; intro w2 hM2; clear hM1; go_frame)
    | ((with_reducible change wpList _ _ _ (Oper.mk (some 5) _ _ _ _ _ :: _) _ _); refine mmBox hM2 _ _ (wcells k) rfl rfl rfl ?_; intro w3 hM3; clear hM2; go_frame)
    | ((with_reducible change wpList _ _ _ (Oper.mk (some 6) _ _ _ _ _ :: _) _ _); refine mmAlloc hM3 _ _ rfl rfl zero_Sig ?_; intro w4 hM4; clear hM3; go_frame)
    | ((with_reducible change wpList _ _ _ (Oper.mk (some 11) _ _ _ _ _ :: _) _ _); refine kLoadRow _ _ _ _ _ _ rfl rfl rfl (hM4.get 3 rfl) Tryd.underlying24 rfl (info_WideC _) ?_; go_frame)
    | (go_at_call 18; (with_reducible change Calls _ _ #[Value.agg (wcells a)] _ _); refine (gSecret_as Hm.out hP ma ha.out _).mono ?_; rintro e w5 ⟨rfl, hB5⟩; have hM5 := hM4.on hB5; clear hB5 hM4; (try unfold WV); go_frame)
    | ((with_reducible change wpList _ _ _ (Oper.mk (some 15) _ _ _ _ _ :: _) _ _); refine kLoadRow _ _ _ _ _ _ rfl rfl rfl (hM5.get 1 rfl) Tryd.underlying24 rfl (info_WideC _) ?_; go_frame)
    | (go_at_call 18; (with_reducible change Calls _ _ #[Value.agg (wcells k)] _ _); refine (gSecret_as Hm.out hP mk hk.out _).mono ?_; rintro e w6 ⟨rfl, hB6⟩; have hM6 := hM5.on hB6; clear hB6 hM5; (try unfold WV); go_frame))
  refine region_symT 6 _ [] [] [.val (.agg (wcells k)), .val (.agg (ptc gPt)), .val (.agg (ptc q)), .val (.agg (wcells xq)), .prop (fun w v => NumT w v (r)) (fun _ _ _ hb h => h.below hb), .prop (fun w v => NumT w v (r)) (fun _ _ _ hb h => h.below hb)] rfl (by kernel_rfl) (by kernel_rfl) (by kernel_rfl) (by kernel_rfl) rfl (by intro s hs; cases hs) (steps_all ⟨?_, ?_, ?_, ?_, ?_, ?_, trivial⟩) ?_
  · exact fun A W sz ot hbel ap dp => kLoadRow _ _ _ _ _ _ rfl rfl (sO ot 5) ((hM6.get 1 rfl).on hbel) Tryd.underlying24 rfl (info_WideC _) (sE ap sz rfl)
  · intro A W sz ot hbel ap dp
    refine kCall0 16 _ rfl rfl (by kernel_rfl)  ?_
    refine (eBase_any W).mono ?_
    rintro e r ⟨rfl, hBc⟩
    exact ⟨_, rfl, (sV ap sz hBc rfl)⟩
  · exact fun A W sz ot hbel ap dp => sCall2 19 rfl (sD dp 0 .data) (sD dp 1 .data) (sC (eTimes_q mk gPt_on Hq.out W) ap sz (fun _ => rfl))
  · exact fun A W sz ot hbel ap dp => kFieldX _ q xq (Hxq.out) rfl rfl (sD dp 2 .data) (sE ap sz rfl)
  · intro A W sz ot hbel ap dp
    refine kCall2 37 _ _ _ _ _ rfl rfl (by kernel_rfl) (sD dp 3 .data) rfl ?_
    refine (rOf_as hm hP mxq Hr.out W).mono ?_
    rintro e r ⟨xx, rfl, hNx, hBc⟩
    exact ⟨_, rfl, (sV ap sz hBc hNx)⟩
  · intro A W sz ot hbel ap dp
    have hN := (sD dp 4 .data)
    exact kAssignV _ (A.tmps.getD 24 undef) rfl rfl rfl (sE ap sz hN)
  intro w7 hB7
  dsimp only [AllV]
  intro x7_24 hN7_24
  intro x7_8 hN7_8
  intro hap
  dsimp only [putAll, List.take, List.drop]
  go_frame
  have hM7 := hM6.on hB7
  clear hB7 hM6 hap
  have hM8 := mm_nil w7
  go_wp2_with fail
  refine region_symT 8 _ [] [] [.val (.agg (bcells f)), .prop (fun w v => NumT w v (zm)) (fun _ _ _ hb h => h.below hb), .val (x7_8), .val (.agg (wcells a)), .prop (fun w v => Num w v (a) 16) (fun _ _ _ hb h => h.below hb), .prop (fun w v => NumT w v (v30)) (fun _ _ _ hb h => h.below hb), .prop (fun w v => NumT w v (v31)) (fun _ _ _ hb h => h.below hb), .prop (fun w v => NumT w v (v31)) (fun _ _ _ hb h => h.below hb)] rfl (by kernel_rfl) (by kernel_rfl) (by kernel_rfl) (by kernel_rfl) rfl (by intro s hs; cases hs) (steps_all ⟨?_, ?_, ?_, ?_, ?_, ?_, ?_, ?_, trivial⟩) ?_
  · exact fun A W sz ot hbel ap dp => kLoadRow _ _ _ _ _ _ rfl rfl (sO ot 4) (((hM7.get 2 rfl).on hM8.below).on hbel) Tryd.underlying40 rfl (info_HashC _) (sE ap sz rfl)
  · intro A W sz ot hbel ap dp
    refine kCall1 39 _ _ _ rfl rfl (by kernel_rfl) (sD dp 0 .data) ?_
    refine (gNumber_as hm hP hf Hz.out Hzm.out W).mono ?_
    rintro e r ⟨xx, rfl, hNx, hBc⟩
    exact ⟨_, rfl, (sV ap sz hBc hNx)⟩
  · exact fun A W sz ot hbel ap dp => kMoveV _ _ rfl rfl (sO ot 8) (sE ap sz rfl)
  · exact fun A W sz ot hbel ap dp => kLoadRow _ _ _ _ _ _ rfl rfl (sO ot 3) (((hM7.get 3 rfl).on hM8.below).on hbel) Tryd.underlying24 rfl (info_WideC _) (sE ap sz rfl)
  · intro A W sz ot hbel ap dp
    refine kCall1 41 _ _ _ rfl rfl (by kernel_rfl) (sD dp 3 .data) ?_
    refine (dOf_num a ma W).mono ?_
    rintro e r ⟨xx, rfl, hNx, hBc⟩
    exact ⟨_, rfl, (sV ap sz hBc hNx)⟩
  · intro A W sz ot hbel ap dp
    have hN29 := (show Num W (A.tmps.getD 29 undef) (a) 16 from (sD dp 4 .data))
    refine kCall3 40 _ _ _ _ _ _ _ rfl rfl (by kernel_rfl) (sD dp 2 .data) (rfl : A.eval (Operand.tmp 29) = A.tmps.getD 29 undef) rfl ?_
    refine (rMul_as hm hP (((hN7_8.below hM8.below).below hbel).n16 mr) hN29 Hv30.out).mono ?_
    rintro e r ⟨xx, rfl, hNx, hBc⟩
    exact ⟨_, rfl, (sV ap sz hBc hNx)⟩
  · intro A W sz ot hbel ap dp
    have hN26 := (show NumT W (A.tmps.getD 26 undef) (zm) from (sD dp 1 .data))
    have hN30 := (show NumT W (A.tmps.getD 30 undef) (v30) from (sD dp 5 .data))
    refine kCall3 38 _ _ _ _ _ _ _ rfl rfl (by kernel_rfl) (rfl : A.eval (Operand.tmp 26) = A.tmps.getD 26 undef) (rfl : A.eval (Operand.tmp 30) = A.tmps.getD 30 undef) rfl ?_
    refine (rAdd_as hm hP (hN26.n16 mzm) (hN30.n16 mv30) Hv31.out).mono ?_
    rintro e r ⟨xx, rfl, hNx, hBc⟩
    exact ⟨_, rfl, (sV ap sz hBc hNx)⟩
  · intro A W sz ot hbel ap dp
    have hN := (sD dp 6 .data)
    exact kAssignV _ (A.tmps.getD 31 undef) rfl rfl rfl (sE ap sz hN)
  intro w9 hB9
  dsimp only [AllV]
  intro x9_26 hN9_26
  intro x9_29 hN9_29
  intro x9_30 hN9_30
  intro x9_31 hN9_31
  intro x9_9 hN9_9
  intro hap
  dsimp only [putAll, List.take, List.drop]
  go_frame
  have hM9 := hM8.on hB9
  clear hB9 hM8 hap
  have hM10 := mm_nil w9
  go_wp2_with (first
    | ((with_reducible change wpList _ _ _ (Oper.mk (some 33) _ _ _ _ _ :: _) _ _); refine kLoadRow _ _ _ _ _ _ rfl rfl rfl (((hM7.get 1 rfl).on hM9.below).on hM10.below) Tryd.underlying24 rfl (info_WideC _) ?_; go_frame)
    | (go_at_call 41; (with_reducible change Calls _ _ #[Value.agg (wcells k)] _ _); refine (dOf_num k mk _).mono ?_; rintro e w11 ⟨x11, rfl, hN11, hB11⟩; have hM11 := hM10.on hB11; clear hB11 hM10; have hM12 := mm_nil w11; go_frame)
    | (go_at_call 42; (with_reducible change Calls _ _ #[x11, Value.bool false] _ _); refine (rInv_as hm hP (hN11.below hM12.below) Hv35.out).mono ?_; rintro e w13 ⟨x13, rfl, hN13, hB13⟩; have hM13 := hM12.on hB13; clear hB13 hM12; have hM14 := mm_nil w13; go_frame)
    | (go_at_call 40; (with_reducible change Calls _ _ #[x9_9, x13, Value.bool false] _ _); refine (rMul_as hm hP ((((hN9_9.below hM11.below).below hM13.below).below hM14.below).n16 mv31) ((hN13.below hM14.below).n16 mv35) (sg_same2 Hm.out Hr2.out Hs0.out Hzm.out Hv30.out Hv31.out Hv35.out)).mono ?_; rintro e w15 ⟨x15, rfl, hN15, hB15⟩; have hM15 := hM14.on hB15; clear hB15 hM14; have hM16 := mm_nil w15; go_frame)
    | (go_at_call 43; (with_reducible change Calls _ _ #[x15] _ _); refine (gHigh_as Hm.out hP ((hN15.below hM16.below).n16 ms0) hb.out).mono ?_; rintro e w17 ⟨rfl, hB17⟩; have hM17 := hM16.on hB17; clear hB17 hM16; (try unfold WV); go_frame)
    | ((with_reducible change wpList _ _ _ (Oper.mk (some 39) _ _ _ _ _ :: _) _ _); refine kDig0 rfl rfl ?_; intro w18 x18 hN18 hB18; have hM18 := hM17.on hB18; clear hB18 hM17; have hM19 := mm_nil w18; go_frame)
    | (go_at_call 44; (with_reducible change Calls _ _ #[x18, x15, Value.bool false] _ _); refine (rSub_as hm hP ((hN18.below hM19.below).n16 M256_pos) (((hN15.below hM18.below).below hM19.below).n16 ms0) lsm.out hS.out).mono ?_; rintro e w20 ⟨x20, rfl, hN20, hB20⟩; have hM20 := hM19.on hB20; clear hB20 hM19; have hM21 := mm_nil w20; go_frame)
    | ((with_reducible change wpList _ _ _ (Oper.mk (some 43) _ _ _ _ _ :: _) _ _); refine kLenT _ r false _ rfl rfl rfl (((((((hN7_8.below hM9.below).below hM11.below).below hM13.below).below hM15.below).below hM18.below).below hM20.below).below hM21.below) (F0.out) ?_; intro L43 hL43; go_frame)
    | ((with_reducible change wpList _ _ _ (Oper.mk (some 44) _ _ _ _ _ :: _) _ _); refine kEqlI _ _ _ _ .i64 (L43) (0) false rfl rfl rfl rfl (hL43.out) ?_; go_frame)
    | ((with_reducible change wpList _ _ _ (Oper.mk (some 47) _ _ _ _ _ :: _) _ _); refine kLenT _ s true _ rfl rfl rfl (hN20.below hM21.below) (F1.out) ?_; intro L47 hL47; go_frame)
    | ((with_reducible change wpList _ _ _ (Oper.mk (some 48) _ _ _ _ _ :: _) _ _); refine kEqlI _ _ _ _ .i64 (L47) (0) true rfl rfl rfl rfl (hL47.out) ?_; go_frame)
    | ((with_reducible change wpList _ _ _ (Oper.mk (some 50) _ _ _ _ _ :: _) _ _); refine kBuildSig0 rfl rfl ?_; go_frame)
    | ((with_reducible change wpList _ _ _ (Oper.mk none (Op.store _ (Operand.tmp 6) (Operand.tmp 50)) _ _ _ _ :: _) _ _); have hJ := (Mm.join (Mm.join (Mm.join (Mm.join (Mm.join (Mm.join (Mm.join hM7 hM9) hM11) hM13) hM15) hM18) hM20) hM21); dsimp only [List.append, List.cons_append, List.nil_append] at hJ; refine mmStoreAt hJ 0 _ _ _ _ _ _ (wcells2 0 0) rfl rfl rfl rfl rfl (info_SigC _ _) rfl (wcells2_one _ _) ?_; intro w22 hM22; dsimp only [List.set] at hM22; clear hJ; go_frame))
  exact result_row_tmp Tryd.results17 rfl rfl (hM22.get 0 rfl) Tryd.underlying35 rfl (info_SigC _ _) rfl ⟨rfl, hM22.below⟩
set_option maxRecDepth 100000 in
set_option maxHeartbeats 8000000 in
theorem gSign_t_ok {a k r s0 s : Nat} {f : Nat → Nat} {z : Nat} (hf : ∀ i, f i < 256) (hz : zOf f = z) (ha : isSec a = true) (hk : isSec k = true) (hr : sgR k = r) (hs0 : sgS0 a z k = s0) (hb : isHi s0 = true) (hs : NN - s0 = s) (h0 : r ≠ 0) (h1 : s ≠ 0) (w : World) : Calls Tryd.prog 17 #[WV a, .agg (bcells f), WV k] w fun e w' => e = .returned (.tuple #[.agg (wcells2 r s), .int .i64 0]) ∧ Below w.heap.size w w' := by
  have ma := isSec_lt ha
  have mk := isSec_lt hk
  have mr : r < M256 := by rw [← hr]; exact Nat.lt_trans (sgR_lt k) (by decide)
  have ls0 : s0 < NN := by rw [← hs0]; exact sgS0_lt a z k
  have ms0 : s0 < M256 := Nat.lt_trans ls0 (by decide)
  obtain ⟨m, Hm⟩ : ∃ m, Hid (m = NN) := ⟨_, Lib.hid rfl⟩
  have hm : Modu m := by rw [Hm.out]; exact modu_N
  have hP : PrimeIs false m := by rw [Hm.out]; exact rPrime_false
  have Hz := Lib.hid hz
  obtain ⟨zm, Hzm⟩ : ∃ n, Hid (z % m = n) := ⟨_, Lib.hid rfl⟩
  have mzm : zm < M256 := by rw [← Hzm.out]; exact hm.mod _
  clear hz
  have hS := Lib.hid (show (0 + m - s0) % m = s by have := isHi_iff.1 hb; rw [← hs, Hm.out, Nat.zero_add]; exact Nat.mod_eq_of_lt (by have := NN_pos; omega))
  have ms : s < M256 := by rw [← hS.out]; exact hm.mod _
  have lsm := Lib.hid (show s0 < m by rw [Hm.out]; exact ls0)
  obtain ⟨q, Hq⟩ : ∃ q, Hid (Pt.times ivP gPt k = q) := ⟨_, Lib.hid rfl⟩
  obtain ⟨xq, Hxq⟩ : ∃ x, Hid (pX q = x) := ⟨_, Lib.hid rfl⟩
  have mxq : xq < M256 := by rw [← Hxq.out]; exact pX_lt q
  have Hr := Lib.hid (show xq % m = r by rw [← Hxq.out, ← Hq.out, Hm.out]; exact hr)
  have Hr2 := Lib.hid hr
  have Hs0 := Lib.hid hs0
  have F0 := Lib.hid (show decide (r = 0) = false from decide_eq_false h0)
  have F1 := Lib.hid (show decide (s = 0) = false from decide_eq_false h1)
  replace ha := Lib.hid ha
  replace hk := Lib.hid hk
  replace hb := Lib.hid hb
  clear hs hr hs0 h0 h1
  obtain ⟨v30, Hv30, mv30⟩ := nameMod hm (r * a)
  obtain ⟨v31, Hv31, mv31⟩ := nameMod hm (zm + v30)
  obtain ⟨v35, Hv35, mv35⟩ := nameMod hm (k ^ (m - 2))
  have hM0 := mm_nil w
  (try unfold WV)
  go_enter Tryd.func17, Tryd.ntmps17
  go_wp2_with (first
    | ((with_reducible change wpList _ _ _ (Oper.mk (some 3) _ _ _ _ _ :: _) _ _); refine mmBox hM0 _ _ (wcells a) rfl rfl rfl ?_; intro w1 hM1; clear hM0; go_frame)
    | ((with_reducible change wpList _ _ _ (Oper.mk (some 4) _ _ _ _ _ :: _) _ _); refine mmBox hM1 _ _ (bcells f) rfl rfl rfl ?_; intro w2 hM2; clear hM1; go_frame)
    | ((with_reducible change wpList _ _ _ (Oper.mk (some 5) _ _ _ _ _ :: _) _ _); refine mmBox hM2 _ _ (wcells k) rfl rfl rfl ?_; intro w3 hM3; clear hM2; go_frame)
    | ((with_reducible change wpList _ _ _ (Oper.mk (some 6) _ _ _ _ _ :: _) _ _); refine mmAlloc hM3 _ _ rfl rfl zero_Sig ?_; intro w4 hM4; clear hM3; go_frame)
    | ((with_reducible change wpList _ _ _ (Oper.mk (some 11) _ _ _ _ _ :: _) _ _); refine kLoadRow _ _ _ _ _ _ rfl rfl rfl (hM4.get 3 rfl) Tryd.underlying24 rfl (info_WideC _) ?_; go_frame)
    | (go_at_call 18; (with_reducible change Calls _ _ #[Value.agg (wcells a)] _ _); refine (gSecret_as Hm.out hP ma ha.out _).mono ?_; rintro e w5 ⟨rfl, hB5⟩; have hM5 := hM4.on hB5; clear hB5 hM4; (try unfold WV); go_frame)
    | ((with_reducible change wpList _ _ _ (Oper.mk (some 15) _ _ _ _ _ :: _) _ _); refine kLoadRow _ _ _ _ _ _ rfl rfl rfl (hM5.get 1 rfl) Tryd.underlying24 rfl (info_WideC _) ?_; go_frame)
    | (go_at_call 18; (with_reducible change Calls _ _ #[Value.agg (wcells k)] _ _); refine (gSecret_as Hm.out hP mk hk.out _).mono ?_; rintro e w6 ⟨rfl, hB6⟩; have hM6 := hM5.on hB6; clear hB6 hM5; (try unfold WV); go_frame))
  refine region_symT 6 _ [] [] [.val (.agg (wcells k)), .val (.agg (ptc gPt)), .val (.agg (ptc q)), .val (.agg (wcells xq)), .prop (fun w v => NumT w v (r)) (fun _ _ _ hb h => h.below hb), .prop (fun w v => NumT w v (r)) (fun _ _ _ hb h => h.below hb)] rfl (by kernel_rfl) (by kernel_rfl) (by kernel_rfl) (by kernel_rfl) rfl (by intro s hs; cases hs) (steps_all ⟨?_, ?_, ?_, ?_, ?_, ?_, trivial⟩) ?_
  · exact fun A W sz ot hbel ap dp => kLoadRow _ _ _ _ _ _ rfl rfl (sO ot 5) ((hM6.get 1 rfl).on hbel) Tryd.underlying24 rfl (info_WideC _) (sE ap sz rfl)
  · intro A W sz ot hbel ap dp
    refine kCall0 16 _ rfl rfl (by kernel_rfl)  ?_
    refine (eBase_any W).mono ?_
    rintro e r ⟨rfl, hBc⟩
    exact ⟨_, rfl, (sV ap sz hBc rfl)⟩
  · exact fun A W sz ot hbel ap dp => sCall2 19 rfl (sD dp 0 .data) (sD dp 1 .data) (sC (eTimes_q mk gPt_on Hq.out W) ap sz (fun _ => rfl))
  · exact fun A W sz ot hbel ap dp => kFieldX _ q xq (Hxq.out) rfl rfl (sD dp 2 .data) (sE ap sz rfl)
  · intro A W sz ot hbel ap dp
    refine kCall2 37 _ _ _ _ _ rfl rfl (by kernel_rfl) (sD dp 3 .data) rfl ?_
    refine (rOf_as hm hP mxq Hr.out W).mono ?_
    rintro e r ⟨xx, rfl, hNx, hBc⟩
    exact ⟨_, rfl, (sV ap sz hBc hNx)⟩
  · intro A W sz ot hbel ap dp
    have hN := (sD dp 4 .data)
    exact kAssignV _ (A.tmps.getD 24 undef) rfl rfl rfl (sE ap sz hN)
  intro w7 hB7
  dsimp only [AllV]
  intro x7_24 hN7_24
  intro x7_8 hN7_8
  intro hap
  dsimp only [putAll, List.take, List.drop]
  go_frame
  have hM7 := hM6.on hB7
  clear hB7 hM6 hap
  have hM8 := mm_nil w7
  go_wp2_with fail
  refine region_symT 8 _ [] [] [.val (.agg (bcells f)), .prop (fun w v => NumT w v (zm)) (fun _ _ _ hb h => h.below hb), .val (x7_8), .val (.agg (wcells a)), .prop (fun w v => Num w v (a) 16) (fun _ _ _ hb h => h.below hb), .prop (fun w v => NumT w v (v30)) (fun _ _ _ hb h => h.below hb), .prop (fun w v => NumT w v (v31)) (fun _ _ _ hb h => h.below hb), .prop (fun w v => NumT w v (v31)) (fun _ _ _ hb h => h.below hb)] rfl (by kernel_rfl) (by kernel_rfl) (by kernel_rfl) (by kernel_rfl) rfl (by intro s hs; cases hs) (steps_all ⟨?_, ?_, ?_, ?_, ?_, ?_, ?_, ?_, trivial⟩) ?_
  · exact fun A W sz ot hbel ap dp => kLoadRow _ _ _ _ _ _ rfl rfl (sO ot 4) (((hM7.get 2 rfl).on hM8.below).on hbel) Tryd.underlying40 rfl (info_HashC _) (sE ap sz rfl)
  · intro A W sz ot hbel ap dp
    refine kCall1 39 _ _ _ rfl rfl (by kernel_rfl) (sD dp 0 .data) ?_
    refine (gNumber_as hm hP hf Hz.out Hzm.out W).mono ?_
    rintro e r ⟨xx, rfl, hNx, hBc⟩
    exact ⟨_, rfl, (sV ap sz hBc hNx)⟩
  · exact fun A W sz ot hbel ap dp => kMoveV _ _ rfl rfl (sO ot 8) (sE ap sz rfl)
  · exact fun A W sz ot hbel ap dp => kLoadRow _ _ _ _ _ _ rfl rfl (sO ot 3) (((hM7.get 3 rfl).on hM8.below).on hbel) Tryd.underlying24 rfl (info_WideC _) (sE ap sz rfl)
  · intro A W sz ot hbel ap dp
    refine kCall1 41 _ _ _ rfl rfl (by kernel_rfl) (sD dp 3 .data) ?_
    refine (dOf_num a ma W).mono ?_
    rintro e r ⟨xx, rfl, hNx, hBc⟩
    exact ⟨_, rfl, (sV ap sz hBc hNx)⟩
  · intro A W sz ot hbel ap dp
    have hN29 := (show Num W (A.tmps.getD 29 undef) (a) 16 from (sD dp 4 .data))
    refine kCall3 40 _ _ _ _ _ _ _ rfl rfl (by kernel_rfl) (sD dp 2 .data) (rfl : A.eval (Operand.tmp 29) = A.tmps.getD 29 undef) rfl ?_
    refine (rMul_as hm hP (((hN7_8.below hM8.below).below hbel).n16 mr) hN29 Hv30.out).mono ?_
    rintro e r ⟨xx, rfl, hNx, hBc⟩
    exact ⟨_, rfl, (sV ap sz hBc hNx)⟩
  · intro A W sz ot hbel ap dp
    have hN26 := (show NumT W (A.tmps.getD 26 undef) (zm) from (sD dp 1 .data))
    have hN30 := (show NumT W (A.tmps.getD 30 undef) (v30) from (sD dp 5 .data))
    refine kCall3 38 _ _ _ _ _ _ _ rfl rfl (by kernel_rfl) (rfl : A.eval (Operand.tmp 26) = A.tmps.getD 26 undef) (rfl : A.eval (Operand.tmp 30) = A.tmps.getD 30 undef) rfl ?_
    refine (rAdd_as hm hP (hN26.n16 mzm) (hN30.n16 mv30) Hv31.out).mono ?_
    rintro e r ⟨xx, rfl, hNx, hBc⟩
    exact ⟨_, rfl, (sV ap sz hBc hNx)⟩
  · intro A W sz ot hbel ap dp
    have hN := (sD dp 6 .data)
    exact kAssignV _ (A.tmps.getD 31 undef) rfl rfl rfl (sE ap sz hN)
  intro w9 hB9
  dsimp only [AllV]
  intro x9_26 hN9_26
  intro x9_29 hN9_29
  intro x9_30 hN9_30
  intro x9_31 hN9_31
  intro x9_9 hN9_9
  intro hap
  dsimp only [putAll, List.take, List.drop]
  go_frame
  have hM9 := hM8.on hB9
  clear hB9 hM8 hap
  have hM10 := mm_nil w9
  go_wp2_with (first
    | ((with_reducible change wpList _ _ _ (Oper.mk (some 33) _ _ _ _ _ :: _) _ _); refine kLoadRow _ _ _ _ _ _ rfl rfl rfl (((hM7.get 1 rfl).on hM9.below).on hM10.below) Tryd.underlying24 rfl (info_WideC _) ?_; go_frame)
    | (go_at_call 41; (with_reducible change Calls _ _ #[Value.agg (wcells k)] _ _); refine (dOf_num k mk _).mono ?_; rintro e w11 ⟨x11, rfl, hN11, hB11⟩; have hM11 := hM10.on hB11; clear hB11 hM10; have hM12 := mm_nil w11; go_frame)
    | (go_at_call 42; (with_reducible change Calls _ _ #[x11, Value.bool false] _ _); refine (rInv_as hm hP (hN11.below hM12.below) Hv35.out).mono ?_; rintro e w13 ⟨x13, rfl, hN13, hB13⟩; have hM13 := hM12.on hB13; clear hB13 hM12; have hM14 := mm_nil w13; go_frame)
    | (go_at_call 40; (with_reducible change Calls _ _ #[x9_9, x13, Value.bool false] _ _); refine (rMul_as hm hP ((((hN9_9.below hM11.below).below hM13.below).below hM14.below).n16 mv31) ((hN13.below hM14.below).n16 mv35) (sg_same2 Hm.out Hr2.out Hs0.out Hzm.out Hv30.out Hv31.out Hv35.out)).mono ?_; rintro e w15 ⟨x15, rfl, hN15, hB15⟩; have hM15 := hM14.on hB15; clear hB15 hM14; have hM16 := mm_nil w15; go_frame)
    | (go_at_call 43; (with_reducible change Calls _ _ #[x15] _ _); refine (gHigh_as Hm.out hP ((hN15.below hM16.below).n16 ms0) hb.out).mono ?_; rintro e w17 ⟨rfl, hB17⟩; have hM17 := hM16.on hB17; clear hB17 hM16; (try unfold WV); go_frame)
    | ((with_reducible change wpList _ _ _ (Oper.mk (some 39) _ _ _ _ _ :: _) _ _); refine kDig0 rfl rfl ?_; intro w18 x18 hN18 hB18; have hM18 := hM17.on hB18; clear hB18 hM17; have hM19 := mm_nil w18; go_frame)
    | (go_at_call 44; (with_reducible change Calls _ _ #[x18, x15, Value.bool false] _ _); refine (rSub_as hm hP ((hN18.below hM19.below).n16 M256_pos) (((hN15.below hM18.below).below hM19.below).n16 ms0) lsm.out hS.out).mono ?_; rintro e w20 ⟨x20, rfl, hN20, hB20⟩; have hM20 := hM19.on hB20; clear hB20 hM19; have hM21 := mm_nil w20; go_frame)
    | ((with_reducible change wpList _ _ _ (Oper.mk (some 43) _ _ _ _ _ :: _) _ _); refine kLenT _ r false _ rfl rfl rfl (((((((hN7_8.below hM9.below).below hM11.below).below hM13.below).below hM15.below).below hM18.below).below hM20.below).below hM21.below) (F0.out) ?_; intro L43 hL43; go_frame)
    | ((with_reducible change wpList _ _ _ (Oper.mk (some 44) _ _ _ _ _ :: _) _ _); refine kEqlI _ _ _ _ .i64 (L43) (0) false rfl rfl rfl rfl (hL43.out) ?_; go_frame)
    | ((with_reducible change wpList _ _ _ (Oper.mk (some 47) _ _ _ _ _ :: _) _ _); refine kLenT _ s false _ rfl rfl rfl (hN20.below hM21.below) (F1.out) ?_; intro L47 hL47; go_frame)
    | ((with_reducible change wpList _ _ _ (Oper.mk (some 48) _ _ _ _ _ :: _) _ _); refine kEqlI _ _ _ _ .i64 (L47) (0) false rfl rfl rfl rfl (hL47.out) ?_; go_frame)
    | (go_at_call 9; (with_reducible change Calls _ _ #[x7_8] _ _); refine (dWide_numT (((((((hN7_8.below hM9.below).below hM11.below).below hM13.below).below hM15.below).below hM18.below).below hM20.below).below hM21.below)).mono ?_; rintro e w22 ⟨rfl, hB22⟩; have hM22 := hM21.on hB22; clear hB22 hM21; (try unfold WV); go_frame)
    | (go_at_call 9; (with_reducible change Calls _ _ #[x20] _ _); refine (dWide_numT (hN20.below hM22.below)).mono ?_; rintro e w23 ⟨rfl, hB23⟩; have hM23 := hM22.on hB23; clear hB23 hM22; (try unfold WV); go_frame)
    | ((with_reducible change wpList _ _ _ (Oper.mk (some 55) _ _ _ _ _ :: _) _ _); refine kBuildSig2 _ _ r s rfl rfl rfl rfl ?_; go_frame)
    | ((with_reducible change wpList _ _ _ (Oper.mk none (Op.store _ (Operand.tmp 6) (Operand.tmp 55)) _ _ _ _ :: _) _ _); have hJ := (Mm.join (Mm.join (Mm.join (Mm.join (Mm.join (Mm.join (Mm.join hM7 hM9) hM11) hM13) hM15) hM18) hM20) hM23); dsimp only [List.append, List.cons_append, List.nil_append] at hJ; refine mmStoreAt hJ 0 _ _ _ _ _ _ (wcells2 r s) rfl rfl rfl rfl rfl (info_SigC _ _) rfl (wcells2_one _ _) ?_; intro w24 hM24; dsimp only [List.set] at hM24; clear hJ; go_frame))
  exact result_row_tmp Tryd.results17 rfl rfl (hM24.get 0 rfl) Tryd.underlying35 rfl (info_SigC _ _) rfl ⟨rfl, hM24.below⟩
set_option maxRecDepth 100000 in
set_option maxHeartbeats 8000000 in
theorem gSign_f_r {a k r s0 : Nat} {f : Nat → Nat} {z : Nat} (hf : ∀ i, f i < 256) (hz : zOf f = z) (ha : isSec a = true) (hk : isSec k = true) (hr : sgR k = r) (hs0 : sgS0 a z k = s0) (hb : isHi s0 = false) (h0 : r = 0) (w : World) : Calls Tryd.prog 17 #[WV a, .agg (bcells f), WV k] w fun e w' => e = .returned (.tuple #[.agg (wcells2 0 0), .int .i64 51]) ∧ Below w.heap.size w w' := by
  have ma := isSec_lt ha
  have mk := isSec_lt hk
  have mr : r < M256 := by rw [← hr]; exact Nat.lt_trans (sgR_lt k) (by decide)
  have ls0 : s0 < NN := by rw [← hs0]; exact sgS0_lt a z k
  have ms0 : s0 < M256 := Nat.lt_trans ls0 (by decide)
  obtain ⟨m, Hm⟩ : ∃ m, Hid (m = NN) := ⟨_, Lib.hid rfl⟩
  have hm : Modu m := by rw [Hm.out]; exact modu_N
  have hP : PrimeIs false m := by rw [Hm.out]; exact rPrime_false
  have Hz := Lib.hid hz
  obtain ⟨zm, Hzm⟩ : ∃ n, Hid (z % m = n) := ⟨_, Lib.hid rfl⟩
  have mzm : zm < M256 := by rw [← Hzm.out]; exact hm.mod _
  clear hz
  obtain ⟨q, Hq⟩ : ∃ q, Hid (Pt.times ivP gPt k = q) := ⟨_, Lib.hid rfl⟩
  obtain ⟨xq, Hxq⟩ : ∃ x, Hid (pX q = x) := ⟨_, Lib.hid rfl⟩
  have mxq : xq < M256 := by rw [← Hxq.out]; exact pX_lt q
  have Hr := Lib.hid (show xq % m = r by rw [← Hxq.out, ← Hq.out, Hm.out]; exact hr)
  have Hr2 := Lib.hid hr
  have Hs0 := Lib.hid hs0
  have F0 := Lib.hid (show decide (r = 0) = true from decide_eq_true h0)
  replace ha := Lib.hid ha
  replace hk := Lib.hid hk
  replace hb := Lib.hid hb
  clear hr hs0 h0
  obtain ⟨v30, Hv30, mv30⟩ := nameMod hm (r * a)
  obtain ⟨v31, Hv31, mv31⟩ := nameMod hm (zm + v30)
  obtain ⟨v35, Hv35, mv35⟩ := nameMod hm (k ^ (m - 2))
  have hM0 := mm_nil w
  (try unfold WV)
  go_enter Tryd.func17, Tryd.ntmps17
  go_wp2_with (first
    | ((with_reducible change wpList _ _ _ (Oper.mk (some 3) _ _ _ _ _ :: _) _ _); refine mmBox hM0 _ _ (wcells a) rfl rfl rfl ?_; intro w1 hM1; clear hM0; go_frame)
    | ((with_reducible change wpList _ _ _ (Oper.mk (some 4) _ _ _ _ _ :: _) _ _); refine mmBox hM1 _ _ (bcells f) rfl rfl rfl ?_; intro w2 hM2; clear hM1; go_frame)
    | ((with_reducible change wpList _ _ _ (Oper.mk (some 5) _ _ _ _ _ :: _) _ _); refine mmBox hM2 _ _ (wcells k) rfl rfl rfl ?_; intro w3 hM3; clear hM2; go_frame)
    | ((with_reducible change wpList _ _ _ (Oper.mk (some 6) _ _ _ _ _ :: _) _ _); refine mmAlloc hM3 _ _ rfl rfl zero_Sig ?_; intro w4 hM4; clear hM3; go_frame)
    | ((with_reducible change wpList _ _ _ (Oper.mk (some 11) _ _ _ _ _ :: _) _ _); refine kLoadRow _ _ _ _ _ _ rfl rfl rfl (hM4.get 3 rfl) Tryd.underlying24 rfl (info_WideC _) ?_; go_frame)
    | (go_at_call 18; (with_reducible change Calls _ _ #[Value.agg (wcells a)] _ _); refine (gSecret_as Hm.out hP ma ha.out _).mono ?_; rintro e w5 ⟨rfl, hB5⟩; have hM5 := hM4.on hB5; clear hB5 hM4; (try unfold WV); go_frame)
    | ((with_reducible change wpList _ _ _ (Oper.mk (some 15) _ _ _ _ _ :: _) _ _); refine kLoadRow _ _ _ _ _ _ rfl rfl rfl (hM5.get 1 rfl) Tryd.underlying24 rfl (info_WideC _) ?_; go_frame)
    | (go_at_call 18; (with_reducible change Calls _ _ #[Value.agg (wcells k)] _ _); refine (gSecret_as Hm.out hP mk hk.out _).mono ?_; rintro e w6 ⟨rfl, hB6⟩; have hM6 := hM5.on hB6; clear hB6 hM5; (try unfold WV); go_frame))
  refine region_symT 6 _ [] [] [.val (.agg (wcells k)), .val (.agg (ptc gPt)), .val (.agg (ptc q)), .val (.agg (wcells xq)), .prop (fun w v => NumT w v (r)) (fun _ _ _ hb h => h.below hb), .prop (fun w v => NumT w v (r)) (fun _ _ _ hb h => h.below hb)] rfl (by kernel_rfl) (by kernel_rfl) (by kernel_rfl) (by kernel_rfl) rfl (by intro s hs; cases hs) (steps_all ⟨?_, ?_, ?_, ?_, ?_, ?_, trivial⟩) ?_
  · exact fun A W sz ot hbel ap dp => kLoadRow _ _ _ _ _ _ rfl rfl (sO ot 5) ((hM6.get 1 rfl).on hbel) Tryd.underlying24 rfl (info_WideC _) (sE ap sz rfl)
  · intro A W sz ot hbel ap dp
    refine kCall0 16 _ rfl rfl (by kernel_rfl)  ?_
    refine (eBase_any W).mono ?_
    rintro e r ⟨rfl, hBc⟩
    exact ⟨_, rfl, (sV ap sz hBc rfl)⟩
  · exact fun A W sz ot hbel ap dp => sCall2 19 rfl (sD dp 0 .data) (sD dp 1 .data) (sC (eTimes_q mk gPt_on Hq.out W) ap sz (fun _ => rfl))
  · exact fun A W sz ot hbel ap dp => kFieldX _ q xq (Hxq.out) rfl rfl (sD dp 2 .data) (sE ap sz rfl)
  · intro A W sz ot hbel ap dp
    refine kCall2 37 _ _ _ _ _ rfl rfl (by kernel_rfl) (sD dp 3 .data) rfl ?_
    refine (rOf_as hm hP mxq Hr.out W).mono ?_
    rintro e r ⟨xx, rfl, hNx, hBc⟩
    exact ⟨_, rfl, (sV ap sz hBc hNx)⟩
  · intro A W sz ot hbel ap dp
    have hN := (sD dp 4 .data)
    exact kAssignV _ (A.tmps.getD 24 undef) rfl rfl rfl (sE ap sz hN)
  intro w7 hB7
  dsimp only [AllV]
  intro x7_24 hN7_24
  intro x7_8 hN7_8
  intro hap
  dsimp only [putAll, List.take, List.drop]
  go_frame
  have hM7 := hM6.on hB7
  clear hB7 hM6 hap
  have hM8 := mm_nil w7
  go_wp2_with fail
  refine region_symT 8 _ [] [] [.val (.agg (bcells f)), .prop (fun w v => NumT w v (zm)) (fun _ _ _ hb h => h.below hb), .val (x7_8), .val (.agg (wcells a)), .prop (fun w v => Num w v (a) 16) (fun _ _ _ hb h => h.below hb), .prop (fun w v => NumT w v (v30)) (fun _ _ _ hb h => h.below hb), .prop (fun w v => NumT w v (v31)) (fun _ _ _ hb h => h.below hb), .prop (fun w v => NumT w v (v31)) (fun _ _ _ hb h => h.below hb)] rfl (by kernel_rfl) (by kernel_rfl) (by kernel_rfl) (by kernel_rfl) rfl (by intro s hs; cases hs) (steps_all ⟨?_, ?_, ?_, ?_, ?_, ?_, ?_, ?_, trivial⟩) ?_
  · exact fun A W sz ot hbel ap dp => kLoadRow _ _ _ _ _ _ rfl rfl (sO ot 4) (((hM7.get 2 rfl).on hM8.below).on hbel) Tryd.underlying40 rfl (info_HashC _) (sE ap sz rfl)
  · intro A W sz ot hbel ap dp
    refine kCall1 39 _ _ _ rfl rfl (by kernel_rfl) (sD dp 0 .data) ?_
    refine (gNumber_as hm hP hf Hz.out Hzm.out W).mono ?_
    rintro e r ⟨xx, rfl, hNx, hBc⟩
    exact ⟨_, rfl, (sV ap sz hBc hNx)⟩
  · exact fun A W sz ot hbel ap dp => kMoveV _ _ rfl rfl (sO ot 8) (sE ap sz rfl)
  · exact fun A W sz ot hbel ap dp => kLoadRow _ _ _ _ _ _ rfl rfl (sO ot 3) (((hM7.get 3 rfl).on hM8.below).on hbel) Tryd.underlying24 rfl (info_WideC _) (sE ap sz rfl)
  · intro A W sz ot hbel ap dp
    refine kCall1 41 _ _ _ rfl rfl (by kernel_rfl) (sD dp 3 .data) ?_
    refine (dOf_num a ma W).mono ?_
    rintro e r ⟨xx, rfl, hNx, hBc⟩
    exact ⟨_, rfl, (sV ap sz hBc hNx)⟩
  · intro A W sz ot hbel ap dp
    have hN29 := (show Num W (A.tmps.getD 29 undef) (a) 16 from (sD dp 4 .data))
    refine kCall3 40 _ _ _ _ _ _ _ rfl rfl (by kernel_rfl) (sD dp 2 .data) (rfl : A.eval (Operand.tmp 29) = A.tmps.getD 29 undef) rfl ?_
    refine (rMul_as hm hP (((hN7_8.below hM8.below).below hbel).n16 mr) hN29 Hv30.out).mono ?_
    rintro e r ⟨xx, rfl, hNx, hBc⟩
    exact ⟨_, rfl, (sV ap sz hBc hNx)⟩
  · intro A W sz ot hbel ap dp
    have hN26 := (show NumT W (A.tmps.getD 26 undef) (zm) from (sD dp 1 .data))
    have hN30 := (show NumT W (A.tmps.getD 30 undef) (v30) from (sD dp 5 .data))
    refine kCall3 38 _ _ _ _ _ _ _ rfl rfl (by kernel_rfl) (rfl : A.eval (Operand.tmp 26) = A.tmps.getD 26 undef) (rfl : A.eval (Operand.tmp 30) = A.tmps.getD 30 undef) rfl ?_
    refine (rAdd_as hm hP (hN26.n16 mzm) (hN30.n16 mv30) Hv31.out).mono ?_
    rintro e r ⟨xx, rfl, hNx, hBc⟩
    exact ⟨_, rfl, (sV ap sz hBc hNx)⟩
  · intro A W sz ot hbel ap dp
    have hN := (sD dp 6 .data)
    exact kAssignV _ (A.tmps.getD 31 undef) rfl rfl rfl (sE ap sz hN)
  intro w9 hB9
  dsimp only [AllV]
  intro x9_26 hN9_26
  intro x9_29 hN9_29
  intro x9_30 hN9_30
  intro x9_31 hN9_31
  intro x9_9 hN9_9
  intro hap
  dsimp only [putAll, List.take, List.drop]
  go_frame
  have hM9 := hM8.on hB9
  clear hB9 hM8 hap
  have hM10 := mm_nil w9
  go_wp2_with (first
    | ((with_reducible change wpList _ _ _ (Oper.mk (some 33) _ _ _ _ _ :: _) _ _); refine kLoadRow _ _ _ _ _ _ rfl rfl rfl (((hM7.get 1 rfl).on hM9.below).on hM10.below) Tryd.underlying24 rfl (info_WideC _) ?_; go_frame)
    | (go_at_call 41; (with_reducible change Calls _ _ #[Value.agg (wcells k)] _ _); refine (dOf_num k mk _).mono ?_; rintro e w11 ⟨x11, rfl, hN11, hB11⟩; have hM11 := hM10.on hB11; clear hB11 hM10; have hM12 := mm_nil w11; go_frame)
    | (go_at_call 42; (with_reducible change Calls _ _ #[x11, Value.bool false] _ _); refine (rInv_as hm hP (hN11.below hM12.below) Hv35.out).mono ?_; rintro e w13 ⟨x13, rfl, hN13, hB13⟩; have hM13 := hM12.on hB13; clear hB13 hM12; have hM14 := mm_nil w13; go_frame)
    | (go_at_call 40; (with_reducible change Calls _ _ #[x9_9, x13, Value.bool false] _ _); refine (rMul_as hm hP ((((hN9_9.below hM11.below).below hM13.below).below hM14.below).n16 mv31) ((hN13.below hM14.below).n16 mv35) (sg_same2 Hm.out Hr2.out Hs0.out Hzm.out Hv30.out Hv31.out Hv35.out)).mono ?_; rintro e w15 ⟨x15, rfl, hN15, hB15⟩; have hM15 := hM14.on hB15; clear hB15 hM14; have hM16 := mm_nil w15; go_frame)
    | (go_at_call 43; (with_reducible change Calls _ _ #[x15] _ _); refine (gHigh_as Hm.out hP ((hN15.below hM16.below).n16 ms0) hb.out).mono ?_; rintro e w17 ⟨rfl, hB17⟩; have hM17 := hM16.on hB17; clear hB17 hM16; (try unfold WV); go_frame)
    | ((with_reducible change wpList _ _ _ (Oper.mk (some 43) _ _ _ _ _ :: _) _ _); refine kLenT _ r true _ rfl rfl rfl (((((hN7_8.below hM9.below).below hM11.below).below hM13.below).below hM15.below).below hM17.below) (F0.out) ?_; intro L43 hL43; go_frame)
    | ((with_reducible change wpList _ _ _ (Oper.mk (some 44) _ _ _ _ _ :: _) _ _); refine kEqlI _ _ _ _ .i64 (L43) (0) true rfl rfl rfl rfl (hL43.out) ?_; go_frame)
    | ((with_reducible change wpList _ _ _ (Oper.mk (some 50) _ _ _ _ _ :: _) _ _); refine kBuildSig0 rfl rfl ?_; go_frame)
    | ((with_reducible change wpList _ _ _ (Oper.mk none (Op.store _ (Operand.tmp 6) (Operand.tmp 50)) _ _ _ _ :: _) _ _); have hJ := (Mm.join (Mm.join (Mm.join (Mm.join (Mm.join hM7 hM9) hM11) hM13) hM15) hM17); dsimp only [List.append, List.cons_append, List.nil_append] at hJ; refine mmStoreAt hJ 0 _ _ _ _ _ _ (wcells2 0 0) rfl rfl rfl rfl rfl (info_SigC _ _) rfl (wcells2_one _ _) ?_; intro w18 hM18; dsimp only [List.set] at hM18; clear hJ; go_frame))
  exact result_row_tmp Tryd.results17 rfl rfl (hM18.get 0 rfl) Tryd.underlying35 rfl (info_SigC _ _) rfl ⟨rfl, hM18.below⟩
set_option maxRecDepth 100000 in
set_option maxHeartbeats 8000000 in
theorem gSign_f_s {a k r s0 s : Nat} {f : Nat → Nat} {z : Nat} (hf : ∀ i, f i < 256) (hz : zOf f = z) (ha : isSec a = true) (hk : isSec k = true) (hr : sgR k = r) (hs0 : sgS0 a z k = s0) (hb : isHi s0 = false) (hs : s0 = s) (h0 : r ≠ 0) (h1 : s = 0) (w : World) : Calls Tryd.prog 17 #[WV a, .agg (bcells f), WV k] w fun e w' => e = .returned (.tuple #[.agg (wcells2 0 0), .int .i64 51]) ∧ Below w.heap.size w w' := by
  have ma := isSec_lt ha
  have mk := isSec_lt hk
  have mr : r < M256 := by rw [← hr]; exact Nat.lt_trans (sgR_lt k) (by decide)
  have ls0 : s0 < NN := by rw [← hs0]; exact sgS0_lt a z k
  have ms0 : s0 < M256 := Nat.lt_trans ls0 (by decide)
  obtain ⟨m, Hm⟩ : ∃ m, Hid (m = NN) := ⟨_, Lib.hid rfl⟩
  have hm : Modu m := by rw [Hm.out]; exact modu_N
  have hP : PrimeIs false m := by rw [Hm.out]; exact rPrime_false
  have Hz := Lib.hid hz
  obtain ⟨zm, Hzm⟩ : ∃ n, Hid (z % m = n) := ⟨_, Lib.hid rfl⟩
  have mzm : zm < M256 := by rw [← Hzm.out]; exact hm.mod _
  clear hz
  subst hs
  obtain ⟨q, Hq⟩ : ∃ q, Hid (Pt.times ivP gPt k = q) := ⟨_, Lib.hid rfl⟩
  obtain ⟨xq, Hxq⟩ : ∃ x, Hid (pX q = x) := ⟨_, Lib.hid rfl⟩
  have mxq : xq < M256 := by rw [← Hxq.out]; exact pX_lt q
  have Hr := Lib.hid (show xq % m = r by rw [← Hxq.out, ← Hq.out, Hm.out]; exact hr)
  have Hr2 := Lib.hid hr
  have Hs0 := Lib.hid hs0
  have F0 := Lib.hid (show decide (r = 0) = false from decide_eq_false h0)
  have F1 := Lib.hid (show decide (s0 = 0) = true from decide_eq_true h1)
  replace ha := Lib.hid ha
  replace hk := Lib.hid hk
  replace hb := Lib.hid hb
  clear hr hs0 h0 h1
  obtain ⟨v30, Hv30, mv30⟩ := nameMod hm (r * a)
  obtain ⟨v31, Hv31, mv31⟩ := nameMod hm (zm + v30)
  obtain ⟨v35, Hv35, mv35⟩ := nameMod hm (k ^ (m - 2))
  have hM0 := mm_nil w
  (try unfold WV)
  go_enter Tryd.func17, Tryd.ntmps17
  go_wp2_with (first
    | ((with_reducible change wpList _ _ _ (Oper.mk (some 3) _ _ _ _ _ :: _) _ _); refine mmBox hM0 _ _ (wcells a) rfl rfl rfl ?_; intro w1 hM1; clear hM0; go_frame)
    | ((with_reducible change wpList _ _ _ (Oper.mk (some 4) _ _ _ _ _ :: _) _ _); refine mmBox hM1 _ _ (bcells f) rfl rfl rfl ?_; intro w2 hM2; clear hM1; go_frame)
    | ((with_reducible change wpList _ _ _ (Oper.mk (some 5) _ _ _ _ _ :: _) _ _); refine mmBox hM2 _ _ (wcells k) rfl rfl rfl ?_; intro w3 hM3; clear hM2; go_frame)
    | ((with_reducible change wpList _ _ _ (Oper.mk (some 6) _ _ _ _ _ :: _) _ _); refine mmAlloc hM3 _ _ rfl rfl zero_Sig ?_; intro w4 hM4; clear hM3; go_frame)
    | ((with_reducible change wpList _ _ _ (Oper.mk (some 11) _ _ _ _ _ :: _) _ _); refine kLoadRow _ _ _ _ _ _ rfl rfl rfl (hM4.get 3 rfl) Tryd.underlying24 rfl (info_WideC _) ?_; go_frame)
    | (go_at_call 18; (with_reducible change Calls _ _ #[Value.agg (wcells a)] _ _); refine (gSecret_as Hm.out hP ma ha.out _).mono ?_; rintro e w5 ⟨rfl, hB5⟩; have hM5 := hM4.on hB5; clear hB5 hM4; (try unfold WV); go_frame)
    | ((with_reducible change wpList _ _ _ (Oper.mk (some 15) _ _ _ _ _ :: _) _ _); refine kLoadRow _ _ _ _ _ _ rfl rfl rfl (hM5.get 1 rfl) Tryd.underlying24 rfl (info_WideC _) ?_; go_frame)
    | (go_at_call 18; (with_reducible change Calls _ _ #[Value.agg (wcells k)] _ _); refine (gSecret_as Hm.out hP mk hk.out _).mono ?_; rintro e w6 ⟨rfl, hB6⟩; have hM6 := hM5.on hB6; clear hB6 hM5; (try unfold WV); go_frame))
  refine region_symT 6 _ [] [] [.val (.agg (wcells k)), .val (.agg (ptc gPt)), .val (.agg (ptc q)), .val (.agg (wcells xq)), .prop (fun w v => NumT w v (r)) (fun _ _ _ hb h => h.below hb), .prop (fun w v => NumT w v (r)) (fun _ _ _ hb h => h.below hb)] rfl (by kernel_rfl) (by kernel_rfl) (by kernel_rfl) (by kernel_rfl) rfl (by intro s hs; cases hs) (steps_all ⟨?_, ?_, ?_, ?_, ?_, ?_, trivial⟩) ?_
  · exact fun A W sz ot hbel ap dp => kLoadRow _ _ _ _ _ _ rfl rfl (sO ot 5) ((hM6.get 1 rfl).on hbel) Tryd.underlying24 rfl (info_WideC _) (sE ap sz rfl)
  · intro A W sz ot hbel ap dp
    refine kCall0 16 _ rfl rfl (by kernel_rfl)  ?_
    refine (eBase_any W).mono ?_
    rintro e r ⟨rfl, hBc⟩
    exact ⟨_, rfl, (sV ap sz hBc rfl)⟩
  · exact fun A W sz ot hbel ap dp => sCall2 19 rfl (sD dp 0 .data) (sD dp 1 .data) (sC (eTimes_q mk gPt_on Hq.out W) ap sz (fun _ => rfl))
  · exact fun A W sz ot hbel ap dp => kFieldX _ q xq (Hxq.out) rfl rfl (sD dp 2 .data) (sE ap sz rfl)
  · intro A W sz ot hbel ap dp
    refine kCall2 37 _ _ _ _ _ rfl rfl (by kernel_rfl) (sD dp 3 .data) rfl ?_
    refine (rOf_as hm hP mxq Hr.out W).mono ?_
    rintro e r ⟨xx, rfl, hNx, hBc⟩
    exact ⟨_, rfl, (sV ap sz hBc hNx)⟩
  · intro A W sz ot hbel ap dp
    have hN := (sD dp 4 .data)
    exact kAssignV _ (A.tmps.getD 24 undef) rfl rfl rfl (sE ap sz hN)
  intro w7 hB7
  dsimp only [AllV]
  intro x7_24 hN7_24
  intro x7_8 hN7_8
  intro hap
  dsimp only [putAll, List.take, List.drop]
  go_frame
  have hM7 := hM6.on hB7
  clear hB7 hM6 hap
  have hM8 := mm_nil w7
  go_wp2_with fail
  refine region_symT 8 _ [] [] [.val (.agg (bcells f)), .prop (fun w v => NumT w v (zm)) (fun _ _ _ hb h => h.below hb), .val (x7_8), .val (.agg (wcells a)), .prop (fun w v => Num w v (a) 16) (fun _ _ _ hb h => h.below hb), .prop (fun w v => NumT w v (v30)) (fun _ _ _ hb h => h.below hb), .prop (fun w v => NumT w v (v31)) (fun _ _ _ hb h => h.below hb), .prop (fun w v => NumT w v (v31)) (fun _ _ _ hb h => h.below hb)] rfl (by kernel_rfl) (by kernel_rfl) (by kernel_rfl) (by kernel_rfl) rfl (by intro s hs; cases hs) (steps_all ⟨?_, ?_, ?_, ?_, ?_, ?_, ?_, ?_, trivial⟩) ?_
  · exact fun A W sz ot hbel ap dp => kLoadRow _ _ _ _ _ _ rfl rfl (sO ot 4) (((hM7.get 2 rfl).on hM8.below).on hbel) Tryd.underlying40 rfl (info_HashC _) (sE ap sz rfl)
  · intro A W sz ot hbel ap dp
    refine kCall1 39 _ _ _ rfl rfl (by kernel_rfl) (sD dp 0 .data) ?_
    refine (gNumber_as hm hP hf Hz.out Hzm.out W).mono ?_
    rintro e r ⟨xx, rfl, hNx, hBc⟩
    exact ⟨_, rfl, (sV ap sz hBc hNx)⟩
  · exact fun A W sz ot hbel ap dp => kMoveV _ _ rfl rfl (sO ot 8) (sE ap sz rfl)
  · exact fun A W sz ot hbel ap dp => kLoadRow _ _ _ _ _ _ rfl rfl (sO ot 3) (((hM7.get 3 rfl).on hM8.below).on hbel) Tryd.underlying24 rfl (info_WideC _) (sE ap sz rfl)
  · intro A W sz ot hbel ap dp
    refine kCall1 41 _ _ _ rfl rfl (by kernel_rfl) (sD dp 3 .data) ?_
    refine (dOf_num a ma W).mono ?_
    rintro e r ⟨xx, rfl, hNx, hBc⟩
    exact ⟨_, rfl, (sV ap sz hBc hNx)⟩
  · intro A W sz ot hbel ap dp
    have hN29 := (show Num W (A.tmps.getD 29 undef) (a) 16 from (sD dp 4 .data))
    refine kCall3 40 _ _ _ _ _ _ _ rfl rfl (by kernel_rfl) (sD dp 2 .data) (rfl : A.eval (Operand.tmp 29) = A.tmps.getD 29 undef) rfl ?_
    refine (rMul_as hm hP (((hN7_8.below hM8.below).below hbel).n16 mr) hN29 Hv30.out).mono ?_
    rintro e r ⟨xx, rfl, hNx, hBc⟩
    exact ⟨_, rfl, (sV ap sz hBc hNx)⟩
  · intro A W sz ot hbel ap dp
    have hN26 := (show NumT W (A.tmps.getD 26 undef) (zm) from (sD dp 1 .data))
    have hN30 := (show NumT W (A.tmps.getD 30 undef) (v30) from (sD dp 5 .data))
    refine kCall3 38 _ _ _ _ _ _ _ rfl rfl (by kernel_rfl) (rfl : A.eval (Operand.tmp 26) = A.tmps.getD 26 undef) (rfl : A.eval (Operand.tmp 30) = A.tmps.getD 30 undef) rfl ?_
    refine (rAdd_as hm hP (hN26.n16 mzm) (hN30.n16 mv30) Hv31.out).mono ?_
    rintro e r ⟨xx, rfl, hNx, hBc⟩
    exact ⟨_, rfl, (sV ap sz hBc hNx)⟩
  · intro A W sz ot hbel ap dp
    have hN := (sD dp 6 .data)
    exact kAssignV _ (A.tmps.getD 31 undef) rfl rfl rfl (sE ap sz hN)
  intro w9 hB9
  dsimp only [AllV]
  intro x9_26 hN9_26
  intro x9_29 hN9_29
  intro x9_30 hN9_30
  intro x9_31 hN9_31
  intro x9_9 hN9_9
  intro hap
  dsimp only [putAll, List.take, List.drop]
  go_frame
  have hM9 := hM8.on hB9
  clear hB9 hM8 hap
  have hM10 := mm_nil w9
  go_wp2_with (first
    | ((with_reducible change wpList _ _ _ (Oper.mk (some 33) _ _ _ _ _ :: _) _ _); refine kLoadRow _ _ _ _ _ _ rfl rfl rfl (((hM7.get 1 rfl).on hM9.below).on hM10.below) Tryd.underlying24 rfl (info_WideC _) ?_; go_frame)
    | (go_at_call 41; (with_reducible change Calls _ _ #[Value.agg (wcells k)] _ _); refine (dOf_num k mk _).mono ?_; rintro e w11 ⟨x11, rfl, hN11, hB11⟩; have hM11 := hM10.on hB11; clear hB11 hM10; have hM12 := mm_nil w11; go_frame)
    | (go_at_call 42; (with_reducible change Calls _ _ #[x11, Value.bool false] _ _); refine (rInv_as hm hP (hN11.below hM12.below) Hv35.out).mono ?_; rintro e w13 ⟨x13, rfl, hN13, hB13⟩; have hM13 := hM12.on hB13; clear hB13 hM12; have hM14 := mm_nil w13; go_frame)
    | (go_at_call 40; (with_reducible change Calls _ _ #[x9_9, x13, Value.bool false] _ _); refine (rMul_as hm hP ((((hN9_9.below hM11.below).below hM13.below).below hM14.below).n16 mv31) ((hN13.below hM14.below).n16 mv35) (sg_same2 Hm.out Hr2.out Hs0.out Hzm.out Hv30.out Hv31.out Hv35.out)).mono ?_; rintro e w15 ⟨x15, rfl, hN15, hB15⟩; have hM15 := hM14.on hB15; clear hB15 hM14; have hM16 := mm_nil w15; go_frame)
    | (go_at_call 43; (with_reducible change Calls _ _ #[x15] _ _); refine (gHigh_as Hm.out hP ((hN15.below hM16.below).n16 ms0) hb.out).mono ?_; rintro e w17 ⟨rfl, hB17⟩; have hM17 := hM16.on hB17; clear hB17 hM16; (try unfold WV); go_frame)
    | ((with_reducible change wpList _ _ _ (Oper.mk (some 43) _ _ _ _ _ :: _) _ _); refine kLenT _ r false _ rfl rfl rfl (((((hN7_8.below hM9.below).below hM11.below).below hM13.below).below hM15.below).below hM17.below) (F0.out) ?_; intro L43 hL43; go_frame)
    | ((with_reducible change wpList _ _ _ (Oper.mk (some 44) _ _ _ _ _ :: _) _ _); refine kEqlI _ _ _ _ .i64 (L43) (0) false rfl rfl rfl rfl (hL43.out) ?_; go_frame)
    | ((with_reducible change wpList _ _ _ (Oper.mk (some 47) _ _ _ _ _ :: _) _ _); refine kLenT _ s0 true _ rfl rfl rfl (hN15.below hM17.below) (F1.out) ?_; intro L47 hL47; go_frame)
    | ((with_reducible change wpList _ _ _ (Oper.mk (some 48) _ _ _ _ _ :: _) _ _); refine kEqlI _ _ _ _ .i64 (L47) (0) true rfl rfl rfl rfl (hL47.out) ?_; go_frame)
    | ((with_reducible change wpList _ _ _ (Oper.mk (some 50) _ _ _ _ _ :: _) _ _); refine kBuildSig0 rfl rfl ?_; go_frame)
    | ((with_reducible change wpList _ _ _ (Oper.mk none (Op.store _ (Operand.tmp 6) (Operand.tmp 50)) _ _ _ _ :: _) _ _); have hJ := (Mm.join (Mm.join (Mm.join (Mm.join (Mm.join hM7 hM9) hM11) hM13) hM15) hM17); dsimp only [List.append, List.cons_append, List.nil_append] at hJ; refine mmStoreAt hJ 0 _ _ _ _ _ _ (wcells2 0 0) rfl rfl rfl rfl rfl (info_SigC _ _) rfl (wcells2_one _ _) ?_; intro w18 hM18; dsimp only [List.set] at hM18; clear hJ; go_frame))
  exact result_row_tmp Tryd.results17 rfl rfl (hM18.get 0 rfl) Tryd.underlying35 rfl (info_SigC _ _) rfl ⟨rfl, hM18.below⟩
set_option maxRecDepth 100000 in
set_option maxHeartbeats 8000000 in
theorem gSign_f_ok {a k r s0 s : Nat} {f : Nat → Nat} {z : Nat} (hf : ∀ i, f i < 256) (hz : zOf f = z) (ha : isSec a = true) (hk : isSec k = true) (hr : sgR k = r) (hs0 : sgS0 a z k = s0) (hb : isHi s0 = false) (hs : s0 = s) (h0 : r ≠ 0) (h1 : s ≠ 0) (w : World) : Calls Tryd.prog 17 #[WV a, .agg (bcells f), WV k] w fun e w' => e = .returned (.tuple #[.agg (wcells2 r s), .int .i64 0]) ∧ Below w.heap.size w w' := by
  have ma := isSec_lt ha
  have mk := isSec_lt hk
  have mr : r < M256 := by rw [← hr]; exact Nat.lt_trans (sgR_lt k) (by decide)
  have ls0 : s0 < NN := by rw [← hs0]; exact sgS0_lt a z k
  have ms0 : s0 < M256 := Nat.lt_trans ls0 (by decide)
  obtain ⟨m, Hm⟩ : ∃ m, Hid (m = NN) := ⟨_, Lib.hid rfl⟩
  have hm : Modu m := by rw [Hm.out]; exact modu_N
  have hP : PrimeIs false m := by rw [Hm.out]; exact rPrime_false
  have Hz := Lib.hid hz
  obtain ⟨zm, Hzm⟩ : ∃ n, Hid (z % m = n) := ⟨_, Lib.hid rfl⟩
  have mzm : zm < M256 := by rw [← Hzm.out]; exact hm.mod _
  clear hz
  subst hs
  obtain ⟨q, Hq⟩ : ∃ q, Hid (Pt.times ivP gPt k = q) := ⟨_, Lib.hid rfl⟩
  obtain ⟨xq, Hxq⟩ : ∃ x, Hid (pX q = x) := ⟨_, Lib.hid rfl⟩
  have mxq : xq < M256 := by rw [← Hxq.out]; exact pX_lt q
  have Hr := Lib.hid (show xq % m = r by rw [← Hxq.out, ← Hq.out, Hm.out]; exact hr)
  have Hr2 := Lib.hid hr
  have Hs0 := Lib.hid hs0
  have F0 := Lib.hid (show decide (r = 0) = false from decide_eq_false h0)
  have F1 := Lib.hid (show decide (s0 = 0) = false from decide_eq_false h1)
  replace ha := Lib.hid ha
  replace hk := Lib.hid hk
  replace hb := Lib.hid hb
  clear hr hs0 h0 h1
  obtain ⟨v30, Hv30, mv30⟩ := nameMod hm (r * a)
  obtain ⟨v31, Hv31, mv31⟩ := nameMod hm (zm + v30)
  obtain ⟨v35, Hv35, mv35⟩ := nameMod hm (k ^ (m - 2))
  have hM0 := mm_nil w
  (try unfold WV)
  go_enter Tryd.func17, Tryd.ntmps17
  go_wp2_with (first
    | ((with_reducible change wpList _ _ _ (Oper.mk (some 3) _ _ _ _ _ :: _) _ _); refine mmBox hM0 _ _ (wcells a) rfl rfl rfl ?_; intro w1 hM1; clear hM0; go_frame)
    | ((with_reducible change wpList _ _ _ (Oper.mk (some 4) _ _ _ _ _ :: _) _ _); refine mmBox hM1 _ _ (bcells f) rfl rfl rfl ?_; intro w2 hM2; clear hM1; go_frame)
    | ((with_reducible change wpList _ _ _ (Oper.mk (some 5) _ _ _ _ _ :: _) _ _); refine mmBox hM2 _ _ (wcells k) rfl rfl rfl ?_; intro w3 hM3; clear hM2; go_frame)
    | ((with_reducible change wpList _ _ _ (Oper.mk (some 6) _ _ _ _ _ :: _) _ _); refine mmAlloc hM3 _ _ rfl rfl zero_Sig ?_; intro w4 hM4; clear hM3; go_frame)
    | ((with_reducible change wpList _ _ _ (Oper.mk (some 11) _ _ _ _ _ :: _) _ _); refine kLoadRow _ _ _ _ _ _ rfl rfl rfl (hM4.get 3 rfl) Tryd.underlying24 rfl (info_WideC _) ?_; go_frame)
    | (go_at_call 18; (with_reducible change Calls _ _ #[Value.agg (wcells a)] _ _); refine (gSecret_as Hm.out hP ma ha.out _).mono ?_; rintro e w5 ⟨rfl, hB5⟩; have hM5 := hM4.on hB5; clear hB5 hM4; (try unfold WV); go_frame)
    | ((with_reducible change wpList _ _ _ (Oper.mk (some 15) _ _ _ _ _ :: _) _ _); refine kLoadRow _ _ _ _ _ _ rfl rfl rfl (hM5.get 1 rfl) Tryd.underlying24 rfl (info_WideC _) ?_; go_frame)
    | (go_at_call 18; (with_reducible change Calls _ _ #[Value.agg (wcells k)] _ _); refine (gSecret_as Hm.out hP mk hk.out _).mono ?_; rintro e w6 ⟨rfl, hB6⟩; have hM6 := hM5.on hB6; clear hB6 hM5; (try unfold WV); go_frame))
  refine region_symT 6 _ [] [] [.val (.agg (wcells k)), .val (.agg (ptc gPt)), .val (.agg (ptc q)), .val (.agg (wcells xq)), .prop (fun w v => NumT w v (r)) (fun _ _ _ hb h => h.below hb), .prop (fun w v => NumT w v (r)) (fun _ _ _ hb h => h.below hb)] rfl (by kernel_rfl) (by kernel_rfl) (by kernel_rfl) (by kernel_rfl) rfl (by intro s hs; cases hs) (steps_all ⟨?_, ?_, ?_, ?_, ?_, ?_, trivial⟩) ?_
  · exact fun A W sz ot hbel ap dp => kLoadRow _ _ _ _ _ _ rfl rfl (sO ot 5) ((hM6.get 1 rfl).on hbel) Tryd.underlying24 rfl (info_WideC _) (sE ap sz rfl)
  · intro A W sz ot hbel ap dp
    refine kCall0 16 _ rfl rfl (by kernel_rfl)  ?_
    refine (eBase_any W).mono ?_
    rintro e r ⟨rfl, hBc⟩
    exact ⟨_, rfl, (sV ap sz hBc rfl)⟩
  · exact fun A W sz ot hbel ap dp => sCall2 19 rfl (sD dp 0 .data) (sD dp 1 .data) (sC (eTimes_q mk gPt_on Hq.out W) ap sz (fun _ => rfl))
  · exact fun A W sz ot hbel ap dp => kFieldX _ q xq (Hxq.out) rfl rfl (sD dp 2 .data) (sE ap sz rfl)
  · intro A W sz ot hbel ap dp
    refine kCall2 37 _ _ _ _ _ rfl rfl (by kernel_rfl) (sD dp 3 .data) rfl ?_
    refine (rOf_as hm hP mxq Hr.out W).mono ?_
    rintro e r ⟨xx, rfl, hNx, hBc⟩
    exact ⟨_, rfl, (sV ap sz hBc hNx)⟩
  · intro A W sz ot hbel ap dp
    have hN := (sD dp 4 .data)
    exact kAssignV _ (A.tmps.getD 24 undef) rfl rfl rfl (sE ap sz hN)
  intro w7 hB7
  dsimp only [AllV]
  intro x7_24 hN7_24
  intro x7_8 hN7_8
  intro hap
  dsimp only [putAll, List.take, List.drop]
  go_frame
  have hM7 := hM6.on hB7
  clear hB7 hM6 hap
  have hM8 := mm_nil w7
  go_wp2_with fail
  refine region_symT 8 _ [] [] [.val (.agg (bcells f)), .prop (fun w v => NumT w v (zm)) (fun _ _ _ hb h => h.below hb), .val (x7_8), .val (.agg (wcells a)), .prop (fun w v => Num w v (a) 16) (fun _ _ _ hb h => h.below hb), .prop (fun w v => NumT w v (v30)) (fun _ _ _ hb h => h.below hb), .prop (fun w v => NumT w v (v31)) (fun _ _ _ hb h => h.below hb), .prop (fun w v => NumT w v (v31)) (fun _ _ _ hb h => h.below hb)] rfl (by kernel_rfl) (by kernel_rfl) (by kernel_rfl) (by kernel_rfl) rfl (by intro s hs; cases hs) (steps_all ⟨?_, ?_, ?_, ?_, ?_, ?_, ?_, ?_, trivial⟩) ?_
  · exact fun A W sz ot hbel ap dp => kLoadRow _ _ _ _ _ _ rfl rfl (sO ot 4) (((hM7.get 2 rfl).on hM8.below).on hbel) Tryd.underlying40 rfl (info_HashC _) (sE ap sz rfl)
  · intro A W sz ot hbel ap dp
    refine kCall1 39 _ _ _ rfl rfl (by kernel_rfl) (sD dp 0 .data) ?_
    refine (gNumber_as hm hP hf Hz.out Hzm.out W).mono ?_
    rintro e r ⟨xx, rfl, hNx, hBc⟩
    exact ⟨_, rfl, (sV ap sz hBc hNx)⟩
  · exact fun A W sz ot hbel ap dp => kMoveV _ _ rfl rfl (sO ot 8) (sE ap sz rfl)
  · exact fun A W sz ot hbel ap dp => kLoadRow _ _ _ _ _ _ rfl rfl (sO ot 3) (((hM7.get 3 rfl).on hM8.below).on hbel) Tryd.underlying24 rfl (info_WideC _) (sE ap sz rfl)
  · intro A W sz ot hbel ap dp
    refine kCall1 41 _ _ _ rfl rfl (by kernel_rfl) (sD dp 3 .data) ?_
    refine (dOf_num a ma W).mono ?_
    rintro e r ⟨xx, rfl, hNx, hBc⟩
    exact ⟨_, rfl, (sV ap sz hBc hNx)⟩
  · intro A W sz ot hbel ap dp
    have hN29 := (show Num W (A.tmps.getD 29 undef) (a) 16 from (sD dp 4 .data))
    refine kCall3 40 _ _ _ _ _ _ _ rfl rfl (by kernel_rfl) (sD dp 2 .data) (rfl : A.eval (Operand.tmp 29) = A.tmps.getD 29 undef) rfl ?_
    refine (rMul_as hm hP (((hN7_8.below hM8.below).below hbel).n16 mr) hN29 Hv30.out).mono ?_
    rintro e r ⟨xx, rfl, hNx, hBc⟩
    exact ⟨_, rfl, (sV ap sz hBc hNx)⟩
  · intro A W sz ot hbel ap dp
    have hN26 := (show NumT W (A.tmps.getD 26 undef) (zm) from (sD dp 1 .data))
    have hN30 := (show NumT W (A.tmps.getD 30 undef) (v30) from (sD dp 5 .data))
    refine kCall3 38 _ _ _ _ _ _ _ rfl rfl (by kernel_rfl) (rfl : A.eval (Operand.tmp 26) = A.tmps.getD 26 undef) (rfl : A.eval (Operand.tmp 30) = A.tmps.getD 30 undef) rfl ?_
    refine (rAdd_as hm hP (hN26.n16 mzm) (hN30.n16 mv30) Hv31.out).mono ?_
    rintro e r ⟨xx, rfl, hNx, hBc⟩
    exact ⟨_, rfl, (sV ap sz hBc hNx)⟩
  · intro A W sz ot hbel ap dp
    have hN := (sD dp 6 .data)
    exact kAssignV _ (A.tmps.getD 31 undef) rfl rfl rfl (sE ap sz hN)
  intro w9 hB9
  dsimp only [AllV]
  intro x9_26 hN9_26
  intro x9_29 hN9_29
  intro x9_30 hN9_30
  intro x9_31 hN9_31
  intro x9_9 hN9_9
  intro hap
  dsimp only [putAll, List.take, List.drop]
  go_frame
  have hM9 := hM8.on hB9
  clear hB9 hM8 hap
  have hM10 := mm_nil w9
  go_wp2_with (first
    | ((with_reducible change wpList _ _ _ (Oper.mk (some 33) _ _ _ _ _ :: _) _ _); refine kLoadRow _ _ _ _ _ _ rfl rfl rfl (((hM7.get 1 rfl).on hM9.below).on hM10.below) Tryd.underlying24 rfl (info_WideC _) ?_; go_frame)
    | (go_at_call 41; (with_reducible change Calls _ _ #[Value.agg (wcells k)] _ _); refine (dOf_num k mk _).mono ?_; rintro e w11 ⟨x11, rfl, hN11, hB11⟩; have hM11 := hM10.on hB11; clear hB11 hM10; have hM12 := mm_nil w11; go_frame)
    | (go_at_call 42; (with_reducible change Calls _ _ #[x11, Value.bool false] _ _); refine (rInv_as hm hP (hN11.below hM12.below) Hv35.out).mono ?_; rintro e w13 ⟨x13, rfl, hN13, hB13⟩; have hM13 := hM12.on hB13; clear hB13 hM12; have hM14 := mm_nil w13; go_frame)
    | (go_at_call 40; (with_reducible change Calls _ _ #[x9_9, x13, Value.bool false] _ _); refine (rMul_as hm hP ((((hN9_9.below hM11.below).below hM13.below).below hM14.below).n16 mv31) ((hN13.below hM14.below).n16 mv35) (sg_same2 Hm.out Hr2.out Hs0.out Hzm.out Hv30.out Hv31.out Hv35.out)).mono ?_; rintro e w15 ⟨x15, rfl, hN15, hB15⟩; have hM15 := hM14.on hB15; clear hB15 hM14; have hM16 := mm_nil w15; go_frame)
    | (go_at_call 43; (with_reducible change Calls _ _ #[x15] _ _); refine (gHigh_as Hm.out hP ((hN15.below hM16.below).n16 ms0) hb.out).mono ?_; rintro e w17 ⟨rfl, hB17⟩; have hM17 := hM16.on hB17; clear hB17 hM16; (try unfold WV); go_frame)
    | ((with_reducible change wpList _ _ _ (Oper.mk (some 43) _ _ _ _ _ :: _) _ _); refine kLenT _ r false _ rfl rfl rfl (((((hN7_8.below hM9.below).below hM11.below).below hM13.below).below hM15.below).below hM17.below) (F0.out) ?_; intro L43 hL43; go_frame)
    | ((with_reducible change wpList _ _ _ (Oper.mk (some 44) _ _ _ _ _ :: _) _ _); refine kEqlI _ _ _ _ .i64 (L43) (0) false rfl rfl rfl rfl (hL43.out) ?_; go_frame)
    | ((with_reducible change wpList _ _ _ (Oper.mk (some 47) _ _ _ _ _ :: _) _ _); refine kLenT _ s0 false _ rfl rfl rfl (hN15.below hM17.below) (F1.out) ?_; intro L47 hL47; go_frame)
    | ((with_reducible change wpList _ _ _ (Oper.mk (some 48) _ _ _ _ _ :: _) _ _); refine kEqlI _ _ _ _ .i64 (L47) (0) false rfl rfl rfl rfl (hL47.out) ?_; go_frame)
    | (go_at_call 9; (with_reducible change Calls _ _ #[x7_8] _ _); refine (dWide_numT (((((hN7_8.below hM9.below).below hM11.below).below hM13.below).below hM15.below).below hM17.below)).mono ?_; rintro e w18 ⟨rfl, hB18⟩; have hM18 := hM17.on hB18; clear hB18 hM17; (try unfold WV); go_frame)
    | (go_at_call 9; (with_reducible change Calls _ _ #[x15] _ _); refine (dWide_numT (hN15.below hM18.below)).mono ?_; rintro e w19 ⟨rfl, hB19⟩; have hM19 := hM18.on hB19; clear hB19 hM18; (try unfold WV); go_frame)
    | ((with_reducible change wpList _ _ _ (Oper.mk (some 55) _ _ _ _ _ :: _) _ _); refine kBuildSig2 _ _ r s0 rfl rfl rfl rfl ?_; go_frame)
    | ((with_reducible change wpList _ _ _ (Oper.mk none (Op.store _ (Operand.tmp 6) (Operand.tmp 55)) _ _ _ _ :: _) _ _); have hJ := (Mm.join (Mm.join (Mm.join (Mm.join (Mm.join hM7 hM9) hM11) hM13) hM15) hM19); dsimp only [List.append, List.cons_append, List.nil_append] at hJ; refine mmStoreAt hJ 0 _ _ _ _ _ _ (wcells2 r s0) rfl rfl rfl rfl rfl (info_SigC _ _) rfl (wcells2_one _ _) ?_; intro w20 hM20; dsimp only [List.set] at hM20; clear hJ; go_frame))
  exact result_row_tmp Tryd.results17 rfl rfl (hM20.get 0 rfl) Tryd.underlying35 rfl (info_SigC _ _) rfl ⟨rfl, hM20.below⟩
theorem gSign_some {a k r s : Nat} {f : Nat → Nat} {z : Nat} (hf : ∀ i, f i < 256) (hz : zOf f = z) (h : signOf a z k = some (r, s)) (w : World) : Calls Tryd.prog 17 #[WV a, .agg (bcells f), WV k] w fun e w' => e = .returned (.tuple #[.agg (wcells2 r s), .int .i64 0]) ∧ Below w.heap.size w w' := by
  obtain ⟨ha, hk, hr, hs, r0, s0⟩ := signOf_some h
  unfold sgS at hs
  cases hb : isHi (sgS0 a z k) with
  | true => rw [hb, if_pos rfl] at hs; exact gSign_t_ok hf hz ha hk hr rfl hb hs r0 s0 w
  | false => rw [hb, if_neg (by decide)] at hs; exact gSign_f_ok hf hz ha hk hr rfl hb hs r0 s0 w
theorem gSign_none {a k : Nat} (ma : a < M256) (mk : k < M256) {f : Nat → Nat} {z : Nat} (hf : ∀ i, f i < 256) (hz : zOf f = z) (h : signOf a z k = none) (w : World) : Calls Tryd.prog 17 #[WV a, .agg (bcells f), WV k] w fun e w' => e = .returned (.tuple #[.agg (wcells2 0 0), .int .i64 51]) ∧ Below w.heap.size w w' := by
  cases ha : isSec a with
  | false => exact gSign_no0 ma ha w
  | true =>
    cases hk : isSec k with
    | false => exact gSign_no1 ma mk ha hk w
    | true =>
      unfold signOf at h
      rw [ha, hk, if_pos (by decide)] at h
      have h : sgR k = 0 ∨ sgS a z k = 0 := by
        by_cases e : sgR k = 0 ∨ sgS a z k = 0
        · exact e
        · rw [if_neg e] at h; cases h
      unfold sgS at h
      by_cases r0 : sgR k = 0
      · cases hb : isHi (sgS0 a z k) with
        | true => exact gSign_t_r hf hz ha hk rfl rfl hb rfl r0 w
        | false => exact gSign_f_r hf hz ha hk rfl rfl hb r0 w
      · have h := h.resolve_left r0
        cases hb : isHi (sgS0 a z k) with
        | true => rw [hb, if_pos rfl] at h; exact gSign_t_s hf hz ha hk rfl rfl hb rfl r0 h w
        | false => rw [hb, if_neg (by decide)] at h; exact gSign_f_s hf hz ha hk rfl rfl hb rfl r0 h w
end Go.Proofs.YtfgffjmpjoipeaaDoor
