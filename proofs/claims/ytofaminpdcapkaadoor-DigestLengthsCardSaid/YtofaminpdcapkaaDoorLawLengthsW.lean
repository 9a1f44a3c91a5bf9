/-
  The walk of the statement DigestLengths.
-/
import Derived.Test.YtofaminpdcapkaaDoorLawShortsW
import Derived.Test.YtofaminpdcapkaaDoorKit5
namespace Go.Proofs.YtofaminpdcapkaaDoor
open Go Go.RowKit

theorem mixAddStr {P : Program} {ops : Array Oper} {S : World → Prop} {Q : Exit → Act → World → Prop} {L : Act → World → Prop} {bs : List Bool} {o : Oper} {rest : List Oper} {a : Act} {w : World} (T T2 : TypeId) (x y : Operand) (l m : List UInt8) (hS : S w) (ho : o.op = .binOp .add T x y T2) (hg : Region.wanted o (yielded ops a.tmps) = true) (hx : a.eval x = textV l) (hy : a.eval y = textV m) (hl : (l.length : Int) ≤ 8388608) (hm : (m.length : Int) ≤ 8388608)
    (h : wpMix P ops Q S L bs rest (a.put o.dst (textV (l ++ m))) w) : wpMix P ops Q S L (true :: bs) (o :: rest) a w := by
  refine mixQuiet _ hS hg (fun w _ => ?_) h
  unfold execOp
  have hs : (do eqGuard .add T x y (textV l) (textV m); binOp .add T (textV l) (textV m) : Sem Value).run P w = .ok (textV (l ++ m)) w := by
    unfold textV
    simp only [eqGuard, binOp_string_add]
    first | exact run_string_add_lists w l m hl hm | simp [run_string_add_lists w l m hl hm]
  simp only [ho, hx, hy]
  rw [Sem.run_bind, hs]; rfl

section
variable {P : Program} {ops : Array Oper} {Q : Exit → Act → World → Prop} {rest : List Oper} {o : Oper} {a : Act} {w : World}
theorem kPick (c x y : Operand) (b : Bool) (v : Value) (ho : o.op = .pick c x y) (hg : Region.wanted o (yielded ops a.tmps) = true) (hc : a.eval c = .bool b) (hv : (if b = true then a.eval x else a.eval y) = v)
    (h : wpList P ops Q rest (a.put o.dst v) w) : wpList P ops Q (o :: rest) a w := by
  subst hv
  refine kPure _ hg ?_ h
  unfold execOp
  simp only [ho, hc, asBool, Sem.run_bind, Sem.run_pure, Result.andThen_ok]
theorem kMin2 (T : TypeId) (x y : Operand) (k k' : IntKind) (b c m : Int) (ho : o.op = .call { callee := .builtin .min, args := #[x, y], argTypes := #[T, T] }) (hg : Region.wanted o (yielded ops a.tmps) = true) (hx : a.eval x = .int k b) (hy : a.eval y = .int k' c) (hm : (if c < b then c else b) = m)
    (h : wpList P ops Q rest (a.put o.dst (.int k m)) w) : wpList P ops Q (o :: rest) a w := by
  subst hm
  exact kPure _ hg (by simp [execOp, ho, resolve, invoke, builtin, hx, hy, run_min_int2]) h
theorem kMax2 (T : TypeId) (x y : Operand) (k k' : IntKind) (b c m : Int) (ho : o.op = .call { callee := .builtin .max, args := #[x, y], argTypes := #[T, T] }) (hg : Region.wanted o (yielded ops a.tmps) = true) (hx : a.eval x = .int k b) (hy : a.eval y = .int k' c) (hm : (if c > b then c else b) = m)
    (h : wpList P ops Q rest (a.put o.dst (.int k m)) w) : wpList P ops Q (o :: rest) a w := by
  subst hm
  exact kPure _ hg (by simp [execOp, ho, resolve, invoke, builtin, hx, hy, run_max_int2]) h
end
theorem arr_tab (t : Array Value) (n : Nat) (h : t.size = n) : t = tab n fun i => t.getD i undef := by
  apply Array.ext_getElem?
  intro j
  by_cases hj : j < n
  · rw [tab_get _ _ _ hj]; simp [show j < t.size by omega]
  · rw [Array.getElem?_eq_none (by omega), Array.getElem?_eq_none (by rw [tab_size]; omega)]

set_option maxRecDepth 100000 in
set_option maxHeartbeats 2000000 in
/-- at a place that is inside -/
theorem DigestLengths_at (B0 : List UInt8) (vb : Value) (at0 : Int) (m0 : Int) (k : Nat) (w : World) (hK : Keys w) (hb : IsVals w vb (B0.map VB)) (h1 : B0.length ≤ 1000) (hk : k ≤ B0.length) (hmin : (if (B0.length : Int) < at0 then (B0.length : Int) else at0) = m0) (hmax : (if m0 > 0 then m0 else 0) = (k : Int)) :
    Calls Tryd.prog 7 #[vb, .int .i64 at0] w fun e w' => e = .returned (.bool true) ∧ Below w.heap.size w w' := by
  obtain ⟨i, hi, hz, hs1, hby⟩ := byteInfo
  obtain ⟨ib, hib, hzb, hsb⟩ := bytesInfo
  have hd1 : decide ((B0.length : Int) > 1000) = false := by simp; omega
  go_enter Tryd.func7, Tryd.ntmps7
  go_wp2_with (first
    | (go_at_call 10; refine (alive_any _ hK).mono ?_; rintro e w1 ⟨rfl, hB1⟩; have hs1' := hB1.size)
    | ((with_reducible change wpList _ _ _ (Oper.mk (some 12) _ _ _ _ _ :: _) _ _); refine kLenN _ _ _ _ _ B0.length rfl rfl rfl (hb.below hB1) (by simp) Tryd.underlying25 ?_)
    | ((with_reducible change wpList _ _ _ (Oper.mk (some 16) _ _ _ _ _ :: _) _ _); refine kLenN _ _ _ _ _ B0.length rfl rfl rfl (hb.below hB1) (by simp) Tryd.underlying25 ?_)
    | ((with_reducible change wpList _ _ _ (Oper.mk (some 17) _ _ _ _ _ :: _) _ _); refine kMin2 _ _ _ _ _ _ _ m0 rfl rfl rfl rfl hmin ?_)
    | ((with_reducible change wpList _ _ _ (Oper.mk (some 18) _ _ _ _ _ :: _) _ _); refine kMax2 _ _ _ _ _ _ _ (k : Int) rfl rfl rfl rfl hmax ?_))
  clear hmin hmax hd1
  have hbk1 := hb.below hB1
  refine region_mixP [(0, true), (1, true), (2, true), (3, true), (4, true), (5, true), (6, true), (7, true), (8, true)] (fun w' => Below w1.heap.size w1 w') (by kernel_rfl) (by kernel_rfl) rfl ?_
  intro q0 hq0 _
  simp only [List.map_cons, List.map_nil, List.filterMap_cons, List.filterMap_nil, List.getElem?_cons_zero, List.getElem?_cons_succ, List.length_cons, List.length_nil, List.drop_succ_cons, List.drop_zero]
  refine mixMove _ vb hq0 rfl rfl rfl ?_; go_frame
  refine mixMove _ (.int .i64 (k : Int)) hq0 rfl rfl rfl ?_; go_frame
  refine mixSliceFrom _ _ _ _ vb (B0.map VB) _ _ k hq0 rfl rfl rfl rfl Tryd.underlying25 info_byte (fun _ h => hbk1.below h) rfl (by simp; omega) ?_; go_frame
  refine mixToString _ _ _ _ _ (B0.drop k) hq0 rfl rfl rfl (fun _ h => by rw [List.map_drop]; exact isVals_from (hbk1.below h) (by simp; omega)) Tryd.underlying25 Tryd.underlying5 Tryd.underlying9 ?_; go_frame
  refine mixMove _ vb hq0 rfl rfl rfl ?_; go_frame
  refine mixMove _ (.int .i64 (k : Int)) hq0 rfl rfl rfl ?_; go_frame
  refine mixSliceTo _ _ _ _ vb (B0.map VB) _ _ k hq0 rfl rfl rfl rfl Tryd.underlying25 info_byte (fun _ h => hbk1.below h) rfl (by simp; omega) ?_; go_frame
  refine mixToString _ _ _ _ _ (B0.take k) hq0 rfl rfl rfl (fun _ h => by rw [List.map_take]; exact isVals_to (hbk1.below h) (by simp; omega)) Tryd.underlying25 Tryd.underlying5 Tryd.underlying9 ?_; go_frame
  refine mixAddStr _ _ _ _ _ _ hq0 rfl rfl rfl rfl (by simp; omega) (by simp; omega) ?_; go_frame
  refine mixEnd ?_
  have hB0 := hB1.trans (hq0.mono hs1')
  have hs0 := hB0.size
  have hsw : (B0.drop k ++ B0.take k).length ≤ 1000 := by simp; omega
  generalize B0.drop k ++ B0.take k = sw at hsw ⊢
  clear hB1 hs1' hq0 hbk1
  have hl1 : (B0 ++ [0]).length ≤ 1001 := by simp; omega
  go_wp2_with (first
    | (go_at_call 12; (with_reducible change Calls _ _ #[vb] _ _); refine (rSum_any B0 _ _ (hb.below hB0) (by omega)).mono ?_; rintro e q1 ⟨rfl, hQ1⟩; have hB1 := hB0.trans (hQ1.mono hs0); have hs1' := hB1.size)
    | ((with_reducible change wpList _ _ _ (Oper.mk (some 30) _ _ _ _ _ :: _) _ _); refine kBuildSlice0 _ _ rfl rfl Tryd.underlying25 i hi ?_; intro q2 hP2 hz2 hQ2; clear hz2; have hO2 := own_empty (Nat.le_refl q1.heap.size) hP2; have hB2 := hB1.trans (hQ2.mono hs1'); have hs2 := hQ2.size)
    | ((with_reducible change wpList _ _ _ (Oper.mk (some 32) _ _ _ _ _ :: _) _ _); refine kAppend _ _ _ _ rfl rfl q1.heap.size i _ Tryd.underlying25 hi hz hs1 rfl _ _ [] (B0.map VB) rfl hO2 rfl (hb.below hB2) (vb_one B0) (by unfold maxLen; simp; omega) (by rw [hby]; simp; omega) hs2 ?_; intro v3 q3 hO3 hG3; have hQ3 := hQ2.trans (below_grown hO2 hG3 hs2); have hB3 := hB1.trans (hQ3.mono hs1'); have hs3 := hQ3.size)
    | ((with_reducible change wpList _ _ _ (Oper.mk (some 33) _ _ _ _ _ :: _) _ _); refine kBuildSlice1 _ _ _ (VB 0) rfl rfl Tryd.underlying25 i _ hi hz hs1 rfl rfl ?_; intro q4 hP4 hz4 hQ4; clear hz4; have hO4 := ownsRow_below hO3 hQ4; have hB4 := hB3.trans (hQ4.mono hB3.size); have hs4 := hQ4.size)
    | ((with_reducible change wpList _ _ _ (Oper.mk (some 34) _ _ _ _ _ :: _) _ _); refine kAppend _ _ _ _ rfl rfl q1.heap.size i _ Tryd.underlying25 hi hz hs1 rfl v3 _ ([] ++ B0.map VB) [VB 0] rfl hO4 rfl (isVals_lit hP4) (vb_one [_]) (by unfold maxLen; simp; omega) (by rw [hby]; simp; omega) (by omega) ?_; intro v5 q5 hO5 hG5; have hQ45 := below_grown hO4 hG5 (by omega); have hB5 := hB4.trans (hQ45.mono hs1'); have hs5 := hB5.size; rw [show ([] ++ B0.map VB) ++ [VB 0] = (B0 ++ [0]).map VB by simp] at hO5; have hV5 := isVals_own hO5)
    | (go_at_call 12; refine (rSum_any (B0 ++ [0]) v5 _ hV5 (by omega)).mono ?_; rintro e q6 ⟨rfl, hQ6⟩; have hB6 := hB5.trans (hQ6.mono hs5); have hs6 := hB6.size)
    | ((with_reducible change wpList _ _ _ (Oper.mk (some 7) _ _ _ _ _ :: _) _ _); refine kAlloc _ _ rfl rfl zero_Hash ?_; intro q7 hP7 hz7' hQ7; have hz7 : q6.heap.size + 1 ≤ q7.heap.size := (by omega); clear hz7')
    | ((with_reducible change wpList _ _ _ (Oper.mk (some 8) _ _ _ _ _ :: _) _ _); refine kAlloc _ _ rfl rfl zero_Hash ?_; intro q8 hP8 hz8' hQ8; have hz8 : q7.heap.size + 1 ≤ q8.heap.size := (by omega); clear hz8')
    | ((with_reducible change wpList _ _ _ (Oper.mk none (Op.store _ (Operand.tmp 7) _) _ _ _ _ :: _) _ _); refine kStoreRow _ _ _ _ _ _ _ rfl rfl rfl rfl (hP7.below hQ8 hP7.lt) (by rw [tab_size]; exact info_Hash) (by simp only [tab_size]) (tab_one _ _ fun _ _ => rfl) ?_; intro q9 hP9 hW9; have hz9 : q8.heap.size ≤ q9.heap.size := (by have := hW9.size; omega))
    | ((with_reducible change wpList _ _ _ (Oper.mk none (Op.store _ (Operand.tmp 8) _) _ _ _ _ :: _) _ _); refine kStoreRow _ _ _ _ _ _ _ rfl rfl rfl rfl (hW9.row hP8 (by omega)) (by rw [tab_size]; exact info_Hash) (by simp only [tab_size]) (tab_one _ _ fun _ _ => rfl) ?_; intro q10 hP10 hW10; have hB10 := (((hB6.trans (hQ7.mono hs6)).trans (hQ8.mono (by omega))).trans (hW9.below (by omega))).trans (hW10.below (by omega)); have hs10 := hB10.size; have hP710 := hW10.row hP9 (by omega)))
  clear hB0 hs0 hQ1 hB1 hs1' hP2 hQ2 hO2 hB2 hs2 hO3 hG3 hQ3 hB3 hs3 hP4 hQ4 hO4 hB4 hs4 hO5 hG5 hQ45 hB5 hs5 hV5 hQ6 hB6 hs6 hP7 hQ7 hz7 hP8 hQ8 hz8 hP9 hW9 hz9 hW10
  go_frame
  obtain ⟨e1, he1⟩ : ∃ e1, ((List.range 32).all fun j => B (at8 (sha B0) j) == B (at8 (sha (B0 ++ [0])) j)) = e1 := ⟨_, rfl⟩
  have hbq : IsVals q10 vb (B0.map VB) := hb.below hB10
  have hto := isVals_to (n := k) hbq (by simp; omega)
  have hfr := isVals_from (n := k) hbq (by simp; omega)
  rw [← List.map_take] at hto
  rw [← List.map_drop] at hfr
  refine region_inv (fun i w' v => match i with | 0 => v = vb | 1 => AreLists w' v [B0] | 2 => v = .agg (tab 32 fun p => VB (at8 (sha B0) p)) | 3 => v = vb | 4 => IsVals w' v (([0] : List UInt8).map VB) | 5 => AreLists w' v [B0, [0]] | 6 => v = .agg (tab 32 fun p => VB (at8 (sha (B0 ++ [0])) p)) | 7 => v = .bool e1 | 8 => v = .agg (tab 32 fun p => VB (at8 (sha B0) p)) | 9 => v = .agg (tab 32 fun p => VB (at8 (sha (B0 ++ [0])) p)) | 10 => v = .bool e1 | 11 => v = .bool false | 12 => v = .bool false | 13 => v = vb | 14 => v = .int .i64 (k : Int) | 15 => v = toV vb k | 16 => v = vb | 17 => v = .int .i64 (k : Int) | 18 => v = fromV vb k | 19 => AreLists w' v [B0.take k, B0.drop k] | 20 => v = .agg (tab 32 fun p => VB (at8 (sha B0) p)) | 21 => v = vb | 22 => AreLists w' v [B0] | 23 => v = .agg (tab 32 fun p => VB (at8 (sha B0) p)) | 24 => v = .bool false | 25 => v = .bool false | _ => True) (by kernel_rfl) (by kernel_rfl) ?mono (steps_all ⟨?_, ?_, ?_, ?_, ?_, ?_, ?_, ?_, ?_, ?_, ?_, ?_, ?_, ?_, ?_, ?_, ?_, ?_, ?_, ?_, ?_, ?_, ?_, ?_, ?_, ?_, trivial⟩) ?fin
  case mono =>
    intro i w w' v hbw h
    revert h
    split <;> intro h <;> first | exact h | exact AreLists.below h hbw | exact IsVals.below h hbw
  case fin =>
    intro a w2 hsz hdf hbel hoth hall
    obtain ⟨tm, df⟩ := a
    have htm := arr_tab tm 76 (hsz.trans rfl)
    obtain ⟨f, hf⟩ : ∃ f : Nat → Value, ∀ s, tm.getD s undef = f s := ⟨fun s => tm.getD s undef, fun _ => rfl⟩
    simp only [hf] at htm
    have e0 : f 0 = vb := (hf 0).symm.trans ((hoth 0 (free_of (by kernel_rfl))).trans rfl)
    have e4 : f 4 = .bool false := (hf 4).symm.trans ((hoth 4 (free_of (by kernel_rfl))).trans rfl)
    have e6 : f 6 = textV sw := (hf 6).symm.trans ((hoth 6 (free_of (by kernel_rfl))).trans rfl)
    have e7 : f 7 = .pointer (some ⟨q6.heap.size, 0, none⟩) := (hf 7).symm.trans ((hoth 7 (free_of (by kernel_rfl))).trans rfl)
    have e61 : f 61 = .bool false := (hf 61).symm.trans (by have h := hall 25 (by decide); exact h)
    have hdf' : df = [] := hdf
    have elit : tab 76 f = (f 0 :: f 1 :: f 2 :: f 3 :: f 4 :: f 5 :: f 6 :: f 7 :: f 8 :: f 9 :: f 10 :: f 11 :: f 12 :: f 13 :: f 14 :: f 15 :: f 16 :: f 17 :: f 18 :: f 19 :: f 20 :: f 21 :: f 22 :: f 23 :: f 24 :: f 25 :: f 26 :: f 27 :: f 28 :: f 29 :: f 30 :: f 31 :: f 32 :: f 33 :: f 34 :: f 35 :: f 36 :: f 37 :: f 38 :: f 39 :: f 40 :: f 41 :: f 42 :: f 43 :: f 44 :: f 45 :: f 46 :: f 47 :: f 48 :: f 49 :: f 50 :: f 51 :: f 52 :: f 53 :: f 54 :: f 55 :: f 56 :: f 57 :: f 58 :: f 59 :: f 60 :: f 61 :: f 62 :: f 63 :: f 64 :: f 65 :: f 66 :: f 67 :: f 68 :: f 69 :: f 70 :: f 71 :: f 72 :: f 73 :: f 74 :: f 75 :: ([] : List Value)).toArray := rfl
    rw [e0, e4, e6, e7, e61] at elit
    rw [elit] at htm
    subst htm
    subst hdf'
    clear hsz hdf hoth hall hf e0 e4 e6 e7 e61 elit
    have hB2 := hB10.trans (hbel.mono hs10)
    have hs2 := hB2.size
    have hP72 := hP710.below hbel hP710.lt
    have hbk2 := hbq.below hbel
    clear hB10 hs10 hbel hP10 hP710 hbq hto hfr he1
    go_wp2_with fail
    obtain ⟨e2, he2⟩ : ∃ e2, ((List.range 32).all fun j => B (at8 (sha sw) j) == B (at8 (sha B0) j)) = e2 := ⟨_, rfl⟩
    refine region_inv (fun i w' v => match i with | 0 => v = textV sw | 1 => IsVals w' v (sw.map VB) | 2 => AreLists w' v [sw] | 3 => v = .agg (tab 32 fun p => VB (at8 (sha sw) p)) | 4 => v = vb | 5 => AreLists w' v [B0] | 6 => v = .agg (tab 32 fun p => VB (at8 (sha B0) p)) | 7 => v = .bool e2 | 8 => v = textV sw | 9 => IsVals w' v (sw.map VB) | 10 => v = .agg (tab 32 fun p => VB (at8 (sha sw) p)) | 11 => v = .agg (tab 32 fun p => VB (at8 (sha B0) p)) | 12 => v = .bool e2 | 13 => v = .bool true | 14 => v = .bool true | _ => True) (by kernel_rfl) (by kernel_rfl) ?mono (steps_all ⟨?_, ?_, ?_, ?_, ?_, ?_, ?_, ?_, ?_, ?_, ?_, ?_, ?_, ?_, ?_, trivial⟩) ?fin
    case mono =>
      intro i w w' v hbw h
      revert h
      split <;> intro h <;> first | exact h | exact AreLists.below h hbw | exact IsVals.below h hbw
    case fin =>
      intro a w3 hsz hdf hbel hoth hall
      obtain ⟨tm, df⟩ := a
      have htm := arr_tab tm 76 (hsz.trans rfl)
      obtain ⟨g, hg⟩ : ∃ g : Nat → Value, ∀ s, tm.getD s undef = g s := ⟨fun s => tm.getD s undef, fun _ => rfl⟩
      simp only [hg] at htm
      have e4 : g 4 = .bool true := (hg 4).symm.trans (by have h := hall 14 (by decide); exact h)
      have hdf' : df = [] := hdf
      have elit : tab 76 g = (g 0 :: g 1 :: g 2 :: g 3 :: g 4 :: g 5 :: g 6 :: g 7 :: g 8 :: g 9 :: g 10 :: g 11 :: g 12 :: g 13 :: g 14 :: g 15 :: g 16 :: g 17 :: g 18 :: g 19 :: g 20 :: g 21 :: g 22 :: g 23 :: g 24 :: g 25 :: g 26 :: g 27 :: g 28 :: g 29 :: g 30 :: g 31 :: g 32 :: g 33 :: g 34 :: g 35 :: g 36 :: g 37 :: g 38 :: g 39 :: g 40 :: g 41 :: g 42 :: g 43 :: g 44 :: g 45 :: g 46 :: g 47 :: g 48 :: g 49 :: g 50 :: g 51 :: g 52 :: g 53 :: g 54 :: g 55 :: g 56 :: g 57 :: g 58 :: g 59 :: g 60 :: g 61 :: g 62 :: g 63 :: g 64 :: g 65 :: g 66 :: g 67 :: g 68 :: g 69 :: g 70 :: g 71 :: g 72 :: g 73 :: g 74 :: g 75 :: ([] : List Value)).toArray := rfl
      rw [e4] at elit
      rw [elit] at htm
      subst htm
      subst hdf'
      have hB3 := hB2.trans (hbel.mono hs2)
      go_wp2
      go_ret
      exact ⟨rfl, hB3⟩
    · intro a w hsz hoth hbel hdep
      exact kMoveV _ (textV sw) rfl rfl ((hoth 6 (free_of (by kernel_rfl))).trans rfl) (mixOn ⟨_, rfl, Below.refl _ _, rfl⟩)
    · intro a w hsz hoth hbel hdep
      have d0 : (a.tmps.getD 62 undef) = textV sw := (by have h := hdep ⟨0, .data⟩ (by simp) rfl; exact h)
      exact kToBytes _ _ _ _ sw rfl rfl d0 Tryd.underlying9 Tryd.underlying25 Tryd.underlying5 (fun v r hB hv => mixOn ⟨_, rfl, hB, hv⟩)
    · intro a w hsz hoth hbel hdep
      have d1 : IsVals w (a.tmps.getD 63 undef) (sw.map VB) := (by have h := hdep ⟨1, .data⟩ (by simp) rfl; exact h)
      refine kBuildSlice1 _ _ _ _ rfl rfl Tryd.underlying34 ib _ hib hzb hsb rfl d1.one ?_
      intro r hR hz hB
      exact mixOn ⟨_, rfl, hB, areLists_one hR (d1.below hB)⟩
    · intro a w hsz hoth hbel hdep
      have d2 : AreLists w (a.tmps.getD 64 undef) [sw] := (by have h := hdep ⟨2, .data⟩ (by simp) rfl; exact h)
      refine kCall1 9 _ _ _ rfl rfl (by kernel_rfl) rfl ?_
      refine (Sum_any [sw] _ _ (hK.below (hB2.trans (hbel.mono hs2))) d2 (by simp) (by simp; omega)).mono ?_
      rintro e r ⟨rfl, hB⟩
      exact ⟨_, rfl, mixOn ⟨_, rfl, hB, congrArg (fun l => Value.agg (tab 32 fun p => VB (at8 (sha l) p))) (show [sw].flatten = sw by simp)⟩⟩
    · intro a w hsz hoth hbel hdep
      exact kMoveV _ vb rfl rfl ((hoth 0 (free_of (by kernel_rfl))).trans rfl) (mixOn ⟨_, rfl, Below.refl _ _, rfl⟩)
    · intro a w hsz hoth hbel hdep
      have d4 : (a.tmps.getD 66 undef) = vb := (by have h := hdep ⟨4, .data⟩ (by simp) rfl; exact h)
      refine kBuildSlice1 _ _ _ vb rfl rfl Tryd.underlying34 ib _ hib hzb hsb d4 hb.one ?_
      intro r hR hz hB
      exact mixOn ⟨_, rfl, hB, areLists_one hR ((hbk2.below hbel).below hB)⟩
    · intro a w hsz hoth hbel hdep
      have d5 : AreLists w (a.tmps.getD 67 undef) [B0] := (by have h := hdep ⟨5, .data⟩ (by simp) rfl; exact h)
      refine kCall1 9 _ _ _ rfl rfl (by kernel_rfl) rfl ?_
      refine (Sum_any [B0] _ _ (hK.below (hB2.trans (hbel.mono hs2))) d5 (by simp) (by simp; omega)).mono ?_
      rintro e r ⟨rfl, hB⟩
      exact ⟨_, rfl, mixOn ⟨_, rfl, hB, congrArg (fun l => Value.agg (tab 32 fun p => VB (at8 (sha l) p))) (show [B0].flatten = B0 by simp)⟩⟩
    · intro a w hsz hoth hbel hdep
      have d3 : (a.tmps.getD 65 undef) = .agg (tab 32 fun p => VB (at8 (sha sw) p)) := (by have h := hdep ⟨3, .data⟩ (by simp) rfl; exact h)
      have d6 : (a.tmps.getD 68 undef) = .agg (tab 32 fun p => VB (at8 (sha B0) p)) := (by have h := hdep ⟨6, .data⟩ (by simp) rfl; exact h)
      exact kEqlArr _ _ _ _ _ 32 .u8 _ (fun j => B (at8 (sha sw) j)) (fun j => B (at8 (sha B0) j)) e2 rfl rfl d3 d6 Tryd.underlying23 Tryd.underlying5 info_byte (by kernel_rfl) he2 (mixOn ⟨_, rfl, Below.refl _ _, rfl⟩)
    · intro a w hsz hoth hbel hdep
      exact kMoveV _ (textV sw) rfl rfl ((hoth 6 (free_of (by kernel_rfl))).trans rfl) (mixOn ⟨_, rfl, Below.refl _ _, rfl⟩)
    · intro a w hsz hoth hbel hdep
      have d8 : (a.tmps.getD 70 undef) = textV sw := (by have h := hdep ⟨8, .data⟩ (by simp) rfl; exact h)
      exact kToBytes _ _ _ _ sw rfl rfl d8 Tryd.underlying9 Tryd.underlying25 Tryd.underlying5 (fun v r hB hv => mixOn ⟨_, rfl, hB, hv⟩)
    · intro a w hsz hoth hbel hdep
      have d9 : IsVals w (a.tmps.getD 71 undef) (sw.map VB) := (by have h := hdep ⟨9, .data⟩ (by simp) rfl; exact h)
      refine kCall1 12 _ _ _ rfl rfl (by kernel_rfl) rfl ?_
      refine (rSum_any sw _ _ d9 (by omega)).mono ?_
      rintro e r ⟨rfl, hB⟩
      exact ⟨_, rfl, mixOn ⟨_, rfl, hB, rfl⟩⟩
    · intro a w hsz hoth hbel hdep
      exact kLoadRow _ _ _ q6.heap.size _ _ rfl rfl ((hoth 7 (free_of (by kernel_rfl))).trans rfl) (hP72.below hbel hP72.lt) Tryd.underlying23 rfl (by rw [tab_size]; exact info_Hash) (mixOn ⟨_, rfl, Below.refl _ _, rfl⟩)
    · intro a w hsz hoth hbel hdep
      have d10 : (a.tmps.getD 72 undef) = .agg (tab 32 fun p => VB (at8 (sha sw) p)) := (by have h := hdep ⟨10, .data⟩ (by simp) rfl; exact h)
      have d11 : (a.tmps.getD 73 undef) = .agg (tab 32 fun p => VB (at8 (sha B0) p)) := (by have h := hdep ⟨11, .data⟩ (by simp) rfl; exact h)
      exact kEqlArr _ _ _ _ _ 32 .u8 _ (fun j => B (at8 (sha sw) j)) (fun j => B (at8 (sha B0) j)) e2 rfl rfl d10 d11 Tryd.underlying23 Tryd.underlying5 info_byte (by kernel_rfl) he2 (mixOn ⟨_, rfl, Below.refl _ _, rfl⟩)
    · intro a w hsz hoth hbel hdep
      have d7 : (a.tmps.getD 69 undef) = .bool e2 := (by have h := hdep ⟨7, .data⟩ (by simp) rfl; exact h)
      have d12 : (a.tmps.getD 74 undef) = .bool e2 := (by have h := hdep ⟨12, .data⟩ (by simp) rfl; exact h)
      exact kEqlBool _ _ _ _ e2 e2 true rfl rfl d7 d12 Tryd.underlying4 (by cases e2 <;> rfl) (mixOn ⟨_, rfl, Below.refl _ _, rfl⟩)
    · intro a w hsz hoth hbel hdep
      have d13 : (a.tmps.getD 75 undef) = .bool true := (by have h := hdep ⟨13, .data⟩ (by simp) rfl; exact h)
      exact kAssignV _ (.bool true) rfl rfl d13 (mixOn ⟨_, rfl, Below.refl _ _, rfl⟩)
  · intro a w hsz hoth hbel hdep
    exact kMoveV _ vb rfl rfl ((hoth 0 (free_of (by kernel_rfl))).trans rfl) (mixOn ⟨_, rfl, Below.refl _ _, rfl⟩)
  · intro a w hsz hoth hbel hdep
    have d0 : (a.tmps.getD 36 undef) = vb := (by have h := hdep ⟨0, .data⟩ (by simp) rfl; exact h)
    refine kBuildSlice1 _ _ _ vb rfl rfl Tryd.underlying34 ib _ hib hzb hsb d0 hb.one ?_
    intro r hR hz hB
    exact mixOn ⟨_, rfl, hB, areLists_one hR ((hbq.below hbel).below hB)⟩
  · intro a w hsz hoth hbel hdep
    have d1 : AreLists w (a.tmps.getD 37 undef) [B0] := (by have h := hdep ⟨1, .data⟩ (by simp) rfl; exact h)
    refine kCall1 9 _ _ _ rfl rfl (by kernel_rfl) rfl ?_
    refine (Sum_any [B0] _ _ (hK.below (hB10.trans (hbel.mono hs10))) d1 (by simp) (by simp; omega)).mono ?_
    rintro e r ⟨rfl, hB⟩
    exact ⟨_, rfl, mixOn ⟨_, rfl, hB, congrArg (fun l => Value.agg (tab 32 fun p => VB (at8 (sha l) p))) (show [B0].flatten = B0 by simp)⟩⟩
  · intro a w hsz hoth hbel hdep
    exact kMoveV _ vb rfl rfl ((hoth 0 (free_of (by kernel_rfl))).trans rfl) (mixOn ⟨_, rfl, Below.refl _ _, rfl⟩)
  · intro a w hsz hoth hbel hdep
    refine kBuildSlice1 _ _ _ (VB 0) rfl rfl Tryd.underlying25 i _ hi hz hs1 rfl rfl ?_
    intro r hR hz hB
    exact mixOn ⟨_, rfl, hB, isVals_lit (l := [VB 0]) hR⟩
  · intro a w hsz hoth hbel hdep
    have d3 : (a.tmps.getD 39 undef) = vb := (by have h := hdep ⟨3, .data⟩ (by simp) rfl; exact h)
    have d4 : IsVals w (a.tmps.getD 40 undef) (([0] : List UInt8).map VB) := (by have h := hdep ⟨4, .data⟩ (by simp) rfl; exact h)
    refine kBuildSlice2 _ _ _ _ vb _ rfl rfl Tryd.underlying34 ib _ hib hzb hsb d3 hb.one rfl d4.one ?_
    intro r hR hz hB
    exact mixOn ⟨_, rfl, hB, areLists_two hR ((hbq.below hbel).below hB) (d4.below hB)⟩
  · intro a w hsz hoth hbel hdep
    have d5 : AreLists w (a.tmps.getD 41 undef) [B0, [0]] := (by have h := hdep ⟨5, .data⟩ (by simp) rfl; exact h)
    refine kCall1 9 _ _ _ rfl rfl (by kernel_rfl) rfl ?_
    refine (Sum_any [B0, [0]] _ _ (hK.below (hB10.trans (hbel.mono hs10))) d5 (by simp) (by simp; omega)).mono ?_
    rintro e r ⟨rfl, hB⟩
    exact ⟨_, rfl, mixOn ⟨_, rfl, hB, congrArg (fun l => Value.agg (tab 32 fun p => VB (at8 (sha l) p))) (show [B0, [0]].flatten = B0 ++ [0] by simp)⟩⟩
  · intro a w hsz hoth hbel hdep
    have d2 : (a.tmps.getD 38 undef) = .agg (tab 32 fun p => VB (at8 (sha B0) p)) := (by have h := hdep ⟨2, .data⟩ (by simp) rfl; exact h)
    have d6 : (a.tmps.getD 42 undef) = .agg (tab 32 fun p => VB (at8 (sha (B0 ++ [0])) p)) := (by have h := hdep ⟨6, .data⟩ (by simp) rfl; exact h)
    exact kEqlArr _ _ _ _ _ 32 .u8 _ (fun j => B (at8 (sha B0) j)) (fun j => B (at8 (sha (B0 ++ [0])) j)) e1 rfl rfl d2 d6 Tryd.underlying23 Tryd.underlying5 info_byte (by kernel_rfl) he1 (mixOn ⟨_, rfl, Below.refl _ _, rfl⟩)
  · intro a w hsz hoth hbel hdep
    exact kLoadRow _ _ _ q6.heap.size _ _ rfl rfl ((hoth 7 (free_of (by kernel_rfl))).trans rfl) (hP710.below hbel hP710.lt) Tryd.underlying23 rfl (by rw [tab_size]; exact info_Hash) (mixOn ⟨_, rfl, Below.refl _ _, rfl⟩)
  · intro a w hsz hoth hbel hdep
    exact kLoadRow _ _ _ q7.heap.size _ _ rfl rfl ((hoth 8 (free_of (by kernel_rfl))).trans rfl) (hP10.below hbel hP10.lt) Tryd.underlying23 rfl (by rw [tab_size]; exact info_Hash) (mixOn ⟨_, rfl, Below.refl _ _, rfl⟩)
  · intro a w hsz hoth hbel hdep
    have d8 : (a.tmps.getD 44 undef) = .agg (tab 32 fun p => VB (at8 (sha B0) p)) := (by have h := hdep ⟨8, .data⟩ (by simp) rfl; exact h)
    have d9 : (a.tmps.getD 45 undef) = .agg (tab 32 fun p => VB (at8 (sha (B0 ++ [0])) p)) := (by have h := hdep ⟨9, .data⟩ (by simp) rfl; exact h)
    exact kEqlArr _ _ _ _ _ 32 .u8 _ (fun j => B (at8 (sha B0) j)) (fun j => B (at8 (sha (B0 ++ [0])) j)) e1 rfl rfl d8 d9 Tryd.underlying23 Tryd.underlying5 info_byte (by kernel_rfl) he1 (mixOn ⟨_, rfl, Below.refl _ _, rfl⟩)
  · intro a w hsz hoth hbel hdep
    have d7 : (a.tmps.getD 43 undef) = .bool e1 := (by have h := hdep ⟨7, .data⟩ (by simp) rfl; exact h)
    have d10 : (a.tmps.getD 46 undef) = .bool e1 := (by have h := hdep ⟨10, .data⟩ (by simp) rfl; exact h)
    exact kNeqBool _ _ _ _ e1 e1 false rfl rfl d7 d10 Tryd.underlying4 (by cases e1 <;> rfl) (mixOn ⟨_, rfl, Below.refl _ _, rfl⟩)
  · intro a w hsz hoth hbel hdep
    have d11 : (a.tmps.getD 47 undef) = .bool false := (by have h := hdep ⟨11, .data⟩ (by simp) rfl; exact h)
    exact kMoveV _ (.bool false) rfl rfl d11 (mixOn ⟨_, rfl, Below.refl _ _, rfl⟩)
  · intro a w hsz hoth hbel hdep
    have d12 : (a.tmps.getD 48 undef) = .bool false := (by have h := hdep ⟨12, .guard⟩ (by simp) rfl; exact h)
    exact kMoveV _ vb rfl (wanted_of (g := 12) (b := false) (d := 48) rfl rfl d12) ((hoth 0 (free_of (by kernel_rfl))).trans rfl) (mixOn ⟨_, rfl, Below.refl _ _, rfl⟩)
  · intro a w hsz hoth hbel hdep
    have d12 : (a.tmps.getD 48 undef) = .bool false := (by have h := hdep ⟨12, .guard⟩ (by simp) rfl; exact h)
    exact kMoveV _ (.int .i64 (k : Int)) rfl (wanted_of (g := 12) (b := false) (d := 48) rfl rfl d12) ((hoth 5 (free_of (by kernel_rfl))).trans rfl) (mixOn ⟨_, rfl, Below.refl _ _, rfl⟩)
  · intro a w hsz hoth hbel hdep
    have d12 : (a.tmps.getD 48 undef) = .bool false := (by have h := hdep ⟨12, .guard⟩ (by simp) rfl; exact h)
    have d13 : (a.tmps.getD 49 undef) = vb := (by have h := hdep ⟨13, .data⟩ (by simp) rfl; exact h)
    have d14 : (a.tmps.getD 50 undef) = .int .i64 (k : Int) := (by have h := hdep ⟨14, .data⟩ (by simp) rfl; exact h)
    exact kSliceToV _ _ _ _ vb (B0.map VB) _ _ k rfl (wanted_of (g := 12) (b := false) (d := 48) rfl rfl d12) d13 d14 Tryd.underlying25 info_byte (hbq.below hbel) rfl (by simp; omega) (mixOn ⟨_, rfl, Below.refl _ _, rfl⟩)
  · intro a w hsz hoth hbel hdep
    have d12 : (a.tmps.getD 48 undef) = .bool false := (by have h := hdep ⟨12, .guard⟩ (by simp) rfl; exact h)
    exact kMoveV _ vb rfl (wanted_of (g := 12) (b := false) (d := 48) rfl rfl d12) ((hoth 0 (free_of (by kernel_rfl))).trans rfl) (mixOn ⟨_, rfl, Below.refl _ _, rfl⟩)
  · intro a w hsz hoth hbel hdep
    have d12 : (a.tmps.getD 48 undef) = .bool false := (by have h := hdep ⟨12, .guard⟩ (by simp) rfl; exact h)
    exact kMoveV _ (.int .i64 (k : Int)) rfl (wanted_of (g := 12) (b := false) (d := 48) rfl rfl d12) ((hoth 5 (free_of (by kernel_rfl))).trans rfl) (mixOn ⟨_, rfl, Below.refl _ _, rfl⟩)
  · intro a w hsz hoth hbel hdep
    have d12 : (a.tmps.getD 48 undef) = .bool false := (by have h := hdep ⟨12, .guard⟩ (by simp) rfl; exact h)
    have d16 : (a.tmps.getD 52 undef) = vb := (by have h := hdep ⟨16, .data⟩ (by simp) rfl; exact h)
    have d17 : (a.tmps.getD 53 undef) = .int .i64 (k : Int) := (by have h := hdep ⟨17, .data⟩ (by simp) rfl; exact h)
    exact kSliceFromV _ _ _ _ vb (B0.map VB) _ _ k rfl (wanted_of (g := 12) (b := false) (d := 48) rfl rfl d12) d16 d17 Tryd.underlying25 info_byte (hbq.below hbel) rfl (by simp; omega) (mixOn ⟨_, rfl, Below.refl _ _, rfl⟩)
  · intro a w hsz hoth hbel hdep
    have d12 : (a.tmps.getD 48 undef) = .bool false := (by have h := hdep ⟨12, .guard⟩ (by simp) rfl; exact h)
    have d15 : (a.tmps.getD 51 undef) = toV vb k := (by have h := hdep ⟨15, .data⟩ (by simp) rfl; exact h)
    have d18 : (a.tmps.getD 54 undef) = fromV vb k := (by have h := hdep ⟨18, .data⟩ (by simp) rfl; exact h)
    refine kBuildSlice2 _ _ _ _ (toV vb k) (fromV vb k) rfl (wanted_of (g := 12) (b := false) (d := 48) rfl rfl d12) Tryd.underlying34 ib _ hib hzb hsb d15 hto.one d18 hfr.one ?_
    intro r hR hz hB
    exact mixOn ⟨_, rfl, hB, areLists_two hR ((hto.below hbel).below hB) ((hfr.below hbel).below hB)⟩
  · intro a w hsz hoth hbel hdep
    have d12 : (a.tmps.getD 48 undef) = .bool false := (by have h := hdep ⟨12, .guard⟩ (by simp) rfl; exact h)
    have d19 : AreLists w (a.tmps.getD 55 undef) [B0.take k, B0.drop k] := (by have h := hdep ⟨19, .data⟩ (by simp) rfl; exact h)
    refine kCall1 9 _ _ _ rfl (wanted_of (g := 12) (b := false) (d := 48) rfl rfl d12) (by kernel_rfl) rfl ?_
    refine (Sum_any [B0.take k, B0.drop k] _ _ (hK.below (hB10.trans (hbel.mono hs10))) d19 (by simp) (by simp; omega)).mono ?_
    rintro e r ⟨rfl, hB⟩
    exact ⟨_, rfl, mixOn ⟨_, rfl, hB, congrArg (fun l => Value.agg (tab 32 fun p => VB (at8 (sha l) p))) (show [B0.take k, B0.drop k].flatten = B0 by simp)⟩⟩
  · intro a w hsz hoth hbel hdep
    have d12 : (a.tmps.getD 48 undef) = .bool false := (by have h := hdep ⟨12, .guard⟩ (by simp) rfl; exact h)
    exact kMoveV _ vb rfl (wanted_of (g := 12) (b := false) (d := 48) rfl rfl d12) ((hoth 0 (free_of (by kernel_rfl))).trans rfl) (mixOn ⟨_, rfl, Below.refl _ _, rfl⟩)
  · intro a w hsz hoth hbel hdep
    have d12 : (a.tmps.getD 48 undef) = .bool false := (by have h := hdep ⟨12, .guard⟩ (by simp) rfl; exact h)
    have d21 : (a.tmps.getD 57 undef) = vb := (by have h := hdep ⟨21, .data⟩ (by simp) rfl; exact h)
    refine kBuildSlice1 _ _ _ vb rfl (wanted_of (g := 12) (b := false) (d := 48) rfl rfl d12) Tryd.underlying34 ib _ hib hzb hsb d21 hb.one ?_
    intro r hR hz hB
    exact mixOn ⟨_, rfl, hB, areLists_one hR ((hbq.below hbel).below hB)⟩
  · intro a w hsz hoth hbel hdep
    have d12 : (a.tmps.getD 48 undef) = .bool false := (by have h := hdep ⟨12, .guard⟩ (by simp) rfl; exact h)
    have d22 : AreLists w (a.tmps.getD 58 undef) [B0] := (by have h := hdep ⟨22, .data⟩ (by simp) rfl; exact h)
    refine kCall1 9 _ _ _ rfl (wanted_of (g := 12) (b := false) (d := 48) rfl rfl d12) (by kernel_rfl) rfl ?_
    refine (Sum_any [B0] _ _ (hK.below (hB10.trans (hbel.mono hs10))) d22 (by simp) (by simp; omega)).mono ?_
    rintro e r ⟨rfl, hB⟩
    exact ⟨_, rfl, mixOn ⟨_, rfl, hB, congrArg (fun l => Value.agg (tab 32 fun p => VB (at8 (sha l) p))) (show [B0].flatten = B0 by simp)⟩⟩
  · intro a w hsz hoth hbel hdep
    have d12 : (a.tmps.getD 48 undef) = .bool false := (by have h := hdep ⟨12, .guard⟩ (by simp) rfl; exact h)
    have d20 : (a.tmps.getD 56 undef) = .agg (tab 32 fun p => VB (at8 (sha B0) p)) := (by have h := hdep ⟨20, .data⟩ (by simp) rfl; exact h)
    have d23 : (a.tmps.getD 59 undef) = .agg (tab 32 fun p => VB (at8 (sha B0) p)) := (by have h := hdep ⟨23, .data⟩ (by simp) rfl; exact h)
    exact kNeqArr _ _ _ _ _ 32 .u8 _ (fun j => B (at8 (sha B0) j)) (fun j => B (at8 (sha B0) j)) false rfl (wanted_of (g := 12) (b := false) (d := 48) rfl rfl d12) d20 d23 Tryd.underlying23 Tryd.underlying5 info_byte (by kernel_rfl) (by rw [all_refl]; rfl) (mixOn ⟨_, rfl, Below.refl _ _, rfl⟩)
  · intro a w hsz hoth hbel hdep
    have d12 : (a.tmps.getD 48 undef) = .bool false := (by have h := hdep ⟨12, .data⟩ (by simp) rfl; exact h)
    have d24 : (a.tmps.getD 60 undef) = .bool false := (by have h := hdep ⟨24, .data⟩ (by simp) rfl; exact h)
    exact kPick _ _ _ false (.bool false) rfl rfl d12 d24 (mixOn ⟨_, rfl, Below.refl _ _, rfl⟩)

set_option maxRecDepth 100000 in
set_option maxHeartbeats 2000000 in
theorem DigestLengths_any (B0 : List UInt8) (vb : Value) (at0 : Int) (w : World) (hK : Keys w) (hb : IsVals w vb (B0.map VB)) :
    Calls Tryd.prog 7 #[vb, .int .i64 at0] w fun e w' => e = .returned (.bool true) ∧ Below w.heap.size w w' := by
  by_cases h1 : B0.length ≤ 1000
  · by_cases hn : at0 ≤ 0
    · exact DigestLengths_at B0 vb at0 at0 0 w hK hb h1 (by omega) (by rw [if_neg (by omega)]) (by rw [if_neg (by omega)]; rfl)
    · by_cases hl : (B0.length : Int) < at0
      · refine DigestLengths_at B0 vb at0 (B0.length : Int) B0.length w hK hb h1 (Nat.le_refl _) (by rw [if_pos hl]) ?_
        by_cases h0 : (B0.length : Int) > 0
        · rw [if_pos h0]
        · rw [if_neg h0]; omega
      · exact DigestLengths_at B0 vb at0 at0 at0.toNat w hK hb h1 (by omega) (by rw [if_neg hl]) (by rw [if_pos (by omega)]; omega)
  · have hd1 : decide ((B0.length : Int) > 1000) = true := by simp; omega
    go_enter Tryd.func7, Tryd.ntmps7
    go_wp2_with (first
      | (go_at_call 10; refine (alive_any _ hK).mono ?_; rintro e w1 ⟨rfl, hB1⟩)
      | ((with_reducible change wpList _ _ _ (Oper.mk (some 12) _ _ _ _ _ :: _) _ _); refine kLenN _ _ _ _ _ B0.length rfl rfl rfl (hb.below hB1) (by simp) Tryd.underlying25 ?_))
    go_ret
    exact ⟨rfl, hB1⟩
end Go.Proofs.YtofaminpdcapkaaDoor
