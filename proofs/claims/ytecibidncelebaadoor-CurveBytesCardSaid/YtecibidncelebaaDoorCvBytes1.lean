/-
  Points as bytes: the walks of package curve's Bytes and of the reference's.
-/
import Derived.Test.YtecibidncelebaaDoorCvBytes0
namespace Go.Proofs.YtecibidncelebaaDoor
open Go Go.RowKit
open Cv

theorem b8Info0 : (Tryd.prog.info? 5).map (fun i => (i.zero, i.size, i.bytes)) = some (some (.int .u8 0), 1, 1) := by kernel_rfl
theorem b8Info : ∃ i, Tryd.prog.info? 5 = some i ∧ i.zero = some (.int .u8 0) ∧ i.size = 1 ∧ i.bytes = 1 := by
  have h := b8Info0
  cases hq : Tryd.prog.info? 5 with
  | none => rw [hq] at h; cases h
  | some i => rw [hq] at h; simp at h; exact ⟨i, rfl, h.1, h.2.1, h.2.2⟩
def BytesPost (w : World) (l : List UInt8) (e : Ending) (w' : World) : Prop := ∃ v, e = .returned v ∧ IsVals w' v (l.map VB) ∧ Below w.heap.size w w'
def OwnB (w : World) (base : Nat) (v : Value) (l : List UInt8) : Prop := w.ownsRow base 5 1 v (l.map VB).length (l.map VB)
theorem own_one {w : World} {g base : Nat} {c : UInt8} (hb : base ≤ g) (h : Row w g 5 #[VB c]) : OwnB w base (.slice (some ⟨g, 0, none⟩) 1 1) [c] :=
  ⟨rfl, .inr ⟨g, 1, _, rfl, hb, h, Nat.le_refl _, by decide, by simp, by simp⟩⟩
theorem vbs_one (l : List UInt8) : ∀ u ∈ l.map VB, u.oneCell' = true := fun u hu => by
  simp at hu; obtain ⟨x, -, rfl⟩ := hu; rfl
theorem VB_ofNat {k : Nat} (h : k < 256) : VB (UInt8.ofNat k) = .int .u8 (k : Int) := by
  show Value.int .u8 (B (UInt8.ofNat k)) = _
  unfold B; rw [ofNat_toNat h]
theorem bcells_list (x : Nat) : (bcells (bytesOf x)).toList = (bytes32 x).map VB := by
  apply List.ext_getElem?
  intro p
  rw [Array.getElem?_toList]
  by_cases hp : p < 32
  · unfold bcells bytes32
    rw [tab_get 32 _ p hp, List.getElem?_map, List.getElem?_map, List.getElem?_range hp]
    show _ = some (VB (UInt8.ofNat (bytesOf x p)))
    rw [VB_ofNat (bytesOf_lt x p)]
  · rw [Array.getElem?_eq_none (by rw [bcells_size]; omega), List.getElem?_eq_none (by rw [List.length_map, bytes32_length]; omega)]
theorem info_arr32C (f : Nat → Nat) : (Tryd.prog.info? 57).map (·.size) = some (bcells f).size := by rw [bcells_size]; exact info_arr32
theorem limb0_two (y : Nat) : limb y 0 % 2 = y % 2 := by
  unfold limb; rw [show P64 0 = 1 by decide, Nat.div_one]; omega
section
variable {ops : Array Oper} {Q : Exit → Act → World → Prop} {rest : List Oper} {o : Oper} {a : Act} {w : World}
theorem kRem2 (T T2 : TypeId) (x y : Operand) (m z : Nat) (ho : o.op = .binOp .rem T x y T2) (hg : Region.wanted o (yielded ops a.tmps) = true) (hx : a.eval x = .int .u64 (m : Int)) (hy : a.eval y = .int .u64 2) (hz : m % 2 = z) (h : wpList Tryd.prog ops Q rest (a.put o.dst (.int .u64 (z : Int))) w) : wpList Tryd.prog ops Q (o :: rest) a w := by
  subst hz
  refine kPure _ hg ?_ h
  unfold execOp
  simp only [ho, hx, hy]
  have e : (m : Int).tmod 2 = ((m % 2 : Nat) : Int) := by rw [Int.tmod_eq_emod_of_nonneg (Int.natCast_nonneg _)]; omega
  simp [eqGuard, binOp, Op.intDiv, e]
theorem isVals_b32 {w : World} {g x : Nat} (h : Row w g 57 (bcells (bytesOf x))) : IsVals w (.slice (some ⟨g, 0, none⟩) 32 32) ((bytes32 x).map VB) := by
  have h2 := isVals_row h 0 32 32 (by rw [bcells_size]; decide) (Nat.le_refl _)
  have e : (bcells (bytesOf x)).extract 0 (0 + 32) = bcells (bytesOf x) := by
    have : (bcells (bytesOf x)).extract 0 (0 + 32) = (bcells (bytesOf x)).extract 0 (bcells (bytesOf x)).size := by rw [bcells_size]
    rw [this]; simp
  rw [e, bcells_list] at h2; exact h2
/-- append to a slice of one byte that is full: a new row -/
theorem kAppendFullR (s x : Operand) (ho : o.op = .call { callee := .builtin .append, args := #[s, x], argTypes := #[48, 48] }) (hg : Region.wanted o (yielded ops a.tmps) = true)
    (g : Nat) (c : UInt8) (y : Value) (news : List UInt8) (hs : a.eval s = .slice (some ⟨g, 0, none⟩) 1 1) (hr : Row w g 5 #[VB c]) (hx : a.eval x = y) (hy : IsVals w y (news.map VB)) (hnn : news ≠ []) (hlen : news.length ≤ 1000)
    (h : ∀ v' w' g' n cap cur, v' = .slice (some ⟨g', 0, none⟩) n cap → Row w' g' 5 cur → IsVals w' v' ((c :: news).map VB) → Below w.heap.size w w' → wpList Tryd.prog ops Q rest (a.put o.dst v') w') : wpList Tryd.prog ops Q (o :: rest) a w := by
  obtain ⟨i, hi, hz, hsize, hby⟩ := b8Info
  have ht := Tryd.underlying48
  have hml : (news.map VB).length = news.length := by simp
  obtain ⟨ao, cp, rfl, hc, hn, hj⟩ := hy
  cases ao with
  | none =>
    cases news with
    | nil => exact absurd rfl hnn
    | cons u us => obtain ⟨a, ha, _⟩ := hj 0 (VB u) rfl; cases ha
  | some ad =>
    have hown : w.ownsRow 0 5 1 (.slice (some ⟨g, 0, none⟩) 1 1) 1 [VB c] := own_one (Nat.zero_le _) hr
    have hnews : ∀ j u, (news.map VB)[j]? = some u → w.cell? (ad.add j) = some u := fun j u hu => by
      obtain ⟨a', ha, hcell⟩ := hj j u hu; cases ha; exact hcell
    have hpos : 0 < news.length := List.length_pos_iff.2 hnn
    obtain ⟨v', w', hrun, h2, h3, -⟩ := run_append_own (P := Tryd.prog) w 0 48 o.type 5 i _ 1 i.bytes ht hi hz hsize rfl rfl (by decide) _ 1 [VB c] hown ad (news.map VB).length cp (news.map VB) (by omega) hnews (vbs_one _) (by rw [hml]; unfold maxLen; omega) (by rw [hml, hby]; omega) (Nat.zero_le _)
    have holds : ∀ j u, [VB c][j]? = some u → w.cell? ((⟨g, 0, none⟩ : Addr).add j) = some u := hown.cells (g := g) rfl
    have hr2 := run_append_grow (P := Tryd.prog) w 48 o.type 5 i _ ht hi hz ⟨g, 0, none⟩ 1 1 [VB c] (by rw [hown.1, hsize]) holds ad (news.map VB).length cp (news.map VB) (by rw [hsize]; omega) hnews (by rw [hml]; omega) (by rw [hml]; omega) (growslice_fits (by omega) (by rw [hml, hby]; omega))
    have hB : Below w.heap.size w w' := by
      rw [hrun] at hr2
      simp only [Result.ok.injEq] at hr2
      obtain ⟨-, rfl⟩ := hr2
      have hb := fun o => (Below.refl w.drew.heap.size w.drew).alloc (Nat.le_refl _) o
      exact ⟨(hb _).os, (hb _).tape, (hb _).output, (hb _).size, (hb _).block⟩
    refine BigFrame.wpList_want hg fun K hK => ?_
    unfold Oper.wp execOp
    simp only [ho, resolve, invoke, builtin, Sem.run_bind, Sem.run_pure, Result.andThen_ok, List.map_toArray, List.map_cons, List.map_nil, hs, hx, hrun]
    have h2' := h2
    rcases h2'.2 with ⟨_, hh⟩ | ⟨g', cap', cur, hh, -, hg', -⟩
    · simp at hh
    · exact hK _ _ (h v' w' g' _ cap' cur hh hg' (isVals_own h2) hB)
theorem kAppendFull (s x : Operand) (ho : o.op = .call { callee := .builtin .append, args := #[s, x], argTypes := #[48, 48] }) (hg : Region.wanted o (yielded ops a.tmps) = true)
    (g : Nat) (c : UInt8) (y : Value) (news : List UInt8) (hs : a.eval s = .slice (some ⟨g, 0, none⟩) 1 1) (hr : Row w g 5 #[VB c]) (hx : a.eval x = y) (hy : IsVals w y (news.map VB)) (hnn : news ≠ []) (hlen : news.length ≤ 1000)
    (h : ∀ v' w', IsVals w' v' ((c :: news).map VB) → Below w.heap.size w w' → wpList Tryd.prog ops Q rest (a.put o.dst v') w') : wpList Tryd.prog ops Q (o :: rest) a w :=
  kAppendFullR s x ho hg g c y news hs hr hx hy hnn hlen fun v' w' _ _ _ _ _ _ hv hb => h v' w' hv hb
end
set_option maxRecDepth 100000 in
set_option maxHeartbeats 8000000 in
theorem cBytes_o (w : World) (hO : GlobP 0 0 0 true w) : Calls Tryd.prog 28 #[.agg (pcells 0 0 true)] w (BytesPost w [0]) := by
  obtain ⟨i, hi, hz, hs1, hby⟩ := b8Info
  have hM0 := mm_nil w
  go_enter Tryd.func28, Tryd.ntmps28
  go_wp2_with (first
    | ((with_reducible change wpList _ _ _ (Oper.mk (some 1) _ _ _ _ _ :: _) _ _); refine mmBox hM0 _ _ (pcells 0 0 true) rfl rfl rfl ?_; intro w1 hM1; clear hM0; go_frame)
    | ((with_reducible change wpList _ _ _ (Oper.mk (some 5) _ _ _ _ _ :: _) _ _); refine kLoadRow _ _ _ _ _ _ rfl rfl rfl (hM1.get 0 rfl) Tryd.underlying30 rfl (info_PointC _ _ _) ?_; go_frame)
    | ((with_reducible change wpList _ _ _ (Oper.mk (some 6) _ _ _ _ _ :: _) _ _); refine kLoadGP _ _ _ _ _ rfl rfl rfl (hO.below hM1.below) ?_; go_frame)
    | ((with_reducible change wpList _ _ _ (Oper.mk (some 7) _ _ _ _ _ :: _) _ _); refine kEqlP _ _ _ 0 0 true 0 0 true true rfl rfl rfl rfl (eqP_yes ⟨rfl, rfl, rfl⟩) ?_; go_frame)
    | ((with_reducible change wpList _ _ _ (Oper.mk (some 8) _ _ _ _ _ :: _) _ _); refine kBuildSlice1 _ _ _ (VB 0) rfl rfl Tryd.underlying48 i _ hi hz hs1 rfl rfl ?_; intro w2 hR2 hz2 hB2; clear hz2; have hV2 := isVals_lit (l := [VB 0]) hR2; have hM2 := hM1.on hB2; clear hR2 hB2 hM1; go_frame))
  go_ret
  exact ⟨_, rfl, hV2, hM2.below⟩
set_option maxRecDepth 100000 in
set_option maxHeartbeats 8000000 in
theorem cBytes_mk0 {x y : Nat} (hy : y % 2 = 0) (w : World) (hO : GlobP 0 0 0 true w) : Calls Tryd.prog 28 #[.agg (pcells x y false)] w (BytesPost w (2 :: bytes32 x)) := by
  obtain ⟨i, hi, hz, hs1, hby⟩ := b8Info
  have hM0 := mm_nil w
  have H12 := Lib.hid (show limb y 0 % 2 = 0 by rw [limb0_two]; exact hy)
  clear hy
  go_enter Tryd.func28, Tryd.ntmps28
  go_wp2_with (first
    | ((with_reducible change wpList _ _ _ (Oper.mk (some 1) _ _ _ _ _ :: _) _ _); refine mmBox hM0 _ _ (pcells x y false) rfl rfl rfl ?_; intro w1 hM1; clear hM0; go_frame)
    | ((with_reducible change wpList _ _ _ (Oper.mk (some 5) _ _ _ _ _ :: _) _ _); refine kLoadRow _ _ _ _ _ _ rfl rfl rfl (hM1.get 0 rfl) Tryd.underlying30 rfl (info_PointC _ _ _) ?_; go_frame)
    | ((with_reducible change wpList _ _ _ (Oper.mk (some 6) _ _ _ _ _ :: _) _ _); refine kLoadGP _ _ _ _ _ rfl rfl rfl (hO.below hM1.below) ?_; go_frame)
    | ((with_reducible change wpList _ _ _ (Oper.mk (some 7) _ _ _ _ _ :: _) _ _); refine kEqlP _ _ _ x y false 0 0 true false rfl rfl rfl rfl eqP_none ?_; go_frame)
    | ((with_reducible change wpList _ _ _ (Oper.mk (some 9) _ _ _ _ _ :: _) _ _); refine kFieldPoint1 _ _ rfl rfl rfl ?_; go_frame)
    | ((with_reducible change wpList _ _ _ (Oper.mk (some 10) _ _ _ _ _ :: _) _ _); refine kIndexAddr _ _ _ _ _ _ 4 _ 0 _ 1 rfl rfl rfl rfl Tryd.underlying24 info_w64 rfl (by decide) ?_; go_frame)
    | ((with_reducible change wpList _ _ _ (Oper.mk (some 11) _ _ _ _ _ :: _) _ _); refine kLoad1 _ _ _ _ _ _ (.int .u64 (limb y 0 : Int)) _ rfl rfl rfl (hM1.get 0 rfl) Tryd.underlying22 rfl rfl ?_; go_frame)
    | ((with_reducible change wpList _ _ _ (Oper.mk (some 12) _ _ _ _ _ :: _) _ _); refine kRem2 _ _ _ _ (limb y 0) 0 rfl rfl rfl rfl H12.out ?_; go_frame)
    | ((with_reducible change wpList _ _ _ (Oper.mk (some 13) _ _ _ _ _ :: _) _ _); refine kEqlI _ _ _ _ .u64 _ _ false rfl rfl rfl rfl (by decide) ?_; go_frame)
    | ((with_reducible change wpList _ _ _ (Oper.mk (some 14) _ _ _ _ _ :: _) _ _); refine kFieldPoint0 _ _ rfl rfl rfl ?_; go_frame)
    | ((with_reducible change wpList _ _ _ (Oper.mk (some 15) _ _ _ _ _ :: _) _ _); refine kLoadAs _ _ _ _ _ 4 _ _ _ rfl rfl rfl (hM1.get 0 rfl) Tryd.underlying24 rfl info_Wide (by rw [pcells_size]; decide) (pcells_at0 _ _ _) ?_; go_frame)
    | (go_at_call 56; (with_reducible change Calls _ _ #[Value.agg (wcells x)] _ _); refine (wBytes_any x _).mono ?_; rintro e w2 ⟨rfl, hB2⟩; have hM2 := hM1.on hB2; clear hB2 hM1; go_frame)
    | ((with_reducible change wpList _ _ _ (Oper.mk (some 4) _ _ _ _ _ :: _) _ _); refine mmAlloc hM2 _ _ rfl rfl zero_arr32 ?_; intro w3 hM3; clear hM2; go_frame)
    | ((with_reducible change wpList _ _ _ (Oper.mk none (Op.store _ (Operand.tmp 4) (Operand.tmp 16)) _ _ _ _ :: _) _ _); refine mmStoreAt hM3 0 _ _ _ _ _ _ (bcells (bytesOf x)) rfl rfl rfl rfl rfl (info_arr32C _) (by rw [bcells_size, tab_size]) (bcells_one _) ?_; intro w4 hM4; dsimp only [List.set] at hM4; clear hM3; go_frame)
    | ((with_reducible change wpList _ _ _ (Oper.mk (some 18) _ _ _ _ _ :: _) _ _); refine kBuildSlice1 _ _ _ (VB 2) rfl rfl Tryd.underlying48 i _ hi hz hs1 rfl rfl ?_; intro w5 hR5 hz5 hB5; clear hz5; have hM5 := hM4.on hB5; clear hB5 hM4; go_frame)
    | ((with_reducible change wpList _ _ _ (Oper.mk (some 19) _ _ _ _ _ :: _) _ _); refine kSliceArrAll _ _ 32 _ rfl rfl Tryd.underlying57 info_b8 _ _ rfl ?_; go_frame)
    | ((with_reducible change wpList _ _ _ (Oper.mk (some 20) _ _ _ _ _ :: _) _ _); refine kAppendFull _ _ rfl rfl _ 2 _ (bytes32 x) rfl hR5 rfl (isVals_b32 (hM5.get 0 rfl)) (fun e => by have := congrArg List.length e; rw [bytes32_length] at this; cases this) (by rw [bytes32_length]; decide) ?_; intro v6 w6 hV6 hB6; have hM6 := hM5.on hB6; clear hR5 hB6 hM5; go_frame))
  go_ret
  exact ⟨_, rfl, hV6, hM6.below⟩
set_option maxRecDepth 100000 in
set_option maxHeartbeats 8000000 in
theorem cBytes_mk1 {x y : Nat} (hy : y % 2 = 1) (w : World) (hO : GlobP 0 0 0 true w) : Calls Tryd.prog 28 #[.agg (pcells x y false)] w (BytesPost w (3 :: bytes32 x)) := by
  obtain ⟨i, hi, hz, hs1, hby⟩ := b8Info
  have hM0 := mm_nil w
  have H12 := Lib.hid (show limb y 0 % 2 = 1 by rw [limb0_two]; exact hy)
  clear hy
  go_enter Tryd.func28, Tryd.ntmps28
  go_wp2_with (first
    | ((with_reducible change wpList _ _ _ (Oper.mk (some 1) _ _ _ _ _ :: _) _ _); refine mmBox hM0 _ _ (pcells x y false) rfl rfl rfl ?_; intro w1 hM1; clear hM0; go_frame)
    | ((with_reducible change wpList _ _ _ (Oper.mk (some 5) _ _ _ _ _ :: _) _ _); refine kLoadRow _ _ _ _ _ _ rfl rfl rfl (hM1.get 0 rfl) Tryd.underlying30 rfl (info_PointC _ _ _) ?_; go_frame)
    | ((with_reducible change wpList _ _ _ (Oper.mk (some 6) _ _ _ _ _ :: _) _ _); refine kLoadGP _ _ _ _ _ rfl rfl rfl (hO.below hM1.below) ?_; go_frame)
    | ((with_reducible change wpList _ _ _ (Oper.mk (some 7) _ _ _ _ _ :: _) _ _); refine kEqlP _ _ _ x y false 0 0 true false rfl rfl rfl rfl eqP_none ?_; go_frame)
    | ((with_reducible change wpList _ _ _ (Oper.mk (some 9) _ _ _ _ _ :: _) _ _); refine kFieldPoint1 _ _ rfl rfl rfl ?_; go_frame)
    | ((with_reducible change wpList _ _ _ (Oper.mk (some 10) _ _ _ _ _ :: _) _ _); refine kIndexAddr _ _ _ _ _ _ 4 _ 0 _ 1 rfl rfl rfl rfl Tryd.underlying24 info_w64 rfl (by decide) ?_; go_frame)
    | ((with_reducible change wpList _ _ _ (Oper.mk (some 11) _ _ _ _ _ :: _) _ _); refine kLoad1 _ _ _ _ _ _ (.int .u64 (limb y 0 : Int)) _ rfl rfl rfl (hM1.get 0 rfl) Tryd.underlying22 rfl rfl ?_; go_frame)
    | ((with_reducible change wpList _ _ _ (Oper.mk (some 12) _ _ _ _ _ :: _) _ _); refine kRem2 _ _ _ _ (limb y 0) 1 rfl rfl rfl rfl H12.out ?_; go_frame)
    | ((with_reducible change wpList _ _ _ (Oper.mk (some 13) _ _ _ _ _ :: _) _ _); refine kEqlI _ _ _ _ .u64 _ _ true rfl rfl rfl rfl (by decide) ?_; go_frame)
    | ((with_reducible change wpList _ _ _ (Oper.mk (some 14) _ _ _ _ _ :: _) _ _); refine kFieldPoint0 _ _ rfl rfl rfl ?_; go_frame)
    | ((with_reducible change wpList _ _ _ (Oper.mk (some 15) _ _ _ _ _ :: _) _ _); refine kLoadAs _ _ _ _ _ 4 _ _ _ rfl rfl rfl (hM1.get 0 rfl) Tryd.underlying24 rfl info_Wide (by rw [pcells_size]; decide) (pcells_at0 _ _ _) ?_; go_frame)
    | (go_at_call 56; (with_reducible change Calls _ _ #[Value.agg (wcells x)] _ _); refine (wBytes_any x _).mono ?_; rintro e w2 ⟨rfl, hB2⟩; have hM2 := hM1.on hB2; clear hB2 hM1; go_frame)
    | ((with_reducible change wpList _ _ _ (Oper.mk (some 4) _ _ _ _ _ :: _) _ _); refine mmAlloc hM2 _ _ rfl rfl zero_arr32 ?_; intro w3 hM3; clear hM2; go_frame)
    | ((with_reducible change wpList _ _ _ (Oper.mk none (Op.store _ (Operand.tmp 4) (Operand.tmp 16)) _ _ _ _ :: _) _ _); refine mmStoreAt hM3 0 _ _ _ _ _ _ (bcells (bytesOf x)) rfl rfl rfl rfl rfl (info_arr32C _) (by rw [bcells_size, tab_size]) (bcells_one _) ?_; intro w4 hM4; dsimp only [List.set] at hM4; clear hM3; go_frame)
    | ((with_reducible change wpList _ _ _ (Oper.mk (some 18) _ _ _ _ _ :: _) _ _); refine kBuildSlice1 _ _ _ (VB 3) rfl rfl Tryd.underlying48 i _ hi hz hs1 rfl rfl ?_; intro w5 hR5 hz5 hB5; clear hz5; have hM5 := hM4.on hB5; clear hB5 hM4; go_frame)
    | ((with_reducible change wpList _ _ _ (Oper.mk (some 19) _ _ _ _ _ :: _) _ _); refine kSliceArrAll _ _ 32 _ rfl rfl Tryd.underlying57 info_b8 _ _ rfl ?_; go_frame)
    | ((with_reducible change wpList _ _ _ (Oper.mk (some 20) _ _ _ _ _ :: _) _ _); refine kAppendFull _ _ rfl rfl _ 3 _ (bytes32 x) rfl hR5 rfl (isVals_b32 (hM5.get 0 rfl)) (fun e => by have := congrArg List.length e; rw [bytes32_length] at this; cases this) (by rw [bytes32_length]; decide) ?_; intro v6 w6 hV6 hB6; have hM6 := hM5.on hB6; clear hR5 hB6 hM5; go_frame))
  go_ret
  exact ⟨_, rfl, hV6, hM6.below⟩
theorem cBytes_any (p : Pt PP) (w : World) (hO : GlobP 0 0 0 true w) : Calls Tryd.prog 28 #[.agg (ptc p)] w (BytesPost w (ptBytes p)) := by
  cases p with
  | o => exact cBytes_o w hO
  | mk x y =>
    show Calls _ _ _ _ (BytesPost w (UInt8.ofNat (2 + y.val % 2) :: bytes32 x.val))
    rcases Nat.mod_two_eq_zero_or_one y.val with h | h
    · have := cBytes_mk0 (x := x.val) h w hO
      rw [h]; exact this
    · have := cBytes_mk1 (x := x.val) h w hO
      rw [h]; exact this
theorem pcells_limb (x y : Nat) (b : Bool) (j : Nat) (hj : j < 4) : (pcells x y b)[j]? = some (.int .u64 (limb x j : Int)) := by
  rcases j with _ | _ | _ | _ | j
  · rfl
  · rfl
  · rfl
  · rfl
  · omega
theorem byte_val (x N : Nat) : ((limb x (N / 8) : Int) / 2 ^ (8 * (N % 8))).tmod 256 % 256 = (nbyte x N : Int) := by
  have h := nbyte_limb x N
  rw [Nat.mul_comm (N % 8) 8] at h
  rw [shr_val, Int.tmod_eq_emod_of_nonneg (Int.natCast_nonneg _)]
  omega
theorem take_byte (x N : Nat) (hN : N < 32) : (bytes32 x).take (31 - N + 1) = (bytes32 x).take (31 - N) ++ [UInt8.ofNat (nbyte x N)] := by
  rw [List.take_add_one]
  congr 1
  unfold bytes32
  rw [List.getElem?_map, List.getElem?_range (by omega)]
  show [UInt8.ofNat (bytesOf x (31 - N))] = _
  unfold bytesOf; rw [show 31 - (31 - N) = N by omega]
set_option maxRecDepth 100000 in
set_option maxHeartbeats 8000000 in
theorem eBytes_o (w : World) : Calls Tryd.prog 29 #[.agg (pcells 0 0 true)] w (BytesPost w [0]) := by
  obtain ⟨i, hi, hz, hs1, hby⟩ := b8Info
  have hM0 := mm_nil w
  go_enter Tryd.func29, Tryd.ntmps29
  go_wp2_with (first
    | ((with_reducible change wpList _ _ _ (Oper.mk (some 1) _ _ _ _ _ :: _) _ _); refine mmBox hM0 _ _ (pcells 0 0 true) rfl rfl rfl ?_; intro w1 hM1; clear hM0; go_frame)
    | ((with_reducible change wpList _ _ _ (Oper.mk (some 5) _ _ _ _ _ :: _) _ _); refine kFieldPoint2 _ _ rfl rfl rfl ?_; go_frame)
    | ((with_reducible change wpList _ _ _ (Oper.mk (some 6) _ _ _ _ _ :: _) _ _); refine kLoad1 _ _ _ _ _ _ _ _ rfl rfl rfl (hM1.get 0 rfl) Tryd.underlying4 rfl (pcells_at8 _ _ _) ?_; go_frame)
    | ((with_reducible change wpList _ _ _ (Oper.mk (some 7) _ _ _ _ _ :: _) _ _); refine kBuildSlice1 _ _ _ (VB 0) rfl rfl Tryd.underlying48 i _ hi hz hs1 rfl rfl ?_; intro w2 hR2 hz2 hB2; clear hz2; have hV2 := isVals_lit (l := [VB 0]) hR2; have hM2 := hM1.on hB2; clear hR2 hB2 hM1; go_frame))
  go_ret
  exact ⟨_, rfl, hV2, hM2.below⟩
set_option maxRecDepth 100000 in
set_option maxHeartbeats 8000000 in
theorem eBytes_mk0 {x y : Nat} (hy : y % 2 = 0) (w : World) : Calls Tryd.prog 29 #[.agg (pcells x y false)] w (BytesPost w (2 :: bytes32 x)) := by
  obtain ⟨i, hi, hz, hs1, hby⟩ := b8Info
  have H12 := Lib.hid (show limb y 0 % 2 = 0 by rw [limb0_two]; exact hy)
  clear hy
  go_enter Tryd.func29, Tryd.ntmps29
  go_wp2_with (first
    | ((with_reducible change wpList _ _ _ (Oper.mk (some 1) _ _ _ _ _ :: _) _ _); refine kBoxL _ _ (pcells x y false) rfl rfl rfl ?_; intro w1 hR1 hl1 hB1; go_frame)
    | ((with_reducible change wpList _ _ _ (Oper.mk (some 5) _ _ _ _ _ :: _) _ _); refine kFieldPoint2 _ _ rfl rfl rfl ?_; go_frame)
    | ((with_reducible change wpList _ _ _ (Oper.mk (some 6) _ _ _ _ _ :: _) _ _); refine kLoad1 _ _ _ _ _ _ _ _ rfl rfl rfl hR1 Tryd.underlying4 rfl (pcells_at8 _ _ _) ?_; go_frame)
    | ((with_reducible change wpList _ _ _ (Oper.mk (some 8) _ _ _ _ _ :: _) _ _); refine kFieldPoint1 _ _ rfl rfl rfl ?_; go_frame)
    | ((with_reducible change wpList _ _ _ (Oper.mk (some 9) _ _ _ _ _ :: _) _ _); refine kIndexAddr _ _ _ _ _ _ 4 _ 0 _ 1 rfl rfl rfl rfl Tryd.underlying24 info_w64 rfl (by decide) ?_; go_frame)
    | ((with_reducible change wpList _ _ _ (Oper.mk (some 10) _ _ _ _ _ :: _) _ _); refine kLoad1 _ _ _ _ _ _ (.int .u64 (limb y 0 : Int)) _ rfl rfl rfl hR1 Tryd.underlying22 rfl rfl ?_; go_frame)
    | ((with_reducible change wpList _ _ _ (Oper.mk (some 11) _ _ _ _ _ :: _) _ _); refine kRem2 _ _ _ _ (limb y 0) 0 rfl rfl rfl rfl H12.out ?_; go_frame)
    | ((with_reducible change wpList _ _ _ (Oper.mk (some 14) _ _ _ _ _ :: _) _ _); refine kBuildSlice1 _ _ _ (VB 2) rfl rfl Tryd.underlying48 i _ hi hz hs1 rfl rfl ?_; intro w2 hR2 hz2 hB2; clear hz2; have hO2 := own_one (base := w1.heap.size) (Nat.le_refl _) hR2; have hRp := hR1.below hB2 hR1.lt; have hs2 := hB2.size; have hB := hB1.trans (hB2.mono (Nat.le_of_lt hl1)); clear hR1 hR2 hB1 hB2; go_frame))
  go_loopw [4, 3] (fun i v wr => ∃ z : Int, i = .int .i64 z ∧ -1 ≤ z ∧ z ≤ 31 ∧ OwnB wr w1.heap.size v (2 :: (bytes32 x).take (31 - z).toNat) ∧ Row wr w.heap.size 30 (pcells x y false) ∧ Below w.heap.size w wr ∧ w1.heap.size ≤ wr.heap.size) (fun i _ _ => (intOf i + 1).toNat)
  case atStart => exact ⟨31, rfl, by omega, by omega, hO2, hRp, hB, hs2⟩
  case round =>
    obtain ⟨z, rfl, hz1, hz2, hO, hRr, hBr, hsr⟩ := hrel
    clear hO2 hRp hB hs2
    by_cases hz0 : 0 ≤ z
    · obtain ⟨N, rfl⟩ := Int.eq_ofNat_of_zero_le hz0
      have hN : N < 32 := by omega
      have hd : decide ((N : Int) ≥ 0) = true := by simp
      have hlen : ((2 :: (bytes32 x).take (31 - (N : Int)).toNat).map VB).length = 1 + (31 - N) := by
        rw [List.length_map, List.length_cons, List.length_take, bytes32_length]; omega
      have hl8 : limb x (N / 8) < 18446744073709551616 := limb_lt _ _
      go_wp2_with (first
        | ((with_reducible change wpList _ _ _ (Oper.mk (some 22) _ _ _ _ _ :: _) _ _); refine kFieldPoint0 _ _ rfl rfl rfl ?_; go_frame)
        | ((with_reducible change wpList _ _ _ (Oper.mk (some 23) _ _ _ _ _ :: _) _ _); refine kIndexAddr1 _ _ _ _ _ _ _ (N / 8) _ rfl rfl rfl rfl Tryd.underlying24 info_w64 (by omega) (by omega) ?_; go_frame)
        | ((with_reducible change wpList _ _ _ (Oper.mk (some 24) _ _ _ _ _ :: _) _ _); refine kLoad1 _ _ _ _ _ _ _ _ rfl rfl rfl hRr Tryd.underlying22 rfl (pcells_limb x y false (N / 8) (by omega)) ?_; go_frame)
        | ((with_reducible change wpList _ _ _ (Oper.mk (some 32) _ _ _ _ _ :: _) _ _); refine kBuildSlice1 _ _ _ (VB (UInt8.ofNat (nbyte x N))) rfl rfl Tryd.underlying48 i _ hi hz hs1 ((congrArg (Value.int IntKind.u8) (byte_val x N)).trans (VB_ofNat (nbyte_lt x N)).symm) rfl ?_; intro w5 hR5 hz5 hB5; clear hz5; go_frame)
        | ((with_reducible change wpList _ _ _ (Oper.mk (some 33) _ _ _ _ _ :: _) _ _); refine kAppend _ _ _ _ rfl rfl w1.heap.size i _ Tryd.underlying48 hi hz hs1 rfl _ _ _ [VB (UInt8.ofNat (nbyte x N))] rfl (ownsRow_below hO hB5) rfl (isVals_lit hR5) (vbs_one [_]) (by unfold maxLen; rw [hlen]; simp; omega) (by rw [hby, hlen]; simp; omega) (by have := hB5.size; omega) ?_; intro v6 w6 hO6 hG6; have hb6 := below_grown (ownsRow_below hO hB5) hG6 (by have := hB5.size; omega); have hR6 := (hRr.below hB5 hRr.lt).below hb6 (by have := hl1; omega); have hs6 := hb6.size; have hs5 := hB5.size; have hB6 := (hBr.trans (hB5.mono hBr.size)).trans (hb6.mono (by omega)); clear hR5 hB5 hG6 hb6; go_frame))
      go_roundw
      case rel =>
        refine ⟨(N : Int) - 1, by go_num, by omega, by omega, ?_, hR6, hB6, by omega⟩
        rw [show (31 - ((N : Int) - 1)).toNat = 31 - N + 1 by omega, take_byte x N hN]
        rw [show (31 - (N : Int)).toNat = 31 - N by omega] at hO6
        unfold OwnB
        rw [← List.cons_append, List.map_append (l₂ := [_])]
        exact hO6
      case measure => simp [intOf]; try omega
    · have hd : decide (z ≥ 0) = false := by simp; omega
      have e : (2 : UInt8) :: (bytes32 x).take (31 - z).toNat = 2 :: bytes32 x := by rw [List.take_of_length_le (by rw [bytes32_length]; omega)]
      rw [e] at hO
      go_wp2
      go_ret
      exact ⟨_, rfl, isVals_own hO, hBr⟩
set_option maxRecDepth 100000 in
set_option maxHeartbeats 8000000 in
theorem eBytes_mk1 {x y : Nat} (hy : y % 2 = 1) (w : World) : Calls Tryd.prog 29 #[.agg (pcells x y false)] w (BytesPost w (3 :: bytes32 x)) := by
  obtain ⟨i, hi, hz, hs1, hby⟩ := b8Info
  have H12 := Lib.hid (show limb y 0 % 2 = 1 by rw [limb0_two]; exact hy)
  clear hy
  go_enter Tryd.func29, Tryd.ntmps29
  go_wp2_with (first
    | ((with_reducible change wpList _ _ _ (Oper.mk (some 1) _ _ _ _ _ :: _) _ _); refine kBoxL _ _ (pcells x y false) rfl rfl rfl ?_; intro w1 hR1 hl1 hB1; go_frame)
    | ((with_reducible change wpList _ _ _ (Oper.mk (some 5) _ _ _ _ _ :: _) _ _); refine kFieldPoint2 _ _ rfl rfl rfl ?_; go_frame)
    | ((with_reducible change wpList _ _ _ (Oper.mk (some 6) _ _ _ _ _ :: _) _ _); refine kLoad1 _ _ _ _ _ _ _ _ rfl rfl rfl hR1 Tryd.underlying4 rfl (pcells_at8 _ _ _) ?_; go_frame)
    | ((with_reducible change wpList _ _ _ (Oper.mk (some 8) _ _ _ _ _ :: _) _ _); refine kFieldPoint1 _ _ rfl rfl rfl ?_; go_frame)
    | ((with_reducible change wpList _ _ _ (Oper.mk (some 9) _ _ _ _ _ :: _) _ _); refine kIndexAddr _ _ _ _ _ _ 4 _ 0 _ 1 rfl rfl rfl rfl Tryd.underlying24 info_w64 rfl (by decide) ?_; go_frame)
    | ((with_reducible change wpList _ _ _ (Oper.mk (some 10) _ _ _ _ _ :: _) _ _); refine kLoad1 _ _ _ _ _ _ (.int .u64 (limb y 0 : Int)) _ rfl rfl rfl hR1 Tryd.underlying22 rfl rfl ?_; go_frame)
    | ((with_reducible change wpList _ _ _ (Oper.mk (some 11) _ _ _ _ _ :: _) _ _); refine kRem2 _ _ _ _ (limb y 0) 1 rfl rfl rfl rfl H12.out ?_; go_frame)
    | ((with_reducible change wpList _ _ _ (Oper.mk (some 14) _ _ _ _ _ :: _) _ _); refine kBuildSlice1 _ _ _ (VB 3) rfl rfl Tryd.underlying48 i _ hi hz hs1 rfl rfl ?_; intro w2 hR2 hz2 hB2; clear hz2; have hO2 := own_one (base := w1.heap.size) (Nat.le_refl _) hR2; have hRp := hR1.below hB2 hR1.lt; have hs2 := hB2.size; have hB := hB1.trans (hB2.mono (Nat.le_of_lt hl1)); clear hR1 hR2 hB1 hB2; go_frame))
  go_loopw [4, 3] (fun i v wr => ∃ z : Int, i = .int .i64 z ∧ -1 ≤ z ∧ z ≤ 31 ∧ OwnB wr w1.heap.size v (3 :: (bytes32 x).take (31 - z).toNat) ∧ Row wr w.heap.size 30 (pcells x y false) ∧ Below w.heap.size w wr ∧ w1.heap.size ≤ wr.heap.size) (fun i _ _ => (intOf i + 1).toNat)
  case atStart => exact ⟨31, rfl, by omega, by omega, hO2, hRp, hB, hs2⟩
  case round =>
    obtain ⟨z, rfl, hz1, hz2, hO, hRr, hBr, hsr⟩ := hrel
    clear hO2 hRp hB hs2
    by_cases hz0 : 0 ≤ z
    · obtain ⟨N, rfl⟩ := Int.eq_ofNat_of_zero_le hz0
      have hN : N < 32 := by omega
      have hd : decide ((N : Int) ≥ 0) = true := by simp
      have hlen : ((3 :: (bytes32 x).take (31 - (N : Int)).toNat).map VB).length = 1 + (31 - N) := by
        rw [List.length_map, List.length_cons, List.length_take, bytes32_length]; omega
      have hl8 : limb x (N / 8) < 18446744073709551616 := limb_lt _ _
      go_wp2_with (first
        | ((with_reducible change wpList _ _ _ (Oper.mk (some 22) _ _ _ _ _ :: _) _ _); refine kFieldPoint0 _ _ rfl rfl rfl ?_; go_frame)
        | ((with_reducible change wpList _ _ _ (Oper.mk (some 23) _ _ _ _ _ :: _) _ _); refine kIndexAddr1 _ _ _ _ _ _ _ (N / 8) _ rfl rfl rfl rfl Tryd.underlying24 info_w64 (by omega) (by omega) ?_; go_frame)
        | ((with_reducible change wpList _ _ _ (Oper.mk (some 24) _ _ _ _ _ :: _) _ _); refine kLoad1 _ _ _ _ _ _ _ _ rfl rfl rfl hRr Tryd.underlying22 rfl (pcells_limb x y false (N / 8) (by omega)) ?_; go_frame)
        | ((with_reducible change wpList _ _ _ (Oper.mk (some 32) _ _ _ _ _ :: _) _ _); refine kBuildSlice1 _ _ _ (VB (UInt8.ofNat (nbyte x N))) rfl rfl Tryd.underlying48 i _ hi hz hs1 ((congrArg (Value.int IntKind.u8) (byte_val x N)).trans (VB_ofNat (nbyte_lt x N)).symm) rfl ?_; intro w5 hR5 hz5 hB5; clear hz5; go_frame)
        | ((with_reducible change wpList _ _ _ (Oper.mk (some 33) _ _ _ _ _ :: _) _ _); refine kAppend _ _ _ _ rfl rfl w1.heap.size i _ Tryd.underlying48 hi hz hs1 rfl _ _ _ [VB (UInt8.ofNat (nbyte x N))] rfl (ownsRow_below hO hB5) rfl (isVals_lit hR5) (vbs_one [_]) (by unfold maxLen; rw [hlen]; simp; omega) (by rw [hby, hlen]; simp; omega) (by have := hB5.size; omega) ?_; intro v6 w6 hO6 hG6; have hb6 := below_grown (ownsRow_below hO hB5) hG6 (by have := hB5.size; omega); have hR6 := (hRr.below hB5 hRr.lt).below hb6 (by have := hl1; omega); have hs6 := hb6.size; have hs5 := hB5.size; have hB6 := (hBr.trans (hB5.mono hBr.size)).trans (hb6.mono (by omega)); clear hR5 hB5 hG6 hb6; go_frame))
      go_roundw
      case rel =>
        refine ⟨(N : Int) - 1, by go_num, by omega, by omega, ?_, hR6, hB6, by omega⟩
        rw [show (31 - ((N : Int) - 1)).toNat = 31 - N + 1 by omega, take_byte x N hN]
        rw [show (31 - (N : Int)).toNat = 31 - N by omega] at hO6
        unfold OwnB
        rw [← List.cons_append, List.map_append (l₂ := [_])]
        exact hO6
      case measure => simp [intOf]; try omega
    · have hd : decide (z ≥ 0) = false := by simp; omega
      have e : (3 : UInt8) :: (bytes32 x).take (31 - z).toNat = 3 :: bytes32 x := by rw [List.take_of_length_le (by rw [bytes32_length]; omega)]
      rw [e] at hO
      go_wp2
      go_ret
      exact ⟨_, rfl, isVals_own hO, hBr⟩
theorem eBytes_any (p : Pt PP) (w : World) : Calls Tryd.prog 29 #[.agg (ptc p)] w (BytesPost w (ptBytes p)) := by
  cases p with
  | o => exact eBytes_o w
  | mk x y =>
    show Calls _ _ _ _ (BytesPost w (UInt8.ofNat (2 + y.val % 2) :: bytes32 x.val))
    rcases Nat.mod_two_eq_zero_or_one y.val with h | h
    · have := eBytes_mk0 (x := x.val) h w
      rw [h]; exact this
    · have := eBytes_mk1 (x := x.val) h w
      rw [h]; exact this
end Go.Proofs.YtecibidncelebaaDoor
