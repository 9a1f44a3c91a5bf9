/-
  Package sign: contracts of Bytes and Parse.
-/
import Derived.Test.YtfgffjmpjoipeaaDoorSgAlive
import Derived.Test.YtfgffjmpjoipeaaDoorCvParse
namespace Go.Proofs.YtfgffjmpjoipeaaDoor
open Go Go.RowKit

open Cv
/-- a signature's bytes -/
def sigB (r s : Nat) : List UInt8 := bytes32 r ++ bytes32 s
theorem sigB_len (r s : Nat) : (sigB r s).length = 64 := by unfold sigB; rw [List.length_append, bytes32_length, bytes32_length]
theorem sigB_take (r s : Nat) : (sigB r s).take 32 = bytes32 r := by unfold sigB; exact List.take_left' (bytes32_length r)
theorem sigB_drop (r s : Nat) : (sigB r s).drop 32 = bytes32 s := by unfold sigB; exact List.drop_left' (bytes32_length r)
theorem sigB_back {l : List UInt8} (h : l.length = 64) : sigB (numOf (l.take 32)) (numOf (l.drop 32)) = l := by
  unfold sigB
  rw [bytes_numOf _ (by simp; omega), bytes_numOf _ (by simp; omega), List.take_append_drop]
theorem zero_arr32H : ((Tryd.prog.info? 39).bind (·.zero)).map Value.cells = some (bcells hash0) := zero_arr32
theorem own_make {w : World} {g base : Nat} (hb : base ≤ g) (h : Row w g 5 (Array.replicate 64 (.int .u8 0))) : OwnB w base (.slice (some ⟨g, 0, none⟩) 0 64) [] :=
  ⟨rfl, .inr ⟨g, 64, _, rfl, hb, h, by decide, by decide, by simp, by simp⟩⟩
theorem own_less {w : World} {b b' : Nat} {v : Value} {l : List UInt8} (hb : b' ≤ b) (h : OwnB w b v l) : OwnB w b' v l :=
  ⟨h.1, h.2.imp id fun ⟨g, cap, cur, e, hg, rest⟩ => ⟨g, cap, cur, e, Nat.le_trans hb hg, rest⟩⟩
theorem OwnB.vals {w : World} {b : Nat} {v : Value} {l : List UInt8} (h : OwnB w b v l) : IsVals w v (l.map VB) := isVals_own h
def SigPost (w : World) (l : List UInt8) (e : Ending) (w' : World) : Prop := ∃ v, e = .returned v ∧ OwnB w' w.heap.size v l ∧ Below w.heap.size w w'
section
variable {ops : Array Oper} {Q : Exit → Act → World → Prop} {rest : List Oper} {o : Oper} {a : Act} {w : World}
theorem kSliceTo32 (x y : Operand) (v u : Value) (l : List Value) (ho : o.op = .slice 42 x none (some y) none) (hg : Region.wanted o (yielded ops a.tmps) = true) (hx : a.eval x = v) (hy : a.eval y = .int .i64 32) (hv : IsVals w v l) (hn : 32 ≤ l.length) (hu : toV v 32 = u)
    (h : wpList Tryd.prog ops Q rest (a.put o.dst u) w) : wpList Tryd.prog ops Q (o :: rest) a w :=
  kSliceToV _ _ x y v l .i64 32 32 ho hg hx hy Tryd.underlying42 info_b8 hv rfl hn (by rw [hu]; exact h)
theorem kSliceFrom32 (x y : Operand) (v u : Value) (l : List Value) (ho : o.op = .slice 42 x (some y) none none) (hg : Region.wanted o (yielded ops a.tmps) = true) (hx : a.eval x = v) (hy : a.eval y = .int .i64 32) (hv : IsVals w v l) (hn : 32 ≤ l.length) (hu : fromV v 32 = u)
    (h : wpList Tryd.prog ops Q rest (a.put o.dst u) w) : wpList Tryd.prog ops Q (o :: rest) a w :=
  kSliceFromV _ _ x y v l .i64 32 32 ho hg hx hy Tryd.underlying42 info_b8 hv rfl hn (by rw [hu]; exact h)
end
/-- 64 bytes: two times 32 -/
theorem two_halves {w : World} {v : Value} {l : List UInt8} (hv : IsVals w v (l.map VB)) (hl : l.length = 64) : ∃ ad cap cap2, toV v 32 = .slice (some ad) 32 cap ∧ fromV v 32 = .slice (some (ad.add 32)) 32 cap2 ∧ (BytesAt w ad fun j => ((l.take 32).getD j 0).toNat) ∧ BytesAt w (ad.add 32) fun j => ((l.drop 32).getD j 0).toNat := by
  obtain ⟨ao, cap, rfl, hc, hn, hj⟩ := hv
  have hml : (l.map VB).length = 64 := by rw [List.length_map, hl]
  rw [hml] at hc
  have hget : ∀ j, j < 64 → (l.map VB)[j]? = some (VB (l.getD j 0)) := fun j hj => by
    rw [List.getElem?_map, List.getD_eq_getElem?_getD, List.getElem?_eq_getElem (by omega)]; rfl
  obtain ⟨a, rfl, _⟩ := hj 0 _ (hget 0 (by decide))
  refine ⟨a, cap, cap - 32, ?_, ?_, fun j hj32 => ?_, fun j hj32 => ?_⟩
  · show Value.slice _ _ _ = _
    rfl
  · show Value.slice _ _ _ = _
    rw [hml, if_neg (by omega)]; rfl
  · obtain ⟨a', e, hcell⟩ := hj j _ (hget j (by omega))
    cases e
    rw [hcell]
    have e2 : (l.take 32).getD j 0 = l.getD j 0 := by rw [List.getD_eq_getElem?_getD, List.getD_eq_getElem?_getD, List.getElem?_take_of_lt hj32]
    rw [← e2]; rfl
  · obtain ⟨a', e, hcell⟩ := hj (32 + j) _ (hget (32 + j) (by omega))
    cases e
    rw [add_add a 32 j (by decide), hcell]
    have e2 : (l.drop 32).getD j 0 = l.getD (32 + j) 0 := by rw [List.getD_eq_getElem?_getD, List.getD_eq_getElem?_getD, List.getElem?_drop]
    rw [← e2]; rfl
set_option maxRecDepth 100000 in
set_option maxHeartbeats 8000000 in
theorem sBytes_any (r s : Nat) (w : World) : Calls Tryd.prog 22 #[.agg (wcells2 r s)] w (SigPost w (sigB r s)) := by
  obtain ⟨i, hi, hz, hs1, hby⟩ := b8Info
  have hM0 := mm_nil w
  (try unfold WV)
  go_enter Tryd.func22, Tryd.ntmps22
  go_wp2_with (first
    | ((with_reducible change wpList _ _ _ (Oper.mk (some 1) _ _ _ _ _ :: _) _ _); refine mmBox hM0 _ _ (wcells2 r s) rfl rfl rfl ?_; intro w1 hM1; clear hM0; go_frame))
  refine region_symT 8 _ [6, 7] [3, 4] [.val (.pointer (some ⟨w.heap.size, 0, none⟩)), .val (.agg (wcells r)), .val (.agg (bcells ((bytesOf r)))), .val (.pointer (some ⟨w.heap.size, 4, none⟩)), .val (.agg (wcells s)), .val (.agg (bcells ((bytesOf s)))), .hold w1.heap.size 39 (bcells hash0), .hold w1.heap.size 39 (bcells hash0)] rfl (by kernel_rfl) (by kernel_rfl) (by kernel_rfl) (by kernel_rfl) rfl (by intro s hs; simp only [List.mem_cons, List.not_mem_nil, or_false] at hs; rcases hs with rfl | rfl <;> rfl) (steps_all ⟨?_, ?_, ?_, ?_, ?_, ?_, ?_, ?_, trivial⟩) ?_
  · exact fun A W sz ot hbel ap dp => kFieldSig0 _ _ rfl rfl (sO ot 1) (sE ap sz rfl)
  · exact fun A W sz ot hbel ap dp => kLoadAs _ _ _ _ _ 4 _ _ _ rfl rfl (sD dp 0 .data) ((hM1.get 0 rfl).on hbel) Tryd.underlying24 rfl info_Wide (by rw [wcells2_size]; decide) (wcells2_at0 _ _) (sE ap sz rfl)
  · exact fun A W sz ot hbel ap dp => sCall1 54 rfl (sD dp 1 .data) (sC (wBytes_any r W) ap sz (fun _ => rfl))
  · exact fun A W sz ot hbel ap dp => kFieldSig1 _ _ rfl rfl (sO ot 1) (sE ap sz rfl)
  · exact fun A W sz ot hbel ap dp => kLoadAs _ _ _ _ _ 4 _ _ _ rfl rfl (sD dp 3 .data) ((hM1.get 0 rfl).on hbel) Tryd.underlying24 rfl info_Wide (by rw [wcells2_size]; decide) (wcells2_at4 _ _) (sE ap sz rfl)
  · exact fun A W sz ot hbel ap dp => sCall1 54 rfl (sD dp 4 .data) (sC (wBytes_any s W) ap sz (fun _ => rfl))
  · intro A W sz ot hbel ap dp
    refine kAllocL _ _ rfl rfl zero_arr32H ?_
    intro r hR hl hBc
    exact (sA ap sz hl hBc ⟨_, rfl, hbel.size, hR⟩ rfl)
  · intro A W sz ot hbel ap dp
    refine kAllocL _ _ rfl rfl zero_arr32H ?_
    intro r hR hl hBc
    exact (sA ap sz hl hBc ⟨_, rfl, hbel.size, hR⟩ rfl)
  intro w2 hB2
  dsimp only [AllV]
  intro g2_3 hg2_3 hR2_3
  intro g2_4 hg2_4 hR2_4
  intro hap
  dsimp only [putAll, List.take, List.drop]
  go_frame
  have hM2 := hM1.on hB2
  replace hM2 := hM2.cons hR2_3 (Nat.le_trans hM1.size hg2_3) (fun p hp => by have := hM1.lt hp; omega)
  have hne2_4_2_3 : g2_4 ≠ g2_3 := fun e => hap 7 (by simp) 6 (by simp) (by decide) g2_4 rfl (by rw [e]; rfl)
  replace hM2 := hM2.cons hR2_4 (Nat.le_trans hM1.size hg2_4) (List.forall_mem_cons.2 ⟨hne2_4_2_3, fun p hp => by have := hM1.lt hp; omega⟩)
  clear hB2 hM1 hap hg2_3 hR2_3 hg2_4 hR2_4
  go_wp2_with (first
    | ((with_reducible change wpList _ _ _ (Oper.mk none (Op.store _ (Operand.tmp 3) (Operand.tmp 8)) _ _ _ _ :: _) _ _); refine mmStoreAt hM2 1 _ _ _ _ _ _ (bcells ((bytesOf r))) rfl rfl rfl rfl rfl (info_arr32C _) (by simp only [bcells_size]) (bcells_one _) ?_; intro w3 hM3; dsimp only [List.set] at hM3; clear hM2; go_frame)
    | ((with_reducible change wpList _ _ _ (Oper.mk none (Op.store _ (Operand.tmp 4) (Operand.tmp 11)) _ _ _ _ :: _) _ _); refine mmStoreAt hM3 0 _ _ _ _ _ _ (bcells ((bytesOf s))) rfl rfl rfl rfl rfl (info_arr32C _) (by simp only [bcells_size]) (bcells_one _) ?_; intro w4 hM4; dsimp only [List.set] at hM4; clear hM3; go_frame)
    | ((with_reducible change wpList _ _ _ (Oper.mk (some 12) _ _ _ _ _ :: _) _ _); refine kMake _ _ _ _ rfl rfl i _ Tryd.underlying42 hi hz hs1 (.int .u8 0) rfl _ _ _ _ 0 64 rfl rfl rfl rfl (by decide) (by rw [hby]; decide) (by decide) ?_; intro w20 hR20 hz20 hB20; clear hz20; have hO20 := own_make (base := w4.heap.size) (Nat.le_refl _) hR20; clear hR20; go_frame)
    | ((with_reducible change wpList _ _ _ (Oper.mk (some 14) _ _ _ _ _ :: _) _ _); refine kSliceArrAll _ _ 32 _ rfl rfl Tryd.underlying39 info_b8 _ _ rfl ?_; go_frame)
    | ((with_reducible change wpList _ _ _ (Oper.mk (some 15) _ _ _ _ _ :: _) _ _); refine kAppend _ _ _ _ rfl rfl w4.heap.size i _ Tryd.underlying42 hi hz hs1 rfl _ _ _ ((bytes32 r).map VB) rfl hO20 rfl (isVals_b32 ((hM4.get 1 rfl).on hB20)) (vbs_one _) (by unfold maxLen; simp [bytes32_length]) (by rw [hby]; simp [bytes32_length]) (by have := hB20.size; omega) ?_; intro v21 w21 hO21 hG21; have hB21 := hB20.trans (below_grown hO20 hG21 (by have := hB20.size; omega)); clear hG21 hO20; go_frame)
    | ((with_reducible change wpList _ _ _ (Oper.mk (some 17) _ _ _ _ _ :: _) _ _); refine kSliceArrAll _ _ 32 _ rfl rfl Tryd.underlying39 info_b8 _ _ rfl ?_; go_frame)
    | ((with_reducible change wpList _ _ _ (Oper.mk (some 18) _ _ _ _ _ :: _) _ _); refine kAppend _ _ _ _ rfl rfl w4.heap.size i _ Tryd.underlying42 hi hz hs1 rfl _ _ _ ((bytes32 s).map VB) rfl hO21 rfl (isVals_b32 ((hM4.get 0 rfl).on hB21)) (vbs_one _) (by unfold maxLen; simp [bytes32_length]) (by rw [hby]; simp [bytes32_length]) (by have := hB21.size; omega) ?_; intro v22 w22 hO22 hG22; have hB22 := hB21.trans (below_grown hO21 hG22 (by have := hB21.size; omega)); clear hG22 hO21; go_frame))
  go_ret
  exact ⟨_, rfl, own_less hM4.below.size (by unfold OwnB sigB; rw [List.map_append]; exact hO22), hM4.below.trans (hB22.mono hM4.below.size)⟩
set_option maxRecDepth 100000 in
set_option maxHeartbeats 8000000 in
theorem sParse_no {l : List UInt8} {v : Value} (h : l.length ≠ 64) (w : World) (hv : IsVals w v (l.map VB)) : Calls Tryd.prog 14 #[v] w fun e w' => e = .returned (.tuple #[.agg (wcells2 0 0), .int .i64 51]) ∧ Below w.heap.size w w' := by
  obtain ⟨L, HL⟩ : ∃ n, Hid ((l.map VB).length = n) := ⟨_, Lib.hid rfl⟩
  have hL : L = l.length := by rw [← HL.out, List.length_map]
  have F8 := Lib.hid (show (!decide ((L : Int) = 64)) = true by rw [decide_eq_false (show ¬((L : Int) = 64) by omega)]; rfl)
  clear h hL
  have hM0 := mm_nil w
  (try unfold WV)
  go_enter Tryd.func14, Tryd.ntmps14
  go_wp2_with (first
    | ((with_reducible change wpList _ _ _ (Oper.mk (some 2) _ _ _ _ _ :: _) _ _); refine mmAlloc hM0 _ _ rfl rfl zero_Sig ?_; intro w1 hM1; clear hM0; go_frame)
    | ((with_reducible change wpList _ _ _ (Oper.mk (some 7) _ _ _ _ _ :: _) _ _); refine kLenN _ _ _ _ _ L rfl rfl rfl ((hv.below hM1.below)) HL.out Tryd.underlying42 ?_; go_frame)
    | ((with_reducible change wpList _ _ _ (Oper.mk (some 8) _ _ _ _ _ :: _) _ _); refine kNeqI _ _ _ _ .i64 ((L : Int)) (64) true rfl rfl rfl rfl (F8.out) ?_; go_frame)
    | ((with_reducible change wpList _ _ _ (Oper.mk (some 9) _ _ _ _ _ :: _) _ _); refine kBuildSig0 rfl rfl ?_; go_frame)
    | ((with_reducible change wpList _ _ _ (Oper.mk none (Op.store _ (Operand.tmp 2) (Operand.tmp 9)) _ _ _ _ :: _) _ _); refine mmStoreAt hM1 0 _ _ _ _ _ _ (wcells2 0 0) rfl rfl rfl rfl rfl (info_SigC _ _) rfl (wcells2_one _ _) ?_; intro w2 hM2; dsimp only [List.set] at hM2; clear hM1; go_frame))
  exact result_row_tmp Tryd.results14 rfl rfl (hM2.get 0 rfl) Tryd.underlying35 rfl (info_SigC _ _) rfl ⟨rfl, hM2.below⟩
set_option maxRecDepth 100000 in
set_option maxHeartbeats 8000000 in
theorem sParse_as {l : List UInt8} {v : Value} {xa xb : Nat} (h : l.length = 64) (hxa : numOf (l.take 32) = xa) (hxb : numOf (l.drop 32) = xb) (w : World) (hv : IsVals w v (l.map VB)) : Calls Tryd.prog 14 #[v] w fun e w' => e = .returned (.tuple #[.agg (wcells2 xa xb), .int .i64 0]) ∧ Below w.heap.size w w' := by
  obtain ⟨L, HL⟩ : ∃ n, Hid ((l.map VB).length = n) := ⟨_, Lib.hid rfl⟩
  have hL : L = l.length := by rw [← HL.out, List.length_map]
  have F8 := Lib.hid (show (!decide ((L : Int) = 64)) = false by rw [decide_eq_true (show (L : Int) = 64 by omega)]; rfl)
  obtain ⟨ad, cap, cap2, hto, hfr, ha, hb⟩ := two_halves hv h
  have Hn := Lib.hid (show 32 ≤ (l.map VB).length by rw [List.length_map, h]; decide)
  have Hto := Lib.hid hto
  have Hfr := Lib.hid hfr
  have Hxa := Lib.hid hxa
  have Hxb := Lib.hid hxb
  obtain ⟨fa, Hfa⟩ : ∃ f, Hid (f = fun j => ((l.take 32).getD j 0).toNat) := ⟨_, Lib.hid rfl⟩
  obtain ⟨fb, Hfb⟩ : ∃ f, Hid (f = fun j => ((l.drop 32).getD j 0).toNat) := ⟨_, Lib.hid rfl⟩
  rw [← Hfa.out] at ha
  rw [← Hfb.out] at hb
  clear h hL hto hfr hxa hxb
  have hM0 := mm_nil w
  (try unfold WV)
  go_enter Tryd.func14, Tryd.ntmps14
  go_wp2_with (first
    | ((with_reducible change wpList _ _ _ (Oper.mk (some 2) _ _ _ _ _ :: _) _ _); refine mmAlloc hM0 _ _ rfl rfl zero_Sig ?_; intro w1 hM1; clear hM0; go_frame)
    | ((with_reducible change wpList _ _ _ (Oper.mk (some 7) _ _ _ _ _ :: _) _ _); refine kLenN _ _ _ _ _ L rfl rfl rfl ((hv.below hM1.below)) HL.out Tryd.underlying42 ?_; go_frame)
    | ((with_reducible change wpList _ _ _ (Oper.mk (some 8) _ _ _ _ _ :: _) _ _); refine kNeqI _ _ _ _ .i64 ((L : Int)) (64) false rfl rfl rfl rfl (F8.out) ?_; go_frame))
  refine region_symN [8, 9] [4, 5] (by kernel_rfl) (fun i => [0, 0, 0, 0, 0, 0, 0, 0, 0, 0, 8, 9].getD i 0) [.val (v), .val (.slice (some ad) 32 cap), .val (.pointer (some ad)), .val (.agg (bcells fa)), .val (v), .val (.slice (some (ad.add 32)) 32 cap2), .val (.pointer (some (ad.add 32))), .val (.agg (bcells fb)), .fresh w1.heap.size 39 32, .fresh w1.heap.size 39 32, .hold w1.heap.size 39 (bcells fa), .hold w1.heap.size 39 (bcells fb)] [.val (v), .val (.slice (some ad) 32 cap), .val (.pointer (some ad)), .val (.agg (bcells fa)), .val (v), .val (.slice (some (ad.add 32)) 32 cap2), .val (.pointer (some (ad.add 32))), .val (.agg (bcells fb)), .hold w1.heap.size 39 (bcells fa), .hold w1.heap.size 39 (bcells fb), .val undef, .val undef] (by kernel_rfl) (by kernel_rfl) rfl rfl (by intro s hs; simp only [List.mem_cons, List.not_mem_nil, or_false] at hs; rcases hs with rfl | rfl <;> rfl) (steps_all ⟨?_, ?_, ?_, ?_, ?_, ?_, ?_, ?_, ?_, ?_, ?_, ?_, trivial⟩) ?_
  · intro A W hsz hoth hbel hX hdep
    exact kMoveV _ _ rfl rfl ((hoth 0 (free2_of (by kernel_rfl))).trans rfl) (symVN hbel hX hsz rfl rfl (show 10 < 23 by decide) rfl (Below.refl _ _) rfl)
  · intro A W hsz hoth hbel hX hdep
    exact kSliceTo32 _ _ v _ _ rfl rfl (by have h := hdep ⟨0, .data⟩ (by simp) rfl; exact h) rfl (hv.below (hM1.below.trans (hbel.mono hM1.below.size))) Hn.out Hto.out (symVN hbel hX hsz rfl rfl (show 11 < 23 by decide) rfl (Below.refl _ _) rfl)
  · intro A W hsz hoth hbel hX hdep
    exact kArrPtr _ ad cap rfl rfl (by have h := hdep ⟨1, .data⟩ (by simp) rfl; exact h) (symVN hbel hX hsz rfl rfl (show 12 < 23 by decide) rfl (Below.refl _ _) rfl)
  · intro A W hsz hoth hbel hX hdep
    exact kLoad32 _ ad fa rfl rfl (by have h := hdep ⟨2, .data⟩ (by simp) rfl; exact h) (ha.below (hM1.below.trans (hbel.mono hM1.below.size))) (symVN hbel hX hsz rfl rfl (show 13 < 23 by decide) rfl (Below.refl _ _) rfl)
  · intro A W hsz hoth hbel hX hdep
    exact kMoveV _ _ rfl rfl ((hoth 0 (free2_of (by kernel_rfl))).trans rfl) (symVN hbel hX hsz rfl rfl (show 14 < 23 by decide) rfl (Below.refl _ _) rfl)
  · intro A W hsz hoth hbel hX hdep
    exact kSliceFrom32 _ _ v _ _ rfl rfl (by have h := hdep ⟨4, .data⟩ (by simp) rfl; exact h) rfl (hv.below (hM1.below.trans (hbel.mono hM1.below.size))) Hn.out Hfr.out (symVN hbel hX hsz rfl rfl (show 15 < 23 by decide) rfl (Below.refl _ _) rfl)
  · intro A W hsz hoth hbel hX hdep
    exact kArrPtr _ (ad.add 32) cap2 rfl rfl (by have h := hdep ⟨5, .data⟩ (by simp) rfl; exact h) (symVN hbel hX hsz rfl rfl (show 16 < 23 by decide) rfl (Below.refl _ _) rfl)
  · intro A W hsz hoth hbel hX hdep
    exact kLoad32 _ (ad.add 32) fb rfl rfl (by have h := hdep ⟨6, .data⟩ (by simp) rfl; exact h) (hb.below (hM1.below.trans (hbel.mono hM1.below.size))) (symVN hbel hX hsz rfl rfl (show 17 < 23 by decide) rfl (Below.refl _ _) rfl)
  · intro A W hsz hoth hbel hX hdep
    refine kAllocL _ _ rfl rfl zero_arr32H ?_
    intro r hR hl hBc
    exact (symAN hbel hX hsz rfl rfl (show 4 < 23 by decide) hl hBc ⟨_, _, rfl, hbel.size, bcells_size _, hR⟩)
  · intro A W hsz hoth hbel hX hdep
    refine kAllocL _ _ rfl rfl zero_arr32H ?_
    intro r hR hl hBc
    exact (symAN hbel hX hsz rfl rfl (show 5 < 23 by decide) hl hBc ⟨_, _, rfl, hbel.size, bcells_size _, hR⟩)
  · intro A W hsz hoth hbel hX hdep
    obtain ⟨g, cs, d8, hg, hcs, hR⟩ : ∃ g cs, A.tmps.getD 4 undef = .pointer (some ⟨g, 0, none⟩) ∧ w1.heap.size ≤ g ∧ cs.size = 32 ∧ Row W g 39 cs := (by have h := hdep ⟨8, .data⟩ (by simp) rfl; exact h)
    refine kStoreRow _ _ _ _ _ _ (bcells fa) rfl rfl d8 (by have h := hdep ⟨3, .data⟩ (by simp) rfl; exact h) hR (info_arr32C _) (by rw [bcells_size, hcs]) (bcells_one _) ?_
    intro r hR2 hW
    exact symWN (s := 4) hbel hX rfl rfl rfl d8 hR hW hg hR2 (by simp [OnlyAt, srcOf, dstOf, bcells_size]) ⟨g, d8, hg, hR2⟩
  · intro A W hsz hoth hbel hX hdep
    obtain ⟨g, cs, d8, hg, hcs, hR⟩ : ∃ g cs, A.tmps.getD 5 undef = .pointer (some ⟨g, 0, none⟩) ∧ w1.heap.size ≤ g ∧ cs.size = 32 ∧ Row W g 39 cs := (by have h := hdep ⟨9, .data⟩ (by simp) rfl; exact h)
    refine kStoreRow _ _ _ _ _ _ (bcells fb) rfl rfl d8 (by have h := hdep ⟨7, .data⟩ (by simp) rfl; exact h) hR (info_arr32C _) (by rw [bcells_size, hcs]) (bcells_one _) ?_
    intro r hR2 hW
    exact symWN (s := 5) hbel hX rfl rfl rfl d8 hR hW hg hR2 (by simp [OnlyAt, srcOf, dstOf, bcells_size]) ⟨g, d8, hg, hR2⟩
  intro w2 hB2
  dsimp only [AllV]
  intro g2_4 hg2_4 hR2_4
  intro g2_5 hg2_5 hR2_5
  intro hap
  dsimp only [putAll]
  go_frame
  have hM2 := hM1.on hB2
  replace hM2 := hM2.cons hR2_4 (Nat.le_trans hM1.size hg2_4) (fun p hp => by have := hM1.lt hp; omega)
  have hne2_5_2_4 : g2_5 ≠ g2_4 := fun e => hap 9 (by simp) 8 (by simp) (by decide) g2_5 rfl (by rw [e]; rfl)
  replace hM2 := hM2.cons hR2_5 (Nat.le_trans hM1.size hg2_5) (List.forall_mem_cons.2 ⟨hne2_5_2_4, fun p hp => by have := hM1.lt hp; omega⟩)
  clear hB2 hM1 hg2_4 hR2_4 hg2_5 hR2_5 hap
  go_wp2_with fail
  refine region_symT 5 _ [] [] [.val (.agg (bcells fa)), .val (.agg (wcells xa)), .val (.agg (bcells fb)), .val (.agg (wcells xb)), .val (.agg (wcells2 xa xb))] rfl (by kernel_rfl) (by kernel_rfl) (by kernel_rfl) (by kernel_rfl) rfl (by intro s hs; cases hs) (steps_all ⟨?_, ?_, ?_, ?_, ?_, trivial⟩) ?_
  · exact fun A W sz ot hbel ap dp => kLoadRow _ _ _ _ _ _ rfl rfl (sO ot 4) ((hM2.get 1 rfl).on hbel) Tryd.underlying39 rfl (info_arr32C _) (sE ap sz rfl)
  · exact fun A W sz ot hbel ap dp => sCall1 33 rfl (sD dp 0 .data) (sC (wFrom_as Hfa.out Hxa.out W) ap sz (fun _ => rfl))
  · exact fun A W sz ot hbel ap dp => kLoadRow _ _ _ _ _ _ rfl rfl (sO ot 5) ((hM2.get 0 rfl).on hbel) Tryd.underlying39 rfl (info_arr32C _) (sE ap sz rfl)
  · exact fun A W sz ot hbel ap dp => sCall1 33 rfl (sD dp 2 .data) (sC (wFrom_as Hfb.out Hxb.out W) ap sz (fun _ => rfl))
  · exact fun A W sz ot hbel ap dp => kBuildSig2 _ _ xa xb rfl rfl (sD dp 1 .data) (sD dp 3 .data) (sE ap sz rfl)
  intro w3 hB3
  dsimp only [AllV]
  intro hap
  dsimp only [putAll, List.take, List.drop]
  go_frame
  have hM3 := hM2.on hB3
  clear hB3 hM2 hap
  go_wp2_with (first
    | ((with_reducible change wpList _ _ _ (Oper.mk none (Op.store _ (Operand.tmp 2) (Operand.tmp 22)) _ _ _ _ :: _) _ _); refine mmStoreAt hM3 2 _ _ _ _ _ _ (wcells2 xa xb) rfl rfl rfl rfl rfl (info_SigC _ _) rfl (wcells2_one _ _) ?_; intro w4 hM4; dsimp only [List.set] at hM4; clear hM3; go_frame))
  exact result_row_tmp Tryd.results14 rfl rfl (hM4.get 2 rfl) Tryd.underlying35 rfl (info_SigC _ _) rfl ⟨rfl, hM4.below⟩
end Go.Proofs.YtfgffjmpjoipeaaDoor
