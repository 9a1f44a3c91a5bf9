/-
  Layer 9: the walks of what reads: references and outputs, the program's and the reference's.
-/
import Derived.Test.YtmfjgehlkbndjaaGreatDoorCoWrite
import Derived.Test.YtmfjgehlkbndjaaGreatDoorPcRefRead2
namespace Go.Proofs.YtmfjgehlkbndjaaGreatDoor
open Go Go.RowKit

variable {Lm : Nat}
def put32 (x : List UInt8) : List UInt8 := x.take 32 ++ List.replicate (32 - x.length) 0
theorem put32_len (x : List UInt8) : (put32 x).length = 32 := by unfold put32; simp; omega
theorem put32_id {x : List UInt8} (h : x.length = 32) : put32 x = x := by unfold put32; rw [h]; simp [List.take_of_length_le (Nat.le_of_eq h)]
theorem ref_put (x : List UInt8) : splice (refC z32 0) 0 ((x.map VB).take 32) = refC (put32 x) 0 := by
  rw [refC_eq (l := z32) rfl, refC_eq (put32_len x)]
  unfold splice put32 z32
  rw [List.map_append, List.map_take, List.map_replicate, List.map_replicate]
  have hxl : (x.map VB).length = x.length := by simp
  generalize x.map VB = m at *
  have hl : (List.take 32 m).length = min 32 m.length := List.length_take
  rw [hl, ← hxl, Nat.zero_add]
  simp only [List.take_zero, List.nil_append]
  rw [List.drop_append_of_le_length (by rw [List.length_replicate]; omega), List.drop_replicate, show 32 - min 32 m.length = 32 - m.length by omega, List.append_assoc]
def fill32 (x : List UInt8) (k : Nat) : List UInt8 := x.take k ++ List.replicate (32 - k) 0
theorem fill32_len {x : List UInt8} (h : x.length = 32) {k : Nat} (hk : k ≤ 32) : (fill32 x k).length = 32 := by unfold fill32; simp; omega
theorem fill32_all {x : List UInt8} (h : x.length = 32) : fill32 x 32 = x := by unfold fill32; simp [List.take_of_length_le (Nat.le_of_eq h)]
theorem fill32_step {x : List UInt8} (h : x.length = 32) {k : Nat} (hk : k < 32) : (fill32 x k).set k (at8 x k) = fill32 x (k + 1) := by
  refine List.ext_getElem? fun j => ?_
  unfold fill32
  rw [List.getElem?_set]
  have ha : at8 x k = x[k] := by simp [at8, show k < x.length by omega]
  have hl : (List.take k x).length = k := by simp; omega
  have hl1 : (List.take (k + 1) x).length = k + 1 := by simp; omega
  by_cases hj : k = j
  · subst hj
    rw [if_pos rfl, if_pos (by simp; omega), List.getElem?_append_left (by omega), ha]
    simp [show k < x.length by omega]
  · rw [if_neg hj]
    by_cases hlt : j < k
    · rw [List.getElem?_append_left (by omega), List.getElem?_append_left (by omega)]
      simp [hlt, show j < k + 1 by omega]
    · rw [List.getElem?_append_right (by omega), List.getElem?_append_right (by omega), hl, hl1]
      simp only [List.getElem?_replicate]
      by_cases h32 : j < 32
      · rw [if_pos (by omega), if_pos (by omega)]
      · rw [if_neg (by omega), if_neg (by omega)]
theorem ref_fill {x : List UInt8} (h : x.length = 32) {k : Nat} (hk : k < 32) : (refC (fill32 x k) 0).setIfInBounds k (VB (at8 x k)) = refC (fill32 x (k + 1)) 0 := by
  rw [refC_eq (fill32_len h (by omega)), refC_eq (fill32_len h (by omega)), ← fill32_step h hk, List.map_set]
  rw [List.setIfInBounds_toArray, List.set_append_left _ _ (by rw [List.length_map, fill32_len h (by omega)]; exact hk)]
theorem fixed4_lt (s : Scn) : (fixedS s 4).1 < 4294967296 := by
  unfold fixedS
  rw [clamp4, rawS_take]
  have h1 := takeS_len s 4
  have h2 := numL_lt (takeS s 4).1
  have h3 : 256 ^ (takeS s 4).1.length ≤ 256 ^ 4 := Nat.pow_le_pow_right (by decide) h1
  have h4 : (256 : Nat) ^ 4 = 4294967296 := by decide
  dsimp only
  omega
/-- bytes, over what is written where no byte lies -/
theorem vals_wroteN {w w' : World} {g : Nat} {T : TypeId} {cs : Array Value} {v : Value} {l : List UInt8} (hv : IsVals w v (l.map VB)) (hr : Row w g T cs) (hno : ∀ (j : Nat) (c : UInt8), cs[j]? ≠ some (VB c)) (hW : Wrote g w w') : IsVals w' v (l.map VB) := by
  obtain ⟨ao, c, rfl, hc, hn, hj⟩ := hv
  refine ⟨ao, c, rfl, hc, hn, fun j u hu => ?_⟩
  obtain ⟨a, rfl, hcell⟩ := hj j u hu
  obtain ⟨x, -, rfl⟩ : ∃ x, x ∈ l ∧ VB x = u := by
    have := List.mem_of_getElem? hu
    simpa using this
  refine ⟨a, rfl, ?_⟩
  have hne : (a.add j).block ≠ g := by
    intro he
    unfold World.cell? at hcell
    rw [he] at hcell
    have hr' : w.heap[g]? = some (.cells cs T (0, 0)) := hr
    rw [hr'] at hcell
    simp only at hcell
    split at hcell
    · cases hcell
    · exact hno _ _ hcell
  rw [World.cell?_of_block (w := w) (hW.other _ hne)]; exact hcell
theorem own_wroteN {w w' : World} {g b : Nat} {T : TypeId} {cs : Array Value} {v : Value} {l : List UInt8} (ho : OwnB w b v l) (hr : Row w g T cs) (hT : T ≠ 5) (hW : Wrote g w w') : OwnB w' b v l := by
  refine ⟨ho.1, ?_⟩
  rcases ho.2 with hn | ⟨k, cap, cur, rfl, hb, hk, rest⟩
  · exact .inl hn
  · refine .inr ⟨k, cap, cur, rfl, hb, ?_, rest⟩
    have hne : k ≠ g := by
      rintro rfl
      have hr' : w.heap[k]? = some (.cells cs T (0, 0)) := hr
      rw [hr'] at hk
      simp only [Option.some.injEq, Obj.cells.injEq] at hk
      exact hT hk.2.1
    rw [hW.other k hne]; exact hk
theorem out_noByte (n : Int) {w : World} {v : Value} {l : List Value} (h : IsVals w v l) (j : Nat) (c : UInt8) : (outC n v)[j]? ≠ some (VB c) := by
  obtain ⟨ao, k, rfl, _⟩ := h
  match j with
  | 0 => simp [outC]
  | 1 => simp [outC]
  | j + 2 => simp [outC]
theorem Rd.wroteN {T U : TypeId} {w w' : World} {g B : Nat} {s : Scn} {cs : Array Value} (h : Rd Lm T w g s) (hr : Row w B U cs) (hno : ∀ (j : Nat) (c : UInt8), cs[j]? ≠ some (VB c)) (hW : Wrote B w w') (hg : g ≠ B) : Rd Lm T w' g s := by
  obtain ⟨v, h1, h2, h3⟩ := h
  exact ⟨v, hW.row h1 hg, vals_wroteN h2 hr hno hW, h3⟩
theorem raw_restLeC (s : Scn) (z : Int) : (rawS s z).2.rest.length ≤ s.rest.length := by
  unfold rawS
  split
  · exact Nat.le_refl _
  · split
    · exact Nat.le_refl _
    · show (List.drop _ _).length ≤ _
      rw [List.length_drop]; omega
theorem fixed_restLeC (s : Scn) (z : Int) : (fixedS s z).2.rest.length ≤ s.rest.length := raw_restLeC s _
section
variable {ops : Array Oper} {Q : Exit → Act → World → Prop} {rest : List Oper} {o : Oper} {a : Act} {w : World} {S : World → Prop}
theorem ySliceArrC {P : Program} {T E : TypeId} {len : Nat} (ht : P.underlying T = some (.array len E)) (hsz : (P.info? E).map (·.size) = some 1) (x : Operand) (g off : Nat) (ho : o.op = .slice T x none none none) (hg : Region.wanted o (yielded ops a.tmps) = true) (hx : a.eval x = .pointer (some ⟨g, off, none⟩)) : YieldsIf P ops S o (.slice (some ⟨g, off, none⟩) len len) a :=
  yOf hg fun w _ => by
    unfold execOp
    simp only [ho, hx, Option.map_none, Sem.run_bind, run_sliceArrAll ht hsz, Result.andThen_ok, Sem.run_pure]
end
def VPost (Lm : Nat) (T : TypeId) (g : Nat) (w : World) (p : Nat × Scn) (e : Ending) (w' : World) : Prop := e = .returned (.int .i64 (i64Z p.1)) ∧ Rd Lm T w' g p.2 ∧ Exc g w w'
def RefPost (Lm : Nat) (T : TypeId) (g : Nat) (w : World) (p : (List UInt8 × Nat) × Scn) (e : Ending) (w' : World) : Prop := e = .returned (.agg (refC p.1.1 p.1.2)) ∧ Rd Lm T w' g p.2 ∧ Exc g w w'
def OutPost (Lm : Nat) (T : TypeId) (g : Nat) (w : World) (p : (Int × List UInt8) × Scn) (e : Ending) (w' : World) : Prop := ∃ v, e = .returned (.agg (outC p.1.1 v)) ∧ OwnB w' w.heap.size v p.1.2 ∧ Rd Lm T w' g p.2 ∧ Exc g w w'
set_option maxRecDepth 100000 in
set_option maxHeartbeats 8000000 in
theorem coValueRead_any {s : Scn} {g : Nat} (w : World) (h : Rd Lm 97 w g s) : Calls Tryz.prog 125 #[.pointer (some ⟨g, 0, none⟩)] w (VPost Lm 97 g w (fixedS s 8)) := by
  have hrf := rdFixed_any (z := 8) w h
  generalize fixedS s 8 = p at *
  go_enter Tryz.func125, Tryz.ntmps125
  go_wp2_with (first
    | (go_at_call 55; refine (hrf).mono ?_; rintro e w1 ⟨rfl, hr1, hX1⟩; clear hrf; go_frame)
    | ((with_reducible change wpList _ _ _ (Oper.mk (some 5) _ _ _ _ _ :: _) _ _); refine kConvUZ _ p.1 rfl rfl rfl ?_; go_frame))
  go_ret
  exact ⟨rfl, hr1, hX1⟩
set_option maxRecDepth 100000 in
set_option maxHeartbeats 8000000 in
theorem coLockRead_any {s : Scn} {g : Nat} (w : World) (h : Rd Lm 97 w g s) (hs : s.rest.length ≤ 1000000) : Calls Tryz.prog 126 #[.pointer (some ⟨g, 0, none⟩)] w (RawPost Lm 97 g w (textS s 2000)) := by
  have hrf := rdText_own (z := 2000) (by decide) w h hs
  generalize textS s 2000 = p at *
  go_enter Tryz.func126, Tryz.ntmps126
  go_wp2_with (first
    | (go_at_call 124; refine (hrf).mono ?_; rintro e w1 ⟨v1, rfl, hO1, hr1, hX1⟩; clear hrf; go_frame))
  go_ret
  exact ⟨_, rfl, hO1, hr1, hX1⟩
set_option maxRecDepth 100000 in
set_option maxHeartbeats 8000000 in
theorem coRefRead_any {s : Scn} {g : Nat} (W0 : World) (h : Rd Lm 97 W0 g s) (hs : s.rest.length ≤ 1000000) (hLm : Lm ≤ W0.heap.size) : Calls Tryz.prog 123 #[.pointer (some ⟨g, 0, none⟩)] W0 (RefPost Lm 97 g W0 (refS s)) := by
  have hgA : W0.heap.size ≠ g := by have := h.lt; omega
  obtain ⟨p, hp⟩ : ∃ p, rawS s 32 = p := ⟨_, rfl⟩
  have hpl : p.2.err = 0 → p.1.length = 32 := fun he => by rw [← hp] at he ⊢; exact raw_len (n := 32) he
  have hpr : p.2.rest.length ≤ 1000000 := by rw [← hp]; exact Nat.le_trans (raw_restLeC s 32) hs
  obtain ⟨q, hq⟩ : ∃ q, fixedS p.2 4 = q := ⟨_, rfl⟩
  have hn4 : q.1 < 4294967296 := by rw [← hq]; exact fixed4_lt _
  have hqp : q.2.err = 0 → p.2.err = 0 := fun he => fixed_ok (z := 4) (by rw [hq]; exact he)
  have hrw := fun w (h : Rd Lm 97 w g s) => rdRaw_any (z := 32) w h hs
  rw [hp] at hrw
  have hrf := fun w (h : Rd Lm 97 w g p.2) => rdFixed_any (z := 4) w h
  rw [hq] at hrf
  unfold refS
  rw [hp, hq]
  obtain ⟨N, hN⟩ : ∃ N, q.1 = N := ⟨_, rfl⟩
  obtain ⟨E, hEE⟩ : ∃ E, q.2.err = E := ⟨_, rfl⟩
  rw [hN] at hn4
  rw [hEE] at hqp ⊢
  clear hp hq
  by_cases he : E ≠ 0
  · rw [if_pos he]
    have hq0 : (!decide ((E : Int) = 0)) = true := by simp; exact he
    clear he hqp hpl
    go_enter Tryz.func123, Tryz.ntmps123
    go_wp2_with (first
      | ((with_reducible change wpList _ _ _ (Oper.mk (some 2) _ _ _ _ _ :: _) _ _); refine kAllocL _ _ rfl rfl zero_RefC ?_; intro w1 hRA hz1 hB1; have h1 := h.below hB1; have hgB : w1.heap.size ≠ g := (by have := h1.lt; omega); have hAB : W0.heap.size ≠ w1.heap.size := Nat.ne_of_lt hz1; have hLB : Lm ≤ w1.heap.size := (by omega); have hle : W0.heap.size ≤ w1.heap.size := (by omega); have hE1 := exc_below g hB1; clear hB1; go_frame)
      | ((with_reducible change wpList _ _ _ (Oper.mk (some 3) _ _ _ _ _ :: _) _ _); refine kAllocL _ _ rfl rfl zero_RefC ?_; intro w2 hRB hz2 hB2; have h2 := h1.below hB2; have hRA2 := hRA.below hB2 hRA.lt; have hE2 := hE1.trans (exc_below g hB2); clear h1 hRA hE1 hB2 hz1 hz2; go_frame))
    refine region_mixD [(0, true), (1, true), (2, true), (3, false), (4, false)] (fun _ => True) (by kernel_rfl) (by kernel_rfl) rfl ?_
    intro w3 hBd hsd
    have h3 := h2.below hBd
    have hRA3 := hRA2.below hBd hRA2.lt
    have hRB3 := hRB.below hBd hRB.lt
    have hE3 := hE2.trans (exc_below g hBd)
    clear h2 hRA2 hRB hE2 hBd hsd
    simp only [List.map_cons, List.map_nil]
    dsimp only [List.filterMap, List.getElem?_cons_zero, List.getElem?_cons_succ]
    have hS : True := trivial
    refine dY _ hS (yFld refCF0 _ _ 0 0 rfl rfl rfl rfl) ?_; go_frame
    refine dY _ hS (ySliceArrC Tryz.underlying24 info_b8P _ _ 0 rfl rfl rfl) ?_; go_frame
    refine dY _ hS (yMove _ (.pointer (some ⟨g, 0, none⟩)) rfl rfl rfl) ?_; go_frame
    refine dLoud ?_
    refine kCall2 92 _ _ _ _ _ rfl rfl (by kernel_rfl) rfl rfl ?_
    refine (hrw _ h3).mono ?_
    rintro e w4 ⟨v4, rfl, hV4, h4, hX4⟩
    have hRA4 := hX4.row hRA3 hgA
    have hRB4 := hX4.row hRB3 hgB
    have hE4 := hE3.trans hX4
    clear hRA3 hRB3 hE3 hX4 h3 hrw
    refine ⟨_, rfl, mixOn ⟨(fun _ => True), (fun _ h => h), hS, ?_⟩⟩
    go_frame
    refine dLoud ?_
    refine kCopy _ _ _ _ _ _ rfl rfl Tryz.underlying38 info_b8P _ 0 32 32 rfl v4 rfl (p.1.map VB) hV4 (vbs_one _) _ hRB4 (by rw [refC_size]; decide) ?_
    intro w5 hRB5 hW5
    rw [ref_put] at hRB5
    have hRA5 := hW5.row hRA4 hAB
    have h5 := h4.wrote hW5 hLB (Ne.symm hgB)
    have hE5 := exc_new hE4 hW5 hle
    clear hRA4 hRB4 h4 hE4 hW5 hV4
    refine mixOn ⟨(fun _ => True), (fun _ h => h), hS, ?_⟩
    go_frame
    refine dDone ?_
    clear hS
    go_wp2_with (first
      | (go_at_call 55; refine (hrf _ h5).mono ?_; rintro e w6 ⟨rfl, h6, hX6⟩; have hRA6 := hX6.row hRA5 hgA; have hRB6 := hX6.row hRB5 hgB; have hE6 := hE5.trans hX6; rw [hN]; clear hRA5 hRB5 h5 hE5 hX6 hrf; go_frame)
      | ((with_reducible change wpList _ _ _ (Oper.mk (some 11) _ _ _ _ _ :: _) _ _); refine kConvUW _ N rfl rfl rfl ?_; rw [Nat.mod_eq_of_lt hn4]; go_frame)
      | ((with_reducible change wpList _ _ _ (Oper.mk (some 12) _ _ _ _ _ :: _) _ _); refine kFld refCF1 _ _ 0 32 rfl rfl rfl rfl ?_; go_frame)
      | ((with_reducible change wpList _ _ _ (Oper.mk none _ _ _ _ _ :: _) _ _); refine kStore1 _ _ _ _ _ 32 _ (.int .u32 (N : Int)) rfl rfl rfl rfl hRB6 info_u32Co (by rw [refC_size]; decide) rfl ?_; intro w7 hRB7 hW7; rw [refC_set] at hRB7; have hRA7 := hW7.row hRA6 hAB; have h7 := h6.wrote hW7 hLB (Ne.symm hgB); have hE7 := exc_new hE6 hW7 hle; clear hRA6 hRB6 h6 hE6 hW7; go_frame)
      | (go_at_call 57; refine (rdErr_any (n := E) _ h7 hEE).mono ?_; rintro e w8 ⟨rfl, rfl⟩; go_frame)
      | ((with_reducible change wpList _ _ _ (Oper.mk (some 15) _ _ _ _ _ :: _) _ _); refine kNeqI _ _ _ _ .i64 (E : Int) 0 true rfl rfl rfl rfl hq0 ?_; go_frame)
      | ((with_reducible change wpList _ _ _ (Oper.mk (some 16) _ _ _ _ _ :: _) _ _); refine kBuildRef0 rfl rfl ?_; go_frame)
      | ((with_reducible change wpList _ _ _ (Oper.mk none _ _ _ _ _ :: _) _ _); refine kStoreRef _ _ _ z32 0 _ hRA7 (refC_size _ _) rfl rfl rfl rfl ?_; intro w9 hRA9 hW9; have h9 := h7.wrote hW9 hLm (Ne.symm hgA); have hE9 := exc_new hE7 hW9 (Nat.le_refl _); go_frame))
    (try simp only [Exit.inBlock, Exit.then])
    exact result_row rfl rfl hRA9 Tryz.underlying60 rfl (info_RefS _ _) rfl ⟨rfl, h9, hE9⟩
  · rw [if_neg he, hN]
    have he0 : E = 0 := by omega
    have hq0 : (!decide ((E : Int) = 0)) = false := by simp; omega
    have h32 := put32_id (hpl (hqp he0))
    clear he hqp hpl he0
    go_enter Tryz.func123, Tryz.ntmps123
    go_wp2_with (first
      | ((with_reducible change wpList _ _ _ (Oper.mk (some 2) _ _ _ _ _ :: _) _ _); refine kAllocL _ _ rfl rfl zero_RefC ?_; intro w1 hRA hz1 hB1; have h1 := h.below hB1; have hgB : w1.heap.size ≠ g := (by have := h1.lt; omega); have hAB : W0.heap.size ≠ w1.heap.size := Nat.ne_of_lt hz1; have hLB : Lm ≤ w1.heap.size := (by omega); have hle : W0.heap.size ≤ w1.heap.size := (by omega); have hE1 := exc_below g hB1; clear hB1; go_frame)
      | ((with_reducible change wpList _ _ _ (Oper.mk (some 3) _ _ _ _ _ :: _) _ _); refine kAllocL _ _ rfl rfl zero_RefC ?_; intro w2 hRB hz2 hB2; have h2 := h1.below hB2; have hRA2 := hRA.below hB2 hRA.lt; have hE2 := hE1.trans (exc_below g hB2); clear h1 hRA hE1 hB2 hz1 hz2; go_frame))
    refine region_mixD [(0, true), (1, true), (2, true), (3, false), (4, false)] (fun _ => True) (by kernel_rfl) (by kernel_rfl) rfl ?_
    intro w3 hBd hsd
    have h3 := h2.below hBd
    have hRA3 := hRA2.below hBd hRA2.lt
    have hRB3 := hRB.below hBd hRB.lt
    have hE3 := hE2.trans (exc_below g hBd)
    clear h2 hRA2 hRB hE2 hBd hsd
    simp only [List.map_cons, List.map_nil]
    dsimp only [List.filterMap, List.getElem?_cons_zero, List.getElem?_cons_succ]
    have hS : True := trivial
    refine dY _ hS (yFld refCF0 _ _ 0 0 rfl rfl rfl rfl) ?_; go_frame
    refine dY _ hS (ySliceArrC Tryz.underlying24 info_b8P _ _ 0 rfl rfl rfl) ?_; go_frame
    refine dY _ hS (yMove _ (.pointer (some ⟨g, 0, none⟩)) rfl rfl rfl) ?_; go_frame
    refine dLoud ?_
    refine kCall2 92 _ _ _ _ _ rfl rfl (by kernel_rfl) rfl rfl ?_
    refine (hrw _ h3).mono ?_
    rintro e w4 ⟨v4, rfl, hV4, h4, hX4⟩
    have hRA4 := hX4.row hRA3 hgA
    have hRB4 := hX4.row hRB3 hgB
    have hE4 := hE3.trans hX4
    clear hRA3 hRB3 hE3 hX4 h3 hrw
    refine ⟨_, rfl, mixOn ⟨(fun _ => True), (fun _ h => h), hS, ?_⟩⟩
    go_frame
    refine dLoud ?_
    refine kCopy _ _ _ _ _ _ rfl rfl Tryz.underlying38 info_b8P _ 0 32 32 rfl v4 rfl (p.1.map VB) hV4 (vbs_one _) _ hRB4 (by rw [refC_size]; decide) ?_
    intro w5 hRB5 hW5
    rw [ref_put] at hRB5
    have hRA5 := hW5.row hRA4 hAB
    have h5 := h4.wrote hW5 hLB (Ne.symm hgB)
    have hE5 := exc_new hE4 hW5 hle
    clear hRA4 hRB4 h4 hE4 hW5 hV4
    refine mixOn ⟨(fun _ => True), (fun _ h => h), hS, ?_⟩
    go_frame
    refine dDone ?_
    clear hS
    rw [h32] at hRB5
    go_wp2_with (first
      | (go_at_call 55; refine (hrf _ h5).mono ?_; rintro e w6 ⟨rfl, h6, hX6⟩; have hRA6 := hX6.row hRA5 hgA; have hRB6 := hX6.row hRB5 hgB; have hE6 := hE5.trans hX6; rw [hN]; clear hRA5 hRB5 h5 hE5 hX6 hrf; go_frame)
      | ((with_reducible change wpList _ _ _ (Oper.mk (some 11) _ _ _ _ _ :: _) _ _); refine kConvUW _ N rfl rfl rfl ?_; rw [Nat.mod_eq_of_lt hn4]; go_frame)
      | ((with_reducible change wpList _ _ _ (Oper.mk (some 12) _ _ _ _ _ :: _) _ _); refine kFld refCF1 _ _ 0 32 rfl rfl rfl rfl ?_; go_frame)
      | ((with_reducible change wpList _ _ _ (Oper.mk none _ _ _ _ _ :: _) _ _); refine kStore1 _ _ _ _ _ 32 _ (.int .u32 (N : Int)) rfl rfl rfl rfl hRB6 info_u32Co (by rw [refC_size]; decide) rfl ?_; intro w7 hRB7 hW7; rw [refC_set] at hRB7; have hRA7 := hW7.row hRA6 hAB; have h7 := h6.wrote hW7 hLB (Ne.symm hgB); have hE7 := exc_new hE6 hW7 hle; clear hRA6 hRB6 h6 hE6 hW7; go_frame)
      | (go_at_call 57; refine (rdErr_any (n := E) _ h7 hEE).mono ?_; rintro e w8 ⟨rfl, rfl⟩; go_frame)
      | ((with_reducible change wpList _ _ _ (Oper.mk (some 15) _ _ _ _ _ :: _) _ _); refine kNeqI _ _ _ _ .i64 (E : Int) 0 false rfl rfl rfl rfl hq0 ?_; go_frame)
      | ((with_reducible change wpList _ _ _ (Oper.mk (some 17) _ _ _ _ _ :: _) _ _); refine kLoadRef _ _ _ _ hRB7 rfl rfl rfl ?_; go_frame)
      | ((with_reducible change wpList _ _ _ (Oper.mk none _ _ _ _ _ :: _) _ _); refine kStoreRef _ _ _ p.1 N _ hRA7 (refC_size _ _) rfl rfl rfl rfl ?_; intro w9 hRA9 hW9; have h9 := h7.wrote hW9 hLm (Ne.symm hgA); have hE9 := exc_new hE7 hW9 (Nat.le_refl _); go_frame))
    (try simp only [Exit.inBlock, Exit.then])
    exact result_row rfl rfl hRA9 Tryz.underlying60 rfl (info_RefS _ _) rfl ⟨rfl, h9, hE9⟩
set_option maxRecDepth 100000 in
set_option maxHeartbeats 8000000 in
theorem coOutRead_any {s : Scn} {g : Nat} (W0 : World) (h : Rd Lm 97 W0 g s) (hs : s.rest.length ≤ 1000000) : Calls Tryz.prog 121 #[.pointer (some ⟨g, 0, none⟩)] W0 (OutPost Lm 97 g W0 (outS s)) := by
  have hgA : W0.heap.size ≠ g := by have := h.lt; omega
  obtain ⟨p, hp⟩ : ∃ p, fixedS s 8 = p := ⟨_, rfl⟩
  have hpr : p.2.rest.length ≤ 1000000 := by rw [← hp]; exact Nat.le_trans (fixed_restLeC s 8) hs
  obtain ⟨q, hq⟩ : ∃ q, textS p.2 2000 = q := ⟨_, rfl⟩
  have hrv := fun w (h : Rd Lm 97 w g s) => coValueRead_any w h
  rw [hp] at hrv
  have hrl := fun w (h : Rd Lm 97 w g p.2) => coLockRead_any w h hpr
  rw [hq] at hrl
  unfold outS
  rw [hp, hq]
  obtain ⟨E, hEE⟩ : ∃ E, q.2.err = E := ⟨_, rfl⟩
  rw [hEE]
  obtain ⟨N, hN⟩ : ∃ N, i64Z p.1 = N := ⟨_, rfl⟩
  rw [hN]
  clear hp hq hs hpr
  by_cases he : E ≠ 0
  · rw [if_pos he]
    have hq0 : (!decide ((E : Int) = 0)) = true := by simp; exact he
    clear he
    go_enter Tryz.func121, Tryz.ntmps121
    go_wp2_with (first
      | ((with_reducible change wpList _ _ _ (Oper.mk (some 2) _ _ _ _ _ :: _) _ _); refine kAllocL _ _ rfl rfl zero_OutC ?_; intro w1 hRA hz1 hB1; have h1 := h.below hB1; have hE1 := exc_below g hB1; clear hB1; go_frame)
      | (go_at_call 125; refine (hrv _ h1).mono ?_; rintro e w2 ⟨rfl, h2, hX2⟩; have hRA2 := hX2.row hRA hgA; have hE2 := hE1.trans hX2; rw [hN]; clear h1 hRA hE1 hX2 hrv hz1; go_frame)
      | (go_at_call 126; refine (hrl _ h2).mono ?_; rintro e w3 ⟨v3, rfl, hO3, h3, hX3⟩; have hRA3 := hX3.row hRA2 hgA; have hO4 := own_less hE2.size hO3; have hE3 := hE2.trans hX3; clear h2 hRA2 hE2 hX3 hrl hO3; go_frame)
      | ((with_reducible change wpList _ _ _ (Oper.mk (some 8) _ _ _ _ _ :: _) _ _); refine kBuildOut2 _ _ N v3 hO4.vals rfl rfl rfl rfl ?_; go_frame)
      | ((with_reducible change wpList _ _ _ (Oper.mk (some 3) _ _ _ _ _ :: _) _ _); refine kAllocL _ _ rfl rfl zero_OutC ?_; intro w4 hRB hz4 hB4; have hgB : w3.heap.size ≠ g := (by have := h3.lt; omega); have hAB : W0.heap.size ≠ w3.heap.size := (by have := hRA3.lt; omega); have hle : W0.heap.size ≤ w3.heap.size := hE3.size; have h4 := h3.below hB4; have hRA4 := hRA3.below hB4 hRA3.lt; have hO5 := hO4.below hB4; have hE4 := hE3.trans (exc_below g hB4); clear h3 hRA3 hO4 hE3 hB4 hz4; go_frame)
      | ((with_reducible change wpList _ _ _ (Oper.mk none _ _ _ _ _ :: _) _ _); refine kStoreOut _ _ w3.heap.size N v3 _ hRB rfl hO5.vals rfl rfl rfl rfl ?_; intro w5 hRB5 hW5; have h5 := h4.wroteN hRB (out_noByte 0 (isVals_nil w4)) hW5 (Ne.symm hgB); have hRA5 := hW5.row hRA4 hAB; have hO6 := own_wroteN hO5 hRB (by decide) hW5; have hE5 := exc_new hE4 hW5 hle; clear h4 hRA4 hO5 hE4 hW5 hRB; go_frame)
      | (go_at_call 57; refine (rdErr_any (n := E) _ h5 hEE).mono ?_; rintro e w6 ⟨rfl, rfl⟩; go_frame)
      | ((with_reducible change wpList _ _ _ (Oper.mk (some 11) _ _ _ _ _ :: _) _ _); refine kNeqI _ _ _ _ .i64 (E : Int) 0 true rfl rfl rfl rfl hq0 ?_; go_frame)
      | ((with_reducible change wpList _ _ _ (Oper.mk (some 12) _ _ _ _ _ :: _) _ _); refine kBuildOut0 rfl rfl ?_; go_frame)
      | ((with_reducible change wpList _ _ _ (Oper.mk none _ _ _ _ _ :: _) _ _); refine kStoreOut _ _ W0.heap.size 0 (.slice none 0 0) _ hRA5 rfl (isVals_nil W0) rfl rfl rfl rfl ?_; intro w9 hRA9 hW9; have h9 := h5.wroteN hRA5 (out_noByte 0 (isVals_nil W0)) hW9 (Ne.symm hgA); have hO9 := own_wroteN (ownB_nil _ W0.heap.size) hRA5 (by decide) hW9; have hE9 := exc_new hE5 hW9 (Nat.le_refl _); go_frame))
    (try simp only [Exit.inBlock, Exit.then])
    exact result_row rfl rfl hRA9 Tryz.underlying64 rfl info_OutC rfl ⟨_, rfl, hO9, h9, hE9⟩
  · rw [if_neg he]
    have hq0 : (!decide ((E : Int) = 0)) = false := by simp; omega
    clear he
    go_enter Tryz.func121, Tryz.ntmps121
    go_wp2_with (first
      | ((with_reducible change wpList _ _ _ (Oper.mk (some 2) _ _ _ _ _ :: _) _ _); refine kAllocL _ _ rfl rfl zero_OutC ?_; intro w1 hRA hz1 hB1; have h1 := h.below hB1; have hE1 := exc_below g hB1; clear hB1; go_frame)
      | (go_at_call 125; refine (hrv _ h1).mono ?_; rintro e w2 ⟨rfl, h2, hX2⟩; have hRA2 := hX2.row hRA hgA; have hE2 := hE1.trans hX2; rw [hN]; clear h1 hRA hE1 hX2 hrv hz1; go_frame)
      | (go_at_call 126; refine (hrl _ h2).mono ?_; rintro e w3 ⟨v3, rfl, hO3, h3, hX3⟩; have hRA3 := hX3.row hRA2 hgA; have hO4 := own_less hE2.size hO3; have hE3 := hE2.trans hX3; clear h2 hRA2 hE2 hX3 hrl hO3; go_frame)
      | ((with_reducible change wpList _ _ _ (Oper.mk (some 8) _ _ _ _ _ :: _) _ _); refine kBuildOut2 _ _ N v3 hO4.vals rfl rfl rfl rfl ?_; go_frame)
      | ((with_reducible change wpList _ _ _ (Oper.mk (some 3) _ _ _ _ _ :: _) _ _); refine kAllocL _ _ rfl rfl zero_OutC ?_; intro w4 hRB hz4 hB4; have hgB : w3.heap.size ≠ g := (by have := h3.lt; omega); have hAB : W0.heap.size ≠ w3.heap.size := (by have := hRA3.lt; omega); have hle : W0.heap.size ≤ w3.heap.size := hE3.size; have h4 := h3.below hB4; have hRA4 := hRA3.below hB4 hRA3.lt; have hO5 := hO4.below hB4; have hE4 := hE3.trans (exc_below g hB4); clear h3 hRA3 hO4 hE3 hB4 hz4; go_frame)
      | ((with_reducible change wpList _ _ _ (Oper.mk none _ _ _ _ _ :: _) _ _); refine kStoreOut _ _ w3.heap.size N v3 _ hRB rfl hO5.vals rfl rfl rfl rfl ?_; intro w5 hRB5 hW5; have h5 := h4.wroteN hRB (out_noByte 0 (isVals_nil w4)) hW5 (Ne.symm hgB); have hRA5 := hW5.row hRA4 hAB; have hO6 := own_wroteN hO5 hRB (by decide) hW5; have hE5 := exc_new hE4 hW5 hle; clear h4 hRA4 hO5 hE4 hW5 hRB; go_frame)
      | (go_at_call 57; refine (rdErr_any (n := E) _ h5 hEE).mono ?_; rintro e w6 ⟨rfl, rfl⟩; go_frame)
      | ((with_reducible change wpList _ _ _ (Oper.mk (some 11) _ _ _ _ _ :: _) _ _); refine kNeqI _ _ _ _ .i64 (E : Int) 0 false rfl rfl rfl rfl hq0 ?_; go_frame)
      | ((with_reducible change wpList _ _ _ (Oper.mk (some 13) _ _ _ _ _ :: _) _ _); refine kLoadOut _ _ N v3 hRB5 rfl rfl rfl ?_; go_frame)
      | ((with_reducible change wpList _ _ _ (Oper.mk none _ _ _ _ _ :: _) _ _); refine kStoreOut _ _ W0.heap.size N v3 _ hRA5 rfl hO6.vals rfl rfl rfl rfl ?_; intro w9 hRA9 hW9; have h9 := h5.wroteN hRA5 (out_noByte 0 (isVals_nil W0)) hW9 (Ne.symm hgA); have hO9 := own_wroteN hO6 hRA5 (by decide) hW9; have hE9 := exc_new hE5 hW9 (Nat.le_refl _); go_frame))
    (try simp only [Exit.inBlock, Exit.then])
    exact result_row rfl rfl hRA9 Tryz.underlying64 rfl info_OutC rfl ⟨_, rfl, hO9, h9, hE9⟩
set_option maxRecDepth 100000 in
set_option maxHeartbeats 8000000 in
theorem zOutRead_any {s : Scn} {g : Nat} (W0 : World) (h : Rd Lm 89 W0 g s) (hs : s.rest.length ≤ 1000000) : Calls Tryz.prog 87 #[.pointer (some ⟨g, 0, none⟩)] W0 (OutPost Lm 89 g W0 (outS s)) := by
  have hgA : W0.heap.size ≠ g := by have := h.lt; omega
  obtain ⟨p, hp⟩ : ∃ p, fixedS s 8 = p := ⟨_, rfl⟩
  have hpr : p.2.rest.length ≤ 1000000 := by rw [← hp]; exact Nat.le_trans (fixed_restLeC s 8) hs
  obtain ⟨q, hq⟩ : ∃ q, textS p.2 2000 = q := ⟨_, rfl⟩
  have hrv := fun w (h : Rd Lm 89 w g s) => jFixedOf_any (z := 8) w h hs
  rw [hp] at hrv
  have hrl := fun w (h : Rd Lm 89 w g p.2) => jTextOf_own (z := 2000) (by decide) w h hpr
  rw [hq] at hrl
  unfold outS
  rw [hp, hq]
  obtain ⟨E, hEE⟩ : ∃ E, q.2.err = E := ⟨_, rfl⟩
  rw [hEE]
  clear hp hq hs hpr
  by_cases he : E ≠ 0
  · rw [if_pos he]
    have hq0 : (!decide ((E : Int) = 0)) = true := by simp; exact he
    clear he
    go_enter Tryz.func87, Tryz.ntmps87
    go_wp2_with (first
      | ((with_reducible change wpList _ _ _ (Oper.mk (some 2) _ _ _ _ _ :: _) _ _); refine kAllocL _ _ rfl rfl zero_OutC ?_; intro w1 hRA hz1 hB1; have h1 := h.below hB1; have hE1 := exc_below g hB1; clear hB1; go_frame)
      | (go_at_call 84; refine (hrv _ h1).mono ?_; rintro e w2 ⟨rfl, h2, hX2⟩; have hRA2 := hX2.row hRA hgA; have hE2 := hE1.trans hX2; clear h1 hRA hE1 hX2 hrv hz1; go_frame)
      | (go_at_call 86; refine (hrl _ h2).mono ?_; rintro e w3 ⟨v3, rfl, hO3, h5, hX3⟩; have hRA5 := hX3.row hRA2 hgA; have hO6 := own_less hE2.size hO3; have hE5 := hE2.trans hX3; clear h2 hRA2 hE2 hX3 hrl hO3; obtain ⟨vS, hRS, hVS, hLS⟩ := id h5; rw [hEE] at hRS; go_frame)
      | ((with_reducible change wpList _ _ _ (Oper.mk (some 11) _ _ _ _ _ :: _) _ _); refine kS1 _ g rfl rfl rfl ?_; go_frame)
      | ((with_reducible change wpList _ _ _ (Oper.mk (some 12) _ _ _ _ _ :: _) _ _); refine kLoad1 _ _ _ g 1 _ (.int .i64 (E : Int)) _ rfl rfl rfl hRS Tryz.underlying3 rfl rfl ?_; go_frame)
      | ((with_reducible change wpList _ _ _ (Oper.mk (some 13) _ _ _ _ _ :: _) _ _); refine kNeqI _ _ _ _ .i64 (E : Int) 0 true rfl rfl rfl rfl hq0 ?_; go_frame)
      | ((with_reducible change wpList _ _ _ (Oper.mk (some 14) _ _ _ _ _ :: _) _ _); refine kBuildOut0 rfl rfl ?_; go_frame)
      | ((with_reducible change wpList _ _ _ (Oper.mk none _ _ _ _ _ :: _) _ _); refine kStoreOut _ _ W0.heap.size 0 (.slice none 0 0) _ hRA5 rfl (isVals_nil w3) rfl rfl rfl rfl ?_; intro w9 hRA9 hW9; have h9 := h5.wroteN hRA5 (out_noByte 0 (isVals_nil w3)) hW9 (Ne.symm hgA); have hO9 := own_wroteN (ownB_nil w3 W0.heap.size) hRA5 (by decide) hW9; have hE9 := exc_new hE5 hW9 (Nat.le_refl _); go_frame))
    (try simp only [Exit.inBlock, Exit.then])
    exact result_row rfl rfl hRA9 Tryz.underlying64 rfl info_OutC rfl ⟨_, rfl, hO9, h9, hE9⟩
  · rw [if_neg he]
    have hq0 : (!decide ((E : Int) = 0)) = false := by simp; omega
    clear he
    go_enter Tryz.func87, Tryz.ntmps87
    go_wp2_with (first
      | ((with_reducible change wpList _ _ _ (Oper.mk (some 2) _ _ _ _ _ :: _) _ _); refine kAllocL _ _ rfl rfl zero_OutC ?_; intro w1 hRA hz1 hB1; have h1 := h.below hB1; have hE1 := exc_below g hB1; clear hB1; go_frame)
      | (go_at_call 84; refine (hrv _ h1).mono ?_; rintro e w2 ⟨rfl, h2, hX2⟩; have hRA2 := hX2.row hRA hgA; have hE2 := hE1.trans hX2; clear h1 hRA hE1 hX2 hrv hz1; go_frame)
      | (go_at_call 86; refine (hrl _ h2).mono ?_; rintro e w3 ⟨v3, rfl, hO3, h5, hX3⟩; have hRA5 := hX3.row hRA2 hgA; have hO6 := own_less hE2.size hO3; have hE5 := hE2.trans hX3; clear h2 hRA2 hE2 hX3 hrl hO3; obtain ⟨vS, hRS, hVS, hLS⟩ := id h5; rw [hEE] at hRS; go_frame)
      | ((with_reducible change wpList _ _ _ (Oper.mk (some 11) _ _ _ _ _ :: _) _ _); refine kS1 _ g rfl rfl rfl ?_; go_frame)
      | ((with_reducible change wpList _ _ _ (Oper.mk (some 12) _ _ _ _ _ :: _) _ _); refine kLoad1 _ _ _ g 1 _ (.int .i64 (E : Int)) _ rfl rfl rfl hRS Tryz.underlying3 rfl rfl ?_; go_frame)
      | ((with_reducible change wpList _ _ _ (Oper.mk (some 13) _ _ _ _ _ :: _) _ _); refine kNeqI _ _ _ _ .i64 (E : Int) 0 false rfl rfl rfl rfl hq0 ?_; go_frame)
      | ((with_reducible change wpList _ _ _ (Oper.mk (some 16) _ _ _ _ _ :: _) _ _); refine kConvUZ _ p.1 rfl rfl rfl ?_; go_frame)
      | ((with_reducible change wpList _ _ _ (Oper.mk (some 18) _ _ _ _ _ :: _) _ _); refine kBuildOut2 _ _ (i64Z p.1) v3 hO6.vals rfl rfl rfl rfl ?_; go_frame)
      | ((with_reducible change wpList _ _ _ (Oper.mk none _ _ _ _ _ :: _) _ _); refine kStoreOut _ _ W0.heap.size (i64Z p.1) v3 _ hRA5 rfl hO6.vals rfl rfl rfl rfl ?_; intro w9 hRA9 hW9; have h9 := h5.wroteN hRA5 (out_noByte 0 (isVals_nil w3)) hW9 (Ne.symm hgA); have hO9 := own_wroteN hO6 hRA5 (by decide) hW9; have hE9 := exc_new hE5 hW9 (Nat.le_refl _); go_frame))
    (try simp only [Exit.inBlock, Exit.then])
    exact result_row rfl rfl hRA9 Tryz.underlying64 rfl info_OutC rfl ⟨_, rfl, hO9, h9, hE9⟩
set_option maxRecDepth 100000 in
set_option maxHeartbeats 8000000 in
theorem zRefRead_any {s : Scn} {g : Nat} (W0 : World) (h : Rd Lm 89 W0 g s) (hs : s.rest.length ≤ 1000000) (hLm : Lm ≤ W0.heap.size) : Calls Tryz.prog 85 #[.pointer (some ⟨g, 0, none⟩)] W0 (RefPost Lm 89 g W0 (refS s)) := by
  have hgA : W0.heap.size ≠ g := by have := h.lt; omega
  obtain ⟨p, hp⟩ : ∃ p, rawS s 32 = p := ⟨_, rfl⟩
  have hpl : p.2.err = 0 → p.1.length = 32 := fun he => by rw [← hp] at he ⊢; exact raw_len (n := 32) he
  have hpr : p.2.rest.length ≤ 1000000 := by rw [← hp]; exact Nat.le_trans (raw_restLeC s 32) hs
  obtain ⟨q, hq⟩ : ∃ q, fixedS p.2 4 = q := ⟨_, rfl⟩
  have hn4 : q.1 < 4294967296 := by rw [← hq]; exact fixed4_lt _
  have hqp : q.2.err = 0 → p.2.err = 0 := fun he => fixed_ok (z := 4) (by rw [hq]; exact he)
  have hrw := fun w (h : Rd Lm 89 w g s) => jRaw_own (z := 32) w h hs
  rw [hp] at hrw
  have hrf := fun w (h : Rd Lm 89 w g p.2) => jFixedOf_any (z := 4) w h hpr
  rw [hq] at hrf
  unfold refS
  rw [hp, hq]
  obtain ⟨N, hN⟩ : ∃ N, q.1 = N := ⟨_, rfl⟩
  obtain ⟨E, hEE⟩ : ∃ E, q.2.err = E := ⟨_, rfl⟩
  rw [hN] at hn4
  rw [hEE] at hqp ⊢
  clear hp hq
  by_cases he : E ≠ 0
  · rw [if_pos he]
    have hq0 : (!decide ((E : Int) = 0)) = true := by simp; exact he
    clear he hqp hpl
    go_enter Tryz.func85, Tryz.ntmps85
    go_wp2_with (first
      | ((with_reducible change wpList _ _ _ (Oper.mk (some 2) _ _ _ _ _ :: _) _ _); refine kAllocL _ _ rfl rfl zero_RefC ?_; intro w1 hRA hz1 hB1; have h1 := h.below hB1; have hgB : w1.heap.size ≠ g := (by have := h1.lt; omega); have hAB : W0.heap.size ≠ w1.heap.size := Nat.ne_of_lt hz1; have hLB : Lm ≤ w1.heap.size := (by omega); have hle : W0.heap.size ≤ w1.heap.size := (by omega); have hE1 := exc_below g hB1; clear hB1; go_frame)
      | ((with_reducible change wpList _ _ _ (Oper.mk (some 7) _ _ _ _ _ :: _) _ _); refine kBuildRef0 rfl rfl ?_; go_frame)
      | ((with_reducible change wpList _ _ _ (Oper.mk (some 3) _ _ _ _ _ :: _) _ _); refine kAllocL _ _ rfl rfl zero_RefC ?_; intro w2 hRB hz2 hB2; have h2 := h1.below hB2; have hRA2 := hRA.below hB2 hRA.lt; have hE2 := hE1.trans (exc_below g hB2); clear h1 hRA hE1 hB2 hz1; go_frame)
      | ((with_reducible change wpList _ _ _ (Oper.mk none _ _ _ _ _ :: _) _ _); refine kStoreRef _ _ w1.heap.size z32 0 _ hRB (refC_size _ _) rfl rfl rfl rfl ?_; intro w3 hRB3 hW3; have h3 := h2.wrote hW3 hLB (Ne.symm hgB); have hRA3 := hW3.row hRA2 hAB; have hE3 := exc_new hE2 hW3 hle; have hz3 : w1.heap.size < w3.heap.size := hRB3.lt; clear h2 hRA2 hE2 hW3 hRB hz2; go_frame)
      | (go_at_call 50; refine (hrw _ h3).mono ?_; rintro e w4 ⟨v4, rfl, hO4, h4, hX4⟩; have hRA4 := hX4.row hRA3 hgA; have hRB4 := hX4.row hRB3 hgB; have hE4 := hE3.trans hX4; have hV4 := hO4.vals; have hnv : ∀ a, v4.ownBlock = some a → a ≠ w1.heap.size := (fun a ha => by have := (hO4.lt a ha).1; omega); clear hRA3 hRB3 h3 hE3 hX4 hrw hO4 hz3; go_frame)
      | (go_at_call 84; refine (hrf _ h4).mono ?_; rintro e w5 ⟨rfl, h5, hX5⟩; have hRA5 := hX5.row hRA4 hgA; have hRB5 := hX5.row hRB4 hgB; have hE5 := hE4.trans hX5; have hV5 := hX5.vals h4 hV4; rw [hN]; clear hRA4 hRB4 h4 hE4 hX5 hrf hV4; obtain ⟨vS, hRS, hVS, hLS⟩ := id h5; rw [hEE] at hRS; go_frame)
      | ((with_reducible change wpList _ _ _ (Oper.mk (some 14) _ _ _ _ _ :: _) _ _); refine kS1 _ g rfl rfl rfl ?_; go_frame)
      | ((with_reducible change wpList _ _ _ (Oper.mk (some 15) _ _ _ _ _ :: _) _ _); refine kLoad1 _ _ _ g 1 _ (.int .i64 (E : Int)) _ rfl rfl rfl hRS Tryz.underlying3 rfl rfl ?_; clear hRS hVS hLS; go_frame)
      | ((with_reducible change wpList _ _ _ (Oper.mk (some 16) _ _ _ _ _ :: _) _ _); refine kNeqI _ _ _ _ .i64 (E : Int) 0 true rfl rfl rfl rfl hq0 ?_; go_frame)
      | ((with_reducible change wpList _ _ _ (Oper.mk (some 17) _ _ _ _ _ :: _) _ _); refine kLoadRef _ _ z32 0 hRB5 rfl rfl rfl ?_; go_frame)
      | ((with_reducible change wpList _ _ _ (Oper.mk none _ _ _ _ _ :: _) _ _); refine kStoreRef _ _ W0.heap.size z32 0 _ hRA5 (refC_size _ _) rfl rfl rfl rfl ?_; intro w9 hRA9 hW9; have h9 := h5.wrote hW9 hLm (Ne.symm hgA); have hE9 := exc_new hE5 hW9 (Nat.le_refl _); go_frame))
    (try simp only [Exit.inBlock, Exit.then])
    exact result_row rfl rfl hRA9 Tryz.underlying60 rfl (info_RefS _ _) rfl ⟨rfl, h9, hE9⟩
  · rw [if_neg he, hN]
    have he0 : E = 0 := by omega
    have hq0 : (!decide ((E : Int) = 0)) = false := by simp; omega
    have h32 := hpl (hqp he0)
    obtain ⟨x, hx⟩ : ∃ x, p.1 = x := ⟨_, rfl⟩
    rw [hx] at h32 ⊢
    clear he hqp hpl he0
    go_enter Tryz.func85, Tryz.ntmps85
    go_wp2_with (first
      | ((with_reducible change wpList _ _ _ (Oper.mk (some 2) _ _ _ _ _ :: _) _ _); refine kAllocL _ _ rfl rfl zero_RefC ?_; intro w1 hRA hz1 hB1; have h1 := h.below hB1; have hgB : w1.heap.size ≠ g := (by have := h1.lt; omega); have hAB : W0.heap.size ≠ w1.heap.size := Nat.ne_of_lt hz1; have hLB : Lm ≤ w1.heap.size := (by omega); have hle : W0.heap.size ≤ w1.heap.size := (by omega); have hE1 := exc_below g hB1; clear hB1; go_frame)
      | ((with_reducible change wpList _ _ _ (Oper.mk (some 7) _ _ _ _ _ :: _) _ _); refine kBuildRef0 rfl rfl ?_; go_frame)
      | ((with_reducible change wpList _ _ _ (Oper.mk (some 3) _ _ _ _ _ :: _) _ _); refine kAllocL _ _ rfl rfl zero_RefC ?_; intro w2 hRB hz2 hB2; have h2 := h1.below hB2; have hRA2 := hRA.below hB2 hRA.lt; have hE2 := hE1.trans (exc_below g hB2); clear h1 hRA hE1 hB2 hz1; go_frame)
      | ((with_reducible change wpList _ _ _ (Oper.mk none _ _ _ _ _ :: _) _ _); refine kStoreRef _ _ w1.heap.size z32 0 _ hRB (refC_size _ _) rfl rfl rfl rfl ?_; intro w3 hRB3 hW3; have h3 := h2.wrote hW3 hLB (Ne.symm hgB); have hRA3 := hW3.row hRA2 hAB; have hE3 := exc_new hE2 hW3 hle; have hz3 : w1.heap.size < w3.heap.size := hRB3.lt; clear h2 hRA2 hE2 hW3 hRB hz2; go_frame)
      | (go_at_call 50; refine (hrw _ h3).mono ?_; rintro e w4 ⟨v4, rfl, hO4, h4, hX4⟩; rw [hx] at hO4; have hRA4 := hX4.row hRA3 hgA; have hRB4 := hX4.row hRB3 hgB; have hE4 := hE3.trans hX4; have hV4 := hO4.vals; have hnv : ∀ a, v4.ownBlock = some a → a ≠ w1.heap.size := (fun a ha => by have := (hO4.lt a ha).1; omega); clear hRA3 hRB3 h3 hE3 hX4 hrw hO4 hz3; go_frame)
      | (go_at_call 84; refine (hrf _ h4).mono ?_; rintro e w5 ⟨rfl, h5, hX5⟩; have hRA5 := hX5.row hRA4 hgA; have hRB5 := hX5.row hRB4 hgB; have hE5 := hE4.trans hX5; have hV5 := hX5.vals h4 hV4; rw [hN]; clear hRA4 hRB4 h4 hE4 hX5 hrf hV4; obtain ⟨vS, hRS, hVS, hLS⟩ := id h5; rw [hEE] at hRS; go_frame)
      | ((with_reducible change wpList _ _ _ (Oper.mk (some 14) _ _ _ _ _ :: _) _ _); refine kS1 _ g rfl rfl rfl ?_; go_frame)
      | ((with_reducible change wpList _ _ _ (Oper.mk (some 15) _ _ _ _ _ :: _) _ _); refine kLoad1 _ _ _ g 1 _ (.int .i64 (E : Int)) _ rfl rfl rfl hRS Tryz.underlying3 rfl rfl ?_; clear hRS hVS hLS; go_frame)
      | ((with_reducible change wpList _ _ _ (Oper.mk (some 16) _ _ _ _ _ :: _) _ _); refine kNeqI _ _ _ _ .i64 (E : Int) 0 false rfl rfl rfl rfl hq0 ?_; go_frame))
    have hf0 : fill32 x 0 = z32 := by simp [fill32, z32]
    rw [← hf0] at hRB5
    clear hf0
    go_loopw [18, 6] (fun i u wr => ∃ j : Nat, j ≤ 32 ∧ i = .int .i64 j ∧ Row wr W0.heap.size 60 (refC z32 0) ∧ Row wr w1.heap.size 60 (refC (fill32 x j) 0) ∧ Rd Lm 89 wr g q.2 ∧ IsVals wr v4 (x.map VB) ∧ Exc g W0 wr) (fun i _ _ => 32 - (intOf i).toNat)
    case atStart => exact ⟨0, by omega, rfl, hRA5, hRB5, h5, hV5, hE5⟩
    case round =>
      clear hRA5 hRB5 h5 hV5 hE5
      obtain ⟨j, hj, rfl, hRA6, hRB6, h6, hV6, hE6⟩ := hrel
      by_cases hlt : j < 32
      · have hd : decide ((j : Int) < 32) = true := by simp; omega
        have hat : (x.map VB)[j]? = some (VB (at8 x j)) := by rw [List.getElem?_map, List.getElem?_eq_getElem (by omega)]; simp [at8, show j < x.length by omega]
        go_wp2_with (first
          | ((with_reducible change wpList _ _ _ (Oper.mk (some 19) _ _ _ _ _ :: _) _ _); refine kLssI _ _ _ _ .i64 (j : Int) 32 true rfl rfl rfl rfl hd ?_; go_frame)
          | ((with_reducible change wpList _ _ _ (Oper.mk (some 24) _ _ _ _ _ :: _) _ _); refine kIndexAddrV _ _ _ _ .i64 v4 _ (j : Int) j (VB (at8 x j)) rfl rfl rfl hV6 rfl Tryz.underlying38 info_b8P rfl hat ?_; intro b hb; go_frame)
          | ((with_reducible change wpList _ _ _ (Oper.mk (some 25) _ _ _ _ _ :: _) _ _); refine kLoadCell _ _ b (VB (at8 x j)) _ rfl rfl rfl hb Tryz.underlying5 rfl ?_; clear hb; go_frame)
          | ((with_reducible change wpList _ _ _ (Oper.mk (some 26) _ _ _ _ _ :: _) _ _); refine kFld refCF0 _ _ 0 0 rfl rfl rfl rfl ?_; go_frame)
          | ((with_reducible change wpList _ _ _ (Oper.mk (some 27) _ _ _ _ _ :: _) _ _); refine kIndexAddr1 _ _ _ _ .i64 _ (j : Int) j 32 rfl rfl rfl rfl Tryz.underlying24 info_b8P rfl hlt ?_; go_frame)
          | ((with_reducible change wpList _ _ _ (Oper.mk none _ _ _ _ _ :: _) _ _); refine kStore1 _ _ _ _ _ j _ (VB (at8 x j)) rfl rfl rfl rfl hRB6 info_b8P (by rw [refC_size]; omega) rfl ?_; intro w7 hRB7 hW7; rw [ref_fill h32 hlt] at hRB7; have hRA7 := hW7.row hRA6 hAB; have h7 := h6.wrote hW7 hLB (Ne.symm hgB); have hV7 := hV6.wrote hW7 (fun _ _ _ a ha => hnv a ha); have hE7 := exc_new hE6 hW7 hle; clear hRA6 hRB6 h6 hV6 hE6 hW7; go_frame)
          | ((with_reducible change wpList _ _ _ (Oper.mk (some 28) _ _ _ _ _ :: _) _ _); refine kAddI _ _ _ _ (j : Int) 1 ((j + 1 : Nat) : Int) (by omega) rfl rfl rfl rfl ?_; go_frame))
        go_roundw
        case rel => exact ⟨j + 1, by omega, rfl, hRA7, hRB7, h7, hV7, hE7⟩
        case measure => simp [intOf]; omega
      · have hd : decide ((j : Int) < 32) = false := by simp; omega
        have hj32 : j = 32 := by omega
        subst hj32
        rw [fill32_all h32] at hRB6
        go_wp2_with (first
          | ((with_reducible change wpList _ _ _ (Oper.mk (some 19) _ _ _ _ _ :: _) _ _); refine kLssI _ _ _ _ .i64 ((32 : Nat) : Int) 32 false rfl rfl rfl rfl hd ?_; go_frame)
          | ((with_reducible change wpList _ _ _ (Oper.mk (some 30) _ _ _ _ _ :: _) _ _); refine kConvUW _ N rfl rfl rfl ?_; rw [Nat.mod_eq_of_lt hn4]; go_frame)
          | ((with_reducible change wpList _ _ _ (Oper.mk (some 31) _ _ _ _ _ :: _) _ _); refine kFld refCF1 _ _ 0 32 rfl rfl rfl rfl ?_; go_frame)
          | ((with_reducible change wpList _ _ _ (Oper.mk none _ _ _ _ _ :: _) _ _); refine kStore1 _ _ _ _ _ 32 _ (.int .u32 (N : Int)) rfl rfl rfl rfl hRB6 info_u32Co (by rw [refC_size]; decide) rfl ?_; intro w7 hRB7 hW7; rw [refC_set] at hRB7; have hRA7 := hW7.row hRA6 hAB; have h7 := h6.wrote hW7 hLB (Ne.symm hgB); have hE7 := exc_new hE6 hW7 hle; clear hRA6 hRB6 h6 hE6 hW7; go_frame)
          | ((with_reducible change wpList _ _ _ (Oper.mk (some 32) _ _ _ _ _ :: _) _ _); refine kLoadRef _ _ x N hRB7 rfl rfl rfl ?_; go_frame)
          | ((with_reducible change wpList _ _ _ (Oper.mk none _ _ _ _ _ :: _) _ _); refine kStoreRef _ _ W0.heap.size x N _ hRA7 (refC_size _ _) rfl rfl rfl rfl ?_; intro w9 hRA9 hW9; have h9 := h7.wrote hW9 hLm (Ne.symm hgA); have hE9 := exc_new hE7 hW9 (Nat.le_refl _); go_frame))
        (try simp only [Exit.inBlock, Exit.then])
        exact result_row rfl rfl hRA9 Tryz.underlying60 rfl (info_RefS _ _) rfl ⟨rfl, h9, hE9⟩
end Go.Proofs.YtmfjgehlkbndjaaGreatDoor
