/-
  The walk of digest's '(*Hasher).addList': bytes are added to a hasher.
-/
import Derived.Test.YtnaclalbeocpkaaDoorDigEnd
import Derived.Test.YtnaclalbeocpkaaDoorSha2
namespace Go.Proofs.YtnaclalbeocpkaaDoor
open Go.RowKit

/-- block g is a hasher to which these bytes were added -/
def IsHasher (w : World) (g : Nat) (M : List UInt8) : Prop := ∃ bg, HInv M bg ∧ Row w g 91 (hCells (stOf M) bg M.length)
def sliceLen : Value → Nat
  | .slice _ n _ => n
  | _ => 0
theorem IsVals.len {w : World} {v : Value} {l : List Value} (h : IsVals w v l) : sliceLen v = l.length := by
  obtain ⟨ao, c, rfl, _⟩ := h; rfl
theorem info_u64 : (Tryd.prog.info? 75).map (·.size) = some 1 := by kernel_rfl

def AddPost (w : World) (g : Nat) (M : List UInt8) (e : Ending) (w' : World) : Prop := e = .returned (.tuple #[]) ∧ IsHasher w' g M ∧ w.grownBy w' (some g)

theorem Keys.grown {w w' : World} {g : Nat} (h : Keys w) (hg : w.grownBy w' (some g)) (h0 : g ≠ 1) : Keys w' := fun i hi => by
  have hc := h i hi
  rw [World.cell?_of_block (w := w) (hg.block _ (block_lt_of_cell hc) (by simpa using fun e => h0 e.symm))]; exact hc

set_option maxRecDepth 100000 in
set_option maxHeartbeats 1000000 in
theorem addList_any (M L : List UInt8) (g : Nat) (v : Value) (w : World) (hK : Keys w) (hg0 : g ≠ 1) (hH : IsHasher w g M) (hv : IsVals w v (L.map VB)) (hne : L ≠ [] → v.ownBlock ≠ some g) (hlen : M.length + L.length < 1152921504606846976) :
    Calls Tryd.prog 50 #[.pointer (some ⟨g, 0, none⟩), v] w (AddPost w g (M ++ L)) := by
  go_enter Tryd.func50, Tryd.ntmps50
  go_wp2
  go_loopw [1] (fun b wr => ∃ D R : List UInt8, L = D ++ R ∧ IsVals wr b (R.map VB) ∧ (R ≠ [] → b.ownBlock ≠ some g) ∧ IsHasher wr g (M ++ D) ∧ w.grownBy wr (some g)) (fun b _ => sliceLen b)
  case atStart => exact ⟨[], L, rfl, hv, hne, by simpa using hH, World.grownBy.refl _ _⟩
  case round =>
    obtain ⟨D, R, hL, hvr, hner, hHr, hGr⟩ := hrel
    by_cases hR : R = []
    · subst hR
      go_wp2_with (first
        | ((with_reducible change wpList _ _ _ (Oper.mk (some 7) _ _ _ _ _ :: _) _ _); refine kLen _ _ _ _ _ rfl rfl rfl hvr Tryd.underlying22 ?_))
      go_end0
      exact ⟨rfl, by rw [hL, List.append_nil]; exact hHr, hGr⟩
    · obtain ⟨bg, hI, hRow⟩ := hHr
      have hlR : 0 < R.length := List.length_pos_iff.2 hR
      have hlp : (0 : Int) < ((R.map VB).length : Int) := by simp; omega
      have hmlen : (M ++ D).length + R.length < 1152921504606846976 := by rw [hL] at hlen; simp at hlen ⊢; omega
      have Hl := Lib.hid hL
      clear hL hv hne hH
      generalize hMM : M ++ D = N at *
      have HMM := Lib.hid hMM
      clear hMM
      have hat : N.length % 64 < 64 := Nat.mod_lt _ (by decide)
      by_cases hfull : 64 ≤ N.length % 64 + R.length
      · have hr : min R.length (64 - N.length % 64) = 64 - N.length % 64 := by omega
        have ht : (((N.length : Int) + ((min R.length (64 - N.length % 64) : Nat) : Int)) % 64 == 0) = true := by simp; omega
        have Hr := Lib.hid hr
        clear hr
        go_wp2_with (first
          | ((with_reducible change wpList _ _ _ (Oper.mk (some 7) _ _ _ _ _ :: _) _ _); refine kLen _ _ _ _ _ rfl rfl rfl hvr Tryd.underlying22 ?_)
          | ((with_reducible change wpList _ _ _ (Oper.mk (some 12) _ _ _ _ _ :: _) _ _); refine kLoad1 _ _ _ _ _ _ _ _ rfl rfl rfl hRow Tryd.underlying75 rfl (hCells_len _ _ _) ?_)
          | ((with_reducible change wpList _ _ _ (Oper.mk (some 18) _ _ _ _ _ :: _) _ _); refine kSliceArrFrom _ _ _ _ _ rfl rfl Tryd.underlying89 info_byte _ _ rfl _ _ (N.length % 64) rfl (by omega) hat ?_)
          | ((with_reducible change wpList _ _ _ (Oper.mk (some 20) _ _ _ _ _ :: _) _ _); refine kCopy _ _ _ _ _ _ rfl rfl Tryd.underlying22 info_byte _ _ _ _ rfl _ rfl _ hvr (vb_one R) _ hRow (by unfold hCells; rw [tab_size]; omega) ?_; intro w2 hR2 hW2; rw [← List.map_take, hCells_put _ _ _ _ _ hI.len (by rw [List.length_take]; omega)] at hR2)
          | ((with_reducible change wpList _ _ _ (Oper.mk (some 23) _ _ _ _ _ :: _) _ _); refine kSliceFrom _ _ _ _ rfl rfl Tryd.underlying22 info_byte u1 _ rfl (hvr.wrote hW2 (fun _ _ _ b hb e => hner hR (by rw [hb, e]))) _ _ (min R.length (64 - N.length % 64)) rfl (by simp) (by simp; omega) ?_; intro b3 hv3 ho3)
          | ((with_reducible change wpList _ _ _ (Oper.mk (some 27) _ _ _ _ _ :: _) _ _); refine kLoad1 _ _ _ _ _ _ _ _ rfl rfl rfl hR2 Tryd.underlying75 rfl (hCells_len _ _ _) ?_)
          | ((with_reducible change wpList _ _ _ (Oper.mk none (Op.store 75 _ _) _ _ _ _ :: _) _ _); refine kStore1 _ _ _ _ _ _ _ (.int .u64 ((N.length + min R.length (64 - N.length % 64) : Nat) : Int)) rfl rfl rfl (congrArg (Value.int IntKind.u64) (Int.natCast_add _ _).symm) hR2 info_u64 (by unfold hCells; rw [tab_size]; omega) rfl ?_; intro w4 hR4 hW4; rw [hCells_setLen] at hR4)
          | ((with_reducible change wpList _ _ _ (Oper.mk (some 36) _ _ _ _ _ :: _) _ _); refine kLoad1 _ _ _ _ _ _ _ _ rfl rfl rfl hR4 Tryd.underlying75 rfl (hCells_len _ _ _) ?_))
        have hlt' : (R.take (64 - N.length % 64)).length = 64 - N.length % 64 := by rw [List.length_take]; omega
        have hI' := hinv_full N bg (R.take (64 - N.length % 64)) hI (by rw [hlt']; omega)
        have hNl : (N ++ R.take (64 - N.length % 64)).length = N.length + min R.length (64 - N.length % 64) := by rw [List.length_append, hlt', Hr.out]
        have hG4 : w.grownBy w4 (some g) := ⟨(hW4.os.trans hW2.os).trans hGr.os, (hW4.tape.trans hW2.tape).trans hGr.tape, (hW4.output.trans hW2.output).trans hGr.output, by rw [hW4.size, hW2.size]; exact hGr.size, fun k hk hne' => by
          have hkg : k ≠ g := fun e => hne' (by rw [e])
          rw [hW4.other k hkg, hW2.other k hkg]; exact hGr.block k hk hne'⟩
        have hK4 := hK.grown hG4 hg0
        have hv4 := hv3.wrote hW4 (fun _ _ _ b hb e => hner hR (by rw [← ho3, hb, e]))
        rw [← hNl] at hR4
        have HNl := Lib.hid hNl
        clear hNl hR2 hW2 hW4 hv3 hRow ht hlp
        generalize hbg : putAt bg (N.length % 64) (R.take (64 - N.length % 64)) = bg2 at *
        have Hbg := Lib.hid hbg
        have HI := Lib.hid hI'
        have Hlt := Lib.hid hlt'
        clear hbg hI' hlt'
        refine region_below_tail 12 (by kernel_rfl) (by kernel_rfl) ?_
        simp only [List.take_succ_cons, List.take_zero, List.drop_succ_cons, List.drop_zero]
        repeat (first
          | ((with_reducible change wpQuiet _ _ _ _ (Oper.mk (some 43) _ _ _ _ _ :: _) _); refine qLoadAs _ _ _ _ _ _ _ _ _ rfl rfl rfl (fun _ hw => row_regrown hR4 hw) Tryd.underlying86 rfl info_state (by unfold hCells; rw [tab_size]; decide) (hCells_state _ _ _) ?_; go_frame)
          | ((with_reducible change wpQuiet _ _ _ _ (Oper.mk (some 47) _ _ _ _ _ :: _) _); refine qLoadAs _ _ _ _ _ _ _ _ _ rfl rfl rfl (fun _ hw => row_regrown hR4 hw) Tryd.underlying89 rfl info_block (by unfold hCells; rw [tab_size]; decide) (hCells_begun _ _ _) ?_; go_frame)
          | go_big_quiet_step ((go_at_call 56; exact Calls.regrown_of (mixed_any (stOf N) bg2 HI.out.1.len _ (hK4.below (below_regrown _ _ _))))))
        refine wpQuiet_nil ?_
        rintro _ ⟨p, rfl⟩
        have hbr := below_regrown w4 p.d p.os
        refine kStorePart _ _ _ _ _ _ _ _ rfl rfl rfl rfl (hR4.below hbr hR4.lt) (by rw [tab_size]; exact info_state) (by unfold hCells; rw [tab_size, tab_size]; decide) (tab_one _ _ fun _ _ => rfl) ?_
        intro w6 hR6 hW6
        rw [hCells_setState] at hR6
        have hv6 := (hv4.below hbr).wrote hW6 (fun _ _ _ b hb e => hner hR (by rw [← ho3, hb, e]))
        have hG6 : w.grownBy w6 (some g) := ⟨(hW6.os.trans hbr.os).trans hG4.os, (hW6.tape.trans hbr.tape).trans hG4.tape, (hW6.output.trans hbr.output).trans hG4.output, by rw [hW6.size]; exact Nat.le_trans hG4.size hbr.size, fun k hk hne' => by
          have hkg : k ≠ g := fun e => hne' (by rw [e])
          rw [hW6.other k hkg, hbr.block k (Nat.lt_of_lt_of_le hk hG4.size)]; exact hG4.block k hk hne'⟩
        go_frame
        go_wp2
        go_roundw
        case rel =>
          refine ⟨D ++ R.take (64 - N.length % 64), R.drop (64 - N.length % 64), by rw [List.append_assoc, List.take_append_drop]; exact Hl.out, ?_, fun _ => by rw [ho3]; exact hner hR, ⟨bg2, ?_, ?_⟩, hG6⟩
          · rw [Hr.out, ← List.map_drop] at hv6; exact hv6
          · rw [← List.append_assoc, HMM.out]; exact HI.out.1
          · rw [← List.append_assoc, HMM.out, HI.out.2]; exact hR6
        case measure =>
          rw [hv6.len, hvr.len, List.length_drop, List.length_map, Hr.out]
          omega
      · have hr : min R.length (64 - N.length % 64) = R.length := by omega
        have ht : (((N.length : Int) + ((min R.length (64 - N.length % 64) : Nat) : Int)) % 64 == 0) = false := by simp; omega
        have Hr := Lib.hid hr
        clear hr
        go_wp2_with (first
          | ((with_reducible change wpList _ _ _ (Oper.mk (some 7) _ _ _ _ _ :: _) _ _); refine kLen _ _ _ _ _ rfl rfl rfl hvr Tryd.underlying22 ?_)
          | ((with_reducible change wpList _ _ _ (Oper.mk (some 12) _ _ _ _ _ :: _) _ _); refine kLoad1 _ _ _ _ _ _ _ _ rfl rfl rfl hRow Tryd.underlying75 rfl (hCells_len _ _ _) ?_)
          | ((with_reducible change wpList _ _ _ (Oper.mk (some 18) _ _ _ _ _ :: _) _ _); refine kSliceArrFrom _ _ _ _ _ rfl rfl Tryd.underlying89 info_byte _ _ rfl _ _ (N.length % 64) rfl (by omega) hat ?_)
          | ((with_reducible change wpList _ _ _ (Oper.mk (some 20) _ _ _ _ _ :: _) _ _); refine kCopy _ _ _ _ _ _ rfl rfl Tryd.underlying22 info_byte _ _ _ _ rfl _ rfl _ hvr (vb_one R) _ hRow (by unfold hCells; rw [tab_size]; omega) ?_; intro w2 hR2 hW2; rw [← List.map_take, hCells_put _ _ _ _ _ hI.len (by rw [List.length_take]; omega)] at hR2)
          | ((with_reducible change wpList _ _ _ (Oper.mk (some 23) _ _ _ _ _ :: _) _ _); refine kSliceFrom _ _ _ _ rfl rfl Tryd.underlying22 info_byte u1 _ rfl (hvr.wrote hW2 (fun _ _ _ b hb e => hner hR (by rw [hb, e]))) _ _ (min R.length (64 - N.length % 64)) rfl (by simp) (by simp; omega) ?_; intro b3 hv3 ho3)
          | ((with_reducible change wpList _ _ _ (Oper.mk (some 27) _ _ _ _ _ :: _) _ _); refine kLoad1 _ _ _ _ _ _ _ _ rfl rfl rfl hR2 Tryd.underlying75 rfl (hCells_len _ _ _) ?_)
          | ((with_reducible change wpList _ _ _ (Oper.mk none (Op.store 75 _ _) _ _ _ _ :: _) _ _); refine kStore1 _ _ _ _ _ _ _ (.int .u64 ((N.length + min R.length (64 - N.length % 64) : Nat) : Int)) rfl rfl rfl (congrArg (Value.int IntKind.u64) (Int.natCast_add _ _).symm) hR2 info_u64 (by unfold hCells; rw [tab_size]; omega) rfl ?_; intro w4 hR4 hW4; rw [hCells_setLen] at hR4)
          | ((with_reducible change wpList _ _ _ (Oper.mk (some 36) _ _ _ _ _ :: _) _ _); refine kLoad1 _ _ _ _ _ _ _ _ rfl rfl rfl hR4 Tryd.underlying75 rfl (hCells_len _ _ _) ?_))
        have htk : R.take (64 - N.length % 64) = R := List.take_of_length_le (by omega)
        have hI' := hinv_less N bg R hI (by omega)
        rw [htk, Hr.out] at hR4
        have hG4 : w.grownBy w4 (some g) := ⟨(hW4.os.trans hW2.os).trans hGr.os, (hW4.tape.trans hW2.tape).trans hGr.tape, (hW4.output.trans hW2.output).trans hGr.output, by rw [hW4.size, hW2.size]; exact hGr.size, fun k hk hne' => by
          have hkg : k ≠ g := fun e => hne' (by rw [e])
          rw [hW4.other k hkg, hW2.other k hkg]; exact hGr.block k hk hne'⟩
        have hv4 := hv3.wrote hW4 (fun _ _ _ b hb e => hner hR (by rw [← ho3, hb, e]))
        rw [Hr.out, List.drop_eq_nil_of_le (by simp)] at hv4
        go_roundw
        case rel =>
          refine ⟨D ++ R, [], by rw [List.append_nil]; exact Hl.out, hv4, fun h => absurd rfl h, ⟨putAt bg (N.length % 64) R, ?_, ?_⟩, hG4⟩
          · rw [← List.append_assoc, HMM.out]; exact hI'.1
          · rw [← List.append_assoc, HMM.out, hI'.2, List.length_append]; exact hR4
        case measure =>
          rw [hv4.len, hvr.len, List.length_map]
          simp
          omega
end Go.Proofs.YtnaclalbeocpkaaDoor
