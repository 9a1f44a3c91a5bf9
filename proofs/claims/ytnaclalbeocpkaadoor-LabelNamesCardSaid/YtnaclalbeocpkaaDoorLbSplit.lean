/-
  Layer 8: the walk of the program's Split.
-/
import Derived.Test.YtnaclalbeocpkaaDoorLbRead
namespace Go.Proofs.YtnaclalbeocpkaaDoor
open Go Go.RowKit

def splitS8 (l : List UInt8) : Option (Deed × List UInt8) := if (readS l).2 = true ∧ rightB (readS l).1 = true ∧ hasP l (wordsL (readS l).1) = true then some ((readS l).1, l.drop (wordsL (readS l).1).length) else none
def dOf (r : Option (Deed × List UInt8)) : Deed := match r with
  | none => noDeed
  | some p => p.1
def rOf8 (r : Option (Deed × List UInt8)) : List UInt8 := match r with
  | none => []
  | some p => p.2
def eOf (r : Option (Deed × List UInt8)) : Int := match r with
  | none => 81
  | some _ => 0
def SplitPost8 (w : World) (r : Option (Deed × List UInt8)) (e : Ending) (w' : World) : Prop := ∃ v, e = .returned (.tuple #[deedV (dOf r), v, .int .i64 (eOf r)]) ∧ OwnB w' w.heap.size v (rOf8 r) ∧ Below w.heap.size w w'
theorem result_row_tmp2 {P : Program} {a : Act} {w : World} {fn : Func} {R : Ending → World → Prop} {p u x : Tmp} {T U : TypeId} {d : TypeDesc} {g : Nat} {cs : Array Value} {v y : Value} (h : fn.results = #[.cell p T, .tmp u, .tmp x])
    (hp : a.tmps.getD p undef = .pointer (some ⟨g, 0, none⟩)) (hv : a.tmps.getD u undef = v) (hy : a.tmps.getD x undef = y) (hr : Row w g U cs) (hu : P.underlying T = some d) (hd : aggDesc d = true)
    (hi : (P.info? T).map (·.size) = some cs.size) (hdf : a.defers = []) (hR : R (.returned (.tuple #[.agg cs, v, y])) w) : bodyPost P fn R .ret a w := by
  refine bodyPost_ret (v := .tuple #[.agg cs, v, y]) ?_ hdf hR
  have hp' : a.tmps[p]?.getD undef = .pointer (some ⟨g, 0, none⟩) := by simpa using hp
  have hv' : a.tmps[u]?.getD undef = v := by simpa using hv
  have hy' : a.tmps[x]?.getD undef = y := by simpa using hy
  simp [results, h, hp', hv', hy', asAddr, run_loadVar_row w g U T cs _ d hr hu (by cases d <;> first | rfl | cases hd) hi]
theorem own_keepW {w w' : World} {g b : Nat} {v : Value} {l : List UInt8} {cs : Array Value} (h : OwnB w b v l) (hW : Wrote g w w') (hR : Row w g 29 cs) : OwnB w' b v l := (kp_wrote hR hW).own h (by decide)
theorem right_fits {d : Deed} (h : rightB d = true) : d.Fits := by
  unfold rightB at h
  unfold Deed.Fits
  split at h
  · obtain ⟨a, b, c, -⟩ := of_decide_eq_true h; rw [a, b, c]; simp
  · split at h
    · obtain ⟨a, b, c⟩ := of_decide_eq_true h; rw [a, b, c]; simp
    · split at h
      · obtain ⟨-, a, b, c⟩ := of_decide_eq_true h; omega
      · split at h
        · obtain ⟨-, a, b, c⟩ := of_decide_eq_true h; rw [a]; simp; omega
        · cases h
set_option maxRecDepth 100000 in
set_option maxHeartbeats 8000000 in
theorem lbSplit_any {l : List UInt8} {v : Value} (w : World) (hG : Counts w) (hv : IsVals w v (l.map VB)) (hl : l.length ≤ 1000000) : Calls Tryd.prog 14 #[v] w (SplitPost8 w (splitS8 l)) := by
  have e0 := fun w (h : Counts w) (h1 : IsVals w v (l.map VB)) => lbRead_any w h h1 hl
  obtain ⟨hi, hs⟩ := readS_ok hl
  unfold splitS8
  obtain ⟨D, hD⟩ : ∃ D, (readS l).1 = D := ⟨_, rfl⟩
  obtain ⟨ok, hok⟩ : ∃ ok, (readS l).2 = ok := ⟨_, rfl⟩
  rw [hD] at e0 hi hs ⊢
  rw [hok] at e0 ⊢
  clear hD hok
  cases ok
  · rw [if_neg (by simp)]
    go_enter Tryd.func14, Tryd.ntmps14
    go_wp2_with (first
      | ((with_reducible change wpList _ _ _ (Oper.mk (some 2) _ _ _ _ _ :: _) _ _); refine kAllocL _ _ rfl rfl zero_Deed ?_; intro w1 hR hz1 hB; have hv1 := hv.below hB; have hG1 := hG.below hB; go_frame)
      | (go_at_call 23; refine (e0 _ hG1 hv1).mono ?_; rintro e w2 ⟨rfl, hB2⟩; have hR2 := hR.below hB2 hR.lt; have hz2 := Nat.lt_of_lt_of_le hz1 hB2.size; have hB3 := hB.trans (hB2.mono hB.size); clear hR hB hB2 hv1 hG1 hz1; go_frame)
      | ((with_reducible change wpList _ _ _ (Oper.mk (some 5) _ _ _ _ _ :: _) _ _); refine kAllocL _ _ rfl rfl zero_Deed ?_; intro w3 hR5 hz5 hB5; clear hz5; have hR3 := hR2.below hB5 hR2.lt; have hB6 := hB3.trans (hB5.mono hB3.size); clear hR2 hB5; go_frame)
      | ((with_reducible change wpList _ _ _ (Oper.mk none (Op.store _ (Operand.tmp 5) (Operand.tmp 11)) _ _ _ _ :: _) _ _); refine kStoreD _ _ _ noDeed _ hR5 rfl rfl rfl rfl ?_; intro w4 hS hW; have hR4 := hW.row hR3 (Nat.ne_of_lt hz2); have hB7 := hB6.trans (hW.below (Nat.le_of_lt hz2)); have hv4 := hv.below hB7; have hG4 := hG.below hB7; clear hR5 hR3 hB6 hW hB3; go_frame)
      | ((with_reducible change wpList _ _ _ (Oper.mk (some 20) _ _ _ _ _ :: _) _ _); refine kBuildD0 rfl rfl ?_; go_frame)
      | ((with_reducible change wpList _ _ _ (Oper.mk none (Op.store _ (Operand.tmp 2) (Operand.tmp 20)) _ _ _ _ :: _) _ _); refine kStoreD _ _ _ noDeed _ hR4 rfl rfl rfl rfl ?_; intro w9 hR9 hW9; have hBB := hB7.trans (hW9.below (Nat.le_refl _)); go_frame))
    (try simp only [Exit.inBlock, Exit.then])
    exact result_row_tmp2 rfl rfl rfl rfl hR9 Tryd.underlying29 rfl (info_DeedC _) rfl ⟨_, rfl, ownB_nil _ _, hBB⟩
  have e1 := fun w => lbRight_any hi hs w
  obtain ⟨b, hb⟩ : ∃ b, rightB D = b := ⟨_, rfl⟩
  rw [hb] at e1 ⊢
  cases b
  · rw [if_neg (by simp)]
    go_enter Tryd.func14, Tryd.ntmps14
    go_wp2_with (first
      | ((with_reducible change wpList _ _ _ (Oper.mk (some 2) _ _ _ _ _ :: _) _ _); refine kAllocL _ _ rfl rfl zero_Deed ?_; intro w1 hR hz1 hB; have hv1 := hv.below hB; have hG1 := hG.below hB; go_frame)
      | (go_at_call 23; refine (e0 _ hG1 hv1).mono ?_; rintro e w2 ⟨rfl, hB2⟩; have hR2 := hR.below hB2 hR.lt; have hz2 := Nat.lt_of_lt_of_le hz1 hB2.size; have hB3 := hB.trans (hB2.mono hB.size); clear hR hB hB2 hv1 hG1 hz1; go_frame)
      | ((with_reducible change wpList _ _ _ (Oper.mk (some 5) _ _ _ _ _ :: _) _ _); refine kAllocL _ _ rfl rfl zero_Deed ?_; intro w3 hR5 hz5 hB5; clear hz5; have hR3 := hR2.below hB5 hR2.lt; have hB6 := hB3.trans (hB5.mono hB3.size); clear hR2 hB5; go_frame)
      | ((with_reducible change wpList _ _ _ (Oper.mk none (Op.store _ (Operand.tmp 5) (Operand.tmp 11)) _ _ _ _ :: _) _ _); refine kStoreD _ _ _ noDeed _ hR5 rfl rfl rfl rfl ?_; intro w4 hS hW; have hR4 := hW.row hR3 (Nat.ne_of_lt hz2); have hB7 := hB6.trans (hW.below (Nat.le_of_lt hz2)); have hv4 := hv.below hB7; have hG4 := hG.below hB7; clear hR5 hR3 hB6 hW hB3; go_frame)
      | ((with_reducible change wpList _ _ _ (Oper.mk (some 16) _ _ _ _ _ :: _) _ _); refine kLoadD _ _ _ hS rfl rfl rfl ?_; go_frame)
      | (go_at_call 9; refine (e1 _).mono ?_; rintro e w5 ⟨rfl, hB8⟩; have hR6 := hR4.below hB8 hR4.lt; have hS6 := hS.below hB8 hS.lt; have hB9 := hB7.trans (hB8.mono hB7.size); have hv6 := hv4.below hB8; have hG6 := hG4.below hB8; clear hR4 hS hB7 hB8 hv4 hG4; go_frame)
      | ((with_reducible change wpList _ _ _ (Oper.mk (some 20) _ _ _ _ _ :: _) _ _); refine kBuildD0 rfl rfl ?_; go_frame)
      | ((with_reducible change wpList _ _ _ (Oper.mk none (Op.store _ (Operand.tmp 2) (Operand.tmp 20)) _ _ _ _ :: _) _ _); refine kStoreD _ _ _ noDeed _ hR6 rfl rfl rfl rfl ?_; intro w9 hR9 hW9; have hBB := hB9.trans (hW9.below (Nat.le_refl _)); go_frame))
    (try simp only [Exit.inBlock, Exit.then])
    exact result_row_tmp2 rfl rfl rfl rfl hR9 Tryd.underlying29 rfl (info_DeedC _) rfl ⟨_, rfl, ownB_nil _ _, hBB⟩
  have hf := right_fits hb
  have e2 := fun w u (h1 : IsVals w v (l.map VB)) (h2 : IsVals w u ((wordsL D).map VB)) => bCut_any w h1 h2
  obtain ⟨p, hp⟩ : ∃ p, hasP l (wordsL D) = p := ⟨_, rfl⟩
  rw [hp] at e2 ⊢
  cases p
  · rw [if_neg (by simp)]
    go_enter Tryd.func14, Tryd.ntmps14
    go_wp2_with (first
      | ((with_reducible change wpList _ _ _ (Oper.mk (some 2) _ _ _ _ _ :: _) _ _); refine kAllocL _ _ rfl rfl zero_Deed ?_; intro w1 hR hz1 hB; have hv1 := hv.below hB; have hG1 := hG.below hB; go_frame)
      | (go_at_call 23; refine (e0 _ hG1 hv1).mono ?_; rintro e w2 ⟨rfl, hB2⟩; have hR2 := hR.below hB2 hR.lt; have hz2 := Nat.lt_of_lt_of_le hz1 hB2.size; have hB3 := hB.trans (hB2.mono hB.size); clear hR hB hB2 hv1 hG1 hz1; go_frame)
      | ((with_reducible change wpList _ _ _ (Oper.mk (some 5) _ _ _ _ _ :: _) _ _); refine kAllocL _ _ rfl rfl zero_Deed ?_; intro w3 hR5 hz5 hB5; clear hz5; have hR3 := hR2.below hB5 hR2.lt; have hB6 := hB3.trans (hB5.mono hB3.size); clear hR2 hB5; go_frame)
      | ((with_reducible change wpList _ _ _ (Oper.mk none (Op.store _ (Operand.tmp 5) (Operand.tmp 11)) _ _ _ _ :: _) _ _); refine kStoreD _ _ _ noDeed _ hR5 rfl rfl rfl rfl ?_; intro w4 hS hW; have hR4 := hW.row hR3 (Nat.ne_of_lt hz2); have hB7 := hB6.trans (hW.below (Nat.le_of_lt hz2)); have hv4 := hv.below hB7; have hG4 := hG.below hB7; clear hR5 hR3 hB6 hW hB3; go_frame)
      | ((with_reducible change wpList _ _ _ (Oper.mk (some 16) _ _ _ _ _ :: _) _ _); refine kLoadD _ _ _ hS rfl rfl rfl ?_; go_frame)
      | (go_at_call 9; refine (e1 _).mono ?_; rintro e w5 ⟨rfl, hB8⟩; have hR6 := hR4.below hB8 hR4.lt; have hS6 := hS.below hB8 hS.lt; have hB9 := hB7.trans (hB8.mono hB7.size); have hv6 := hv4.below hB8; have hG6 := hG4.below hB8; clear hR4 hS hB7 hB8 hv4 hG4; go_frame)
      | ((with_reducible change wpList _ _ _ (Oper.mk (some 23) _ _ _ _ _ :: _) _ _); refine kLoadD _ _ _ hS6 rfl rfl rfl ?_; go_frame)
      | (go_at_call 17; refine (lbWords_any hi hf _ hG6).mono ?_; rintro e w7 ⟨v7, rfl, hO7, hB10⟩; have hR8 := hR6.below hB10 hR6.lt; have hS8 := hS6.below hB10 hS6.lt; have hB11 := hB9.trans (hB10.mono hB9.size); have hv8 := hv6.below hB10; clear hR6 hS6 hB9 hB10 hv6 hG6; go_frame)
      | (go_at_call 24; refine (e2 _ _ hv8 hO7.vals).mono ?_; rintro e w8 ⟨v8, rfl, hX8, rfl⟩; clear hv8 hO7; go_frame)
      | ((with_reducible change wpList _ _ _ (Oper.mk (some 30) _ _ _ _ _ :: _) _ _); refine kBuildD0 rfl rfl ?_; go_frame)
      | ((with_reducible change wpList _ _ _ (Oper.mk none (Op.store _ (Operand.tmp 2) (Operand.tmp 30)) _ _ _ _ :: _) _ _); refine kStoreD _ _ _ noDeed _ hR8 rfl rfl rfl rfl ?_; intro w9 hR9 hW9; have hBB := hB11.trans (hW9.below (Nat.le_refl _)); go_frame))
    (try simp only [Exit.inBlock, Exit.then])
    exact result_row_tmp2 rfl rfl rfl rfl hR9 Tryd.underlying29 rfl (info_DeedC _) rfl ⟨_, rfl, ownB_nil _ _, hBB⟩
  rw [if_pos ⟨rfl, rfl, rfl⟩]
  rw [if_pos rfl] at e2
  obtain ⟨T, hTe⟩ : ∃ T, l.drop (wordsL D).length = T := ⟨_, rfl⟩
  have hT : T.length ≤ 1000000 := by rw [← hTe]; simp; omega
  rw [hTe] at e2 ⊢
  go_enter Tryd.func14, Tryd.ntmps14
  go_wp2_with (first
    | ((with_reducible change wpList _ _ _ (Oper.mk (some 2) _ _ _ _ _ :: _) _ _); refine kAllocL _ _ rfl rfl zero_Deed ?_; intro w1 hR hz1 hB; have hv1 := hv.below hB; have hG1 := hG.below hB; go_frame)
    | (go_at_call 23; refine (e0 _ hG1 hv1).mono ?_; rintro e w2 ⟨rfl, hB2⟩; have hR2 := hR.below hB2 hR.lt; have hz2 := Nat.lt_of_lt_of_le hz1 hB2.size; have hB3 := hB.trans (hB2.mono hB.size); clear hR hB hB2 hv1 hG1 hz1; go_frame)
    | ((with_reducible change wpList _ _ _ (Oper.mk (some 5) _ _ _ _ _ :: _) _ _); refine kAllocL _ _ rfl rfl zero_Deed ?_; intro w3 hR5 hz5 hB5; clear hz5; have hR3 := hR2.below hB5 hR2.lt; have hB6 := hB3.trans (hB5.mono hB3.size); clear hR2 hB5; go_frame)
    | ((with_reducible change wpList _ _ _ (Oper.mk none (Op.store _ (Operand.tmp 5) (Operand.tmp 11)) _ _ _ _ :: _) _ _); refine kStoreD _ _ _ noDeed _ hR5 rfl rfl rfl rfl ?_; intro w4 hS hW; have hR4 := hW.row hR3 (Nat.ne_of_lt hz2); have hB7 := hB6.trans (hW.below (Nat.le_of_lt hz2)); have hv4 := hv.below hB7; have hG4 := hG.below hB7; clear hR5 hR3 hB6 hW hB3; go_frame)
    | ((with_reducible change wpList _ _ _ (Oper.mk (some 16) _ _ _ _ _ :: _) _ _); refine kLoadD _ _ _ hS rfl rfl rfl ?_; go_frame)
    | (go_at_call 9; refine (e1 _).mono ?_; rintro e w5 ⟨rfl, hB8⟩; have hR6 := hR4.below hB8 hR4.lt; have hS6 := hS.below hB8 hS.lt; have hB9 := hB7.trans (hB8.mono hB7.size); have hv6 := hv4.below hB8; have hG6 := hG4.below hB8; clear hR4 hS hB7 hB8 hv4 hG4; go_frame)
    | ((with_reducible change wpList _ _ _ (Oper.mk (some 23) _ _ _ _ _ :: _) _ _); refine kLoadD _ _ _ hS6 rfl rfl rfl ?_; go_frame)
    | (go_at_call 17; refine (lbWords_any hi hf _ hG6).mono ?_; rintro e w7 ⟨v7, rfl, hO7, hB10⟩; have hR8 := hR6.below hB10 hR6.lt; have hS8 := hS6.below hB10 hS6.lt; have hB11 := hB9.trans (hB10.mono hB9.size); have hv8 := hv6.below hB10; clear hR6 hS6 hB9 hB10 hv6 hG6; go_frame)
    | (go_at_call 24; refine (e2 _ _ hv8 hO7.vals).mono ?_; rintro e w8 ⟨v8, rfl, hX8, rfl⟩; clear hv8 hO7; go_frame))
  refine region_symT 3 _ [] [] [.val (deedV D), .val (v8), .prop (fun w v => OwnB w w8.heap.size v T) (fun _ _ _ hb h => h.below hb)] rfl (by kernel_rfl) (by kernel_rfl) (by kernel_rfl) (by kernel_rfl) rfl (by intro s hs; cases hs) (steps_all ⟨?_, ?_, ?_, trivial⟩) ?_
  · exact fun A W sz ot hbel ap dp => kLoadD _ _ _ (hS8.below hbel hS8.lt) rfl rfl (tO ot 5) (tV ap sz (Below.refl _ _) rfl)
  · exact fun A W sz ot hbel ap dp => kMoveV _ _ rfl rfl (tO ot 7) (tV ap sz (Below.refl _ _) rfl)
  · exact fun A W sz ot hbel ap dp => kCall1 25 _ _ _ rfl rfl (by kernel_rfl) (tD dp 1 .data) ((bClone_any _ (hX8.below hbel) hT).mono (fun e W1 ⟨v, he, hO, hB'⟩ => ⟨v, he, tV ap sz hB' (own_less hbel.size hO)⟩))
  intro w10 hB12
  dsimp only [AllV]
  rintro u2 hu2 hap
  dsimp only [putAll, List.take, List.drop]
  go_frame
  clear hap
  have hR10 := hR8.below hB12 hR8.lt
  have hB13 := hB11.trans (hB12.mono hB11.size)
  have hO10 := own_less hB11.size hu2
  go_wp2_with (first
    | ((with_reducible change wpList _ _ _ (Oper.mk none (Op.store _ (Operand.tmp 2) (Operand.tmp 31)) _ _ _ _ :: _) _ _); refine kStoreD _ _ _ noDeed _ hR10 rfl rfl rfl rfl ?_; intro w9 hR9 hW9; have hBB := hB13.trans (hW9.below (Nat.le_refl _)); have hO9 := own_keepW hO10 hW9 hR10; go_frame))
  (try simp only [Exit.inBlock, Exit.then])
  exact result_row_tmp2 rfl rfl rfl rfl hR9 Tryd.underlying29 rfl (info_DeedC _) rfl ⟨_, rfl, hO9, hBB⟩
end Go.Proofs.YtnaclalbeocpkaaDoor
