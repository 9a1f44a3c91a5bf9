/-
  The walks of digest's firstState, New, (*Hasher).Add, (*Hasher).Sum and Sum: the sum of all lists' bytes.
-/
import Derived.Test.YtnaclalbeocpkaaDoorBytesKit
import Derived.Test.YtnaclalbeocpkaaDoorDigAdd
namespace Go.Proofs.YtnaclalbeocpkaaDoor
open Go.RowKit

theorem build_state : ∀ w, (Instr.build 86 #[(0, .int .u32 1779033703), (1, .int .u32 3144134277), (2, .int .u32 1013904242), (3, .int .u32 2773480762), (4, .int .u32 1359893119), (5, .int .u32 2600822924), (6, .int .u32 528734635), (7, .int .u32 1541459225)]).run Tryd.prog w = .ok (.agg (tab 8 fun j => V32 (at32 st0.list j))) w := fun _ => by kernel_rfl
theorem build_hasher : ∀ w, (Instr.build 91 #[(0, .agg (tab 8 fun j => V32 (at32 st0.list j)))]).run Tryd.prog w = .ok (.agg (hCells st0 (List.replicate 64 0) 0)) w := fun _ => by kernel_rfl
theorem info_Hasher : (Tryd.prog.info? 91).map (·.size) = some 73 := by kernel_rfl
theorem zero_Hasher : ((Tryd.prog.info? 91).bind (·.zero)).map Value.cells = some (hCells ⟨0, 0, 0, 0, 0, 0, 0, 0⟩ (List.replicate 64 0) 0) := by kernel_rfl

/-- A composite value whose parts are known. -/
theorem kBuild {P : Program} {ops : Array Oper} {Q : Exit → Act → World → Prop} {rest : List Oper} {o : Oper} {a : Act} {w : World} (T : TypeId) (parts : Array (Nat × Operand)) (vs : Array (Nat × Value)) (v : Value) (ho : o.op = .build T parts) (hg : Region.wanted o (yielded ops a.tmps) = true)
    (hp : (parts.map fun (i, x) => (i, a.eval x)) = vs) (hr : ∀ w, (Instr.build T vs).run P w = .ok v w)
    (h : wpList P ops Q rest (a.put o.dst v) w) : wpList P ops Q (o :: rest) a w := by
  refine BigFrame.wpList_want hg fun K hK => ?_
  unfold Oper.wp execOp
  simp only [ho, hp, Sem.run_bind, hr, Result.andThen_ok, Sem.run_pure]
  exact hK _ _ h

set_option maxRecDepth 100000 in
set_option maxHeartbeats 400000 in
theorem firstState_any (w : World) :
    Calls Tryd.prog 49 #[] w fun e w' => e = .returned (.agg (tab 8 fun j => V32 (at32 st0.list j))) ∧ Below w.heap.size w w' := by
  go_enter Tryd.func49, Tryd.ntmps49
  go_wp2_with (first
    | ((with_reducible change wpList _ _ _ (Oper.mk (some 0) _ _ _ _ _ :: _) _ _); refine kAlloc _ _ rfl rfl zero_state ?_; intro w1 hR1 hs1 hB1)
    | ((with_reducible change wpList _ _ _ (Oper.mk (some 1) _ _ _ _ _ :: _) _ _); refine kBuild _ _ _ _ rfl rfl (by simp [Act.eval]) build_state ?_)
    | ((with_reducible change wpList _ _ _ (Oper.mk none _ _ _ _ _ :: _) _ _); refine kStoreRow _ _ _ _ _ _ _ rfl rfl rfl rfl hR1 (by rw [tab_size]; exact info_state) (by rw [tab_size, tab_size]) (tab_one _ _ fun _ _ => rfl) ?_; intro w2 hR2 hW2))
  exact result_row Tryd.results49 rfl hR2 Tryd.underlying86 rfl (by rw [tab_size]; exact info_state) rfl ⟨rfl, hB1.trans (hW2.below (Nat.le_refl _))⟩

def NewPost (w : World) (e : Ending) (w' : World) : Prop := ∃ g, e = .returned (.pointer (some ⟨g, 0, none⟩)) ∧ IsHasher w' g [] ∧ w.heap.size ≤ g ∧ Below w.heap.size w w'
theorem hinv_nil : HInv [] (List.replicate 64 0) := ⟨by simp, rfl⟩

set_option maxRecDepth 100000 in
set_option maxHeartbeats 400000 in
theorem New_any (w : World) : Calls Tryd.prog 40 #[] w (NewPost w) := by
  go_enter Tryd.func40, Tryd.ntmps40
  go_wp2_with (first
    | (go_at_call 49; refine (firstState_any _).mono ?_; rintro e w1 ⟨rfl, hB1⟩)
    | ((with_reducible change wpList _ _ _ (Oper.mk (some 2) _ _ _ _ _ :: _) _ _); refine kBuild _ _ _ _ rfl rfl (by simp [Act.eval]) build_hasher ?_)
    | ((with_reducible change wpList _ _ _ (Oper.mk (some 3) _ _ _ _ _ :: _) _ _); refine kBox _ _ _ rfl rfl rfl ?_; intro w2 hR2 hs2 hB2))
  go_ret
  exact ⟨_, rfl, ⟨_, hinv_nil, hR2⟩, hB1.size, hB1.trans (hB2.mono hB1.size)⟩

theorem IsVals.grown {w w' : World} {v : Value} {l : List Value} {g : Nat} (h : IsVals w v l) (hg : w.grownBy w' (some g)) (hne : l ≠ [] → v.ownBlock ≠ some g) : IsVals w' v l := by
  obtain ⟨ao, c, rfl, hc, hn, hj⟩ := h
  refine ⟨ao, c, rfl, hc, hn, fun j u hu => ?_⟩
  obtain ⟨a, rfl, hcell⟩ := hj j u hu
  have hl : l ≠ [] := fun e => by rw [e] at hu; simp at hu
  have hb : a.block ≠ g := fun e => hne hl (by rw [← e]; rfl)
  have hblk : (a.add j).block = a.block := by unfold Addr.add; split <;> rfl
  exact ⟨a, rfl, by rw [World.cell?_of_block (w := w) (hg.block _ (block_lt_of_cell hcell) (by rw [hblk]; simpa using hb))]; exact hcell⟩

/-- the value reads as a list of lists of bytes, none of it in block g -/
def IsLists (w : World) (g : Nat) (v : Value) (Ls : List (List UInt8)) : Prop :=
  ∃ vs : List Value, vs.length = Ls.length ∧ IsVals w v vs ∧ (vs ≠ [] → v.ownBlock ≠ some g) ∧
    ∀ (i : Nat) (x : Value) (L : List UInt8), vs[i]? = some x → Ls[i]? = some L → IsVals w x (L.map VB) ∧ (L ≠ [] → x.ownBlock ≠ some g)
theorem IsLists.grown {w w' : World} {g : Nat} {v : Value} {Ls : List (List UInt8)} (h : IsLists w g v Ls) (hg : w.grownBy w' (some g)) : IsLists w' g v Ls := by
  obtain ⟨vs, hl, hv, hne, hi⟩ := h
  refine ⟨vs, hl, hv.grown hg hne, hne, fun i x L hx hL => ?_⟩
  obtain ⟨h1, h2⟩ := hi i x L hx hL
  exact ⟨h1.grown hg (fun e => h2 (fun e2 => e (by rw [e2]; rfl))), h2⟩
theorem info_bytes : (Tryd.prog.info? 22).map (·.size) = some 1 := by kernel_rfl

theorem flatten_take_succ (Ls : List (List UInt8)) (k : Nat) (h : k < Ls.length) : (Ls.take (k + 1)).flatten = (Ls.take k).flatten ++ Ls[k] := by
  rw [List.take_succ_eq_append_getElem h, List.flatten_append]; simp
theorem flatten_take_len (Ls : List (List UInt8)) (k : Nat) (h : k < Ls.length) : ((Ls.take k).flatten).length + Ls[k].length ≤ Ls.flatten.length := by
  have h1 := flatten_take_succ Ls k h
  have h2 : Ls.flatten = (Ls.take (k + 1)).flatten ++ (Ls.drop (k + 1)).flatten := by rw [← List.flatten_append, List.take_append_drop]
  rw [h2, h1]; simp

set_option maxRecDepth 100000 in
set_option maxHeartbeats 400000 in
theorem Add_any (M : List UInt8) (Ls : List (List UInt8)) (g : Nat) (v : Value) (w : World) (hK : Keys w) (hg0 : g ≠ 1) (hH : IsHasher w g M) (hv : IsLists w g v Ls) (hn : Ls.length ≤ 1000000) (hlen : M.length + Ls.flatten.length < 1152921504606846976) :
    Calls Tryd.prog 41 #[.pointer (some ⟨g, 0, none⟩), v] w (AddPost w g (M ++ Ls.flatten)) := by
  obtain ⟨vs, hl, hvs, hne, hi⟩ := hv
  have hn' : vs.length ≤ 1000000 := by omega
  have Hl := Lib.hid hl
  clear hl
  go_enter Tryd.func41, Tryd.ntmps41
  go_wp2_with (first
    | ((with_reducible change wpList _ _ _ (Oper.mk (some 7) _ _ _ _ _ :: _) _ _); refine kLen _ _ _ _ _ rfl rfl rfl hvs Tryd.underlying57 ?_))
  go_loopw [8] (fun i wr => ∃ k : Nat, k ≤ vs.length ∧ i = .int .i64 k ∧ IsHasher wr g (M ++ (Ls.take k).flatten) ∧ w.grownBy wr (some g)) (fun i _ => vs.length - (intOf i).toNat)
  case atStart => exact ⟨0, by omega, rfl, by simpa using hH, World.grownBy.refl _ _⟩
  case round =>
    obtain ⟨k, hk, rfl, hHr, hGr⟩ := hrel
    by_cases hlt : k < vs.length
    · have hd : decide ((k : Int) < (vs.length : Int)) = true := by simp; omega
      have hkL : k < Ls.length := by rw [← Hl.out]; exact hlt
      obtain ⟨hx1, hx2⟩ := hi k vs[k] Ls[k] (by simp [hlt]) (by simp [hkL])
      have hxr := hx1.grown hGr (fun e => hx2 (fun e2 => e (by rw [e2]; rfl)))
      have hvr := hvs.grown hGr hne
      have hKr := hK.grown hGr hg0
      have hfl := flatten_take_len Ls k hkL
      go_wp2_with (first
        | ((with_reducible change wpList _ _ _ (Oper.mk (some 10) _ _ _ _ _ :: _) _ _); refine kIndexAddrV _ _ _ _ _ _ _ _ k vs[k] rfl rfl rfl hvr rfl Tryd.underlying57 info_bytes rfl (by simp [hlt]) ?_; intro b hb)
        | ((with_reducible change wpList _ _ _ (Oper.mk (some 11) _ _ _ _ _ :: _) _ _); refine kLoadCell _ _ _ _ _ rfl rfl rfl hb Tryd.underlying22 rfl ?_)
        | (go_at_call 50; refine (addList_any _ _ _ _ _ hKr hg0 hHr hxr hx2 (by rw [List.length_append]; omega)).mono ?_; rintro e w2 ⟨rfl, hH2, hG2⟩))
      go_roundw
      case rel =>
        refine ⟨k + 1, by omega, by go_num, by rw [flatten_take_succ Ls k hkL, ← List.append_assoc]; exact hH2, ⟨hG2.os.trans hGr.os, hG2.tape.trans hGr.tape, hG2.output.trans hGr.output, Nat.le_trans hGr.size hG2.size, fun j hj hne' => ?_⟩⟩
        rw [hG2.block j (Nat.lt_of_lt_of_le hj hGr.size) hne']; exact hGr.block j hj hne'
      case measure => simp [intOf]; omega
    · have hd : decide ((k : Int) < (vs.length : Int)) = false := by simp; omega
      rw [List.take_of_length_le (by rw [← Hl.out]; omega)] at hHr
      go_wp2
      go_end0
      exact ⟨rfl, hHr, hGr⟩

theorem stOf_padded (M : List UInt8) : (stOf (M ++ tailOf M.length)).bytes = sha M := rfl

set_option maxRecDepth 100000 in
set_option maxHeartbeats 400000 in
theorem HSum_any (M : List UInt8) (g : Nat) (w : World) (hK : Keys w) (hH : IsHasher w g M) (hlen : M.length < 1000000000000) :
    Calls Tryd.prog 42 #[.pointer (some ⟨g, 0, none⟩)] w fun e w' => e = .returned (.agg (tab 32 fun p => VB (at8 (sha M) p))) ∧ Below w.heap.size w w' := by
  obtain ⟨bg, hI, hRow⟩ := hH
  have hlt := hRow.lt
  have h0w : 1 < w.heap.size := block_lt_of_cell (hK 0 (by decide))
  have htl : (tailOf M.length).length ≤ 100 := by simp [tailOf, be64]; omega
  go_enter Tryd.func42, Tryd.ntmps42
  go_wp2_with (first
    | ((with_reducible change wpList _ _ _ (Oper.mk (some 2) _ _ _ _ _ :: _) _ _); refine kAlloc _ _ rfl rfl zero_Hash ?_; intro w1 hR1 hs1 hB1)
    | ((with_reducible change wpList _ _ _ (Oper.mk (some 6) _ _ _ _ _ :: _) _ _); refine kLoadRow _ _ _ _ _ _ rfl rfl rfl (hRow.below hB1 hlt) Tryd.underlying91 rfl (by unfold hCells; rw [tab_size]; exact info_Hasher) ?_)
    | ((with_reducible change wpList _ _ _ (Oper.mk (some 3) _ _ _ _ _ :: _) _ _); refine kAlloc _ _ rfl rfl zero_Hasher ?_; intro w2 hR2 hs2 hB2)
    | ((with_reducible change wpList _ _ _ (Oper.mk none (Op.store 91 _ _) _ _ _ _ :: _) _ _); refine kStoreRow _ _ _ _ _ _ _ rfl rfl rfl rfl hR2 (by unfold hCells; rw [tab_size]; exact info_Hasher) (by unfold hCells; rw [tab_size, tab_size]) (tab_one _ _ fun _ _ => hCell_one _ _ _ _) ?_; intro w3 hR3 hW3)
    | ((with_reducible change wpList _ _ _ (Oper.mk (some 10) _ _ _ _ _ :: _) _ _); refine kLoad1 _ _ _ _ _ _ _ _ rfl rfl rfl (hW3.row ((hRow.below hB1 hlt).below hB2 (by omega)) (by omega)) Tryd.underlying75 rfl (hCells_len _ _ _) ?_)
    | (go_at_call 51; refine (ending_any _ (by omega) _).mono ?_; rintro e w4 ⟨v4, rfl, hO4, hB4⟩))
  have h3 := hW3.size
  rw [hs1] at hR3
  have hb4 := hB4.size
  have hB04 : Below w.heap.size w w4 := ((hB1.trans (hB2.mono (by omega))).trans (hW3.below (by omega))).trans (hB4.mono (by omega))
  have hR14 := (hW3.row (hR1.below hB2 (by omega)) (by omega)).below hB4 (by omega)
  have hne : v4.ownBlock ≠ some (w.heap.size + 1) := fun e => by have := (World.ownsRow.lt hO4 _ e).1; omega
  refine (addList_any M (tailOf M.length) (w.heap.size + 1) v4 w4 (hK.below hB04) (by omega) ⟨bg, hI, hR3.below hB4 (by omega)⟩ hO4.vals (fun _ => hne) (by omega)).mono ?_
  rintro e w5 ⟨rfl, ⟨bg5, hI5, hR5⟩, hG5⟩
  have hB5 : Below w.heap.size w4 w5 := (Below.refl _ _).grown hG5 (by omega) (fun k hk => by cases hk; omega)
  have hR15 : Row w5 w.heap.size 59 (tab 32 fun _ => VB 0) := by unfold Row; rw [hG5.block _ (by omega) (by simp)]; exact hR14
  have hs5 := hG5.size
  have hlt5 : w.heap.size + 1 < w5.heap.size := by omega
  clear hR1 hR2 hR3 hR14 hs1 hs2 hB1 hB2 hB4 hW3 hO4 h3
  go_wp2_with (first
    | ((with_reducible change wpList _ _ _ (Oper.mk (some 14) _ _ _ _ _ :: _) _ _); refine kLoadAs _ _ _ _ _ _ _ _ _ rfl rfl rfl hR5 Tryd.underlying86 rfl info_state (by unfold hCells; rw [tab_size]; decide) (hCells_state _ _ _) ?_)
    | (go_at_call 52; refine (hash_any _ _).mono ?_; rintro e w6 ⟨rfl, hB6⟩)
    | ((with_reducible change wpList _ _ _ (Oper.mk none _ _ _ _ _ :: _) _ _); refine kStoreRow _ _ _ _ _ _ _ rfl rfl rfl rfl (hR15.below hB6 (by omega)) (by rw [tab_size]; exact info_Hash) (by rw [tab_size, tab_size]) (tab_one _ _ fun _ _ => rfl) ?_; intro w7 hR7 hW7))
  rw [tab_congr (g := fun p => VB (at8 (sha M) p)) (fun p hp => by rw [hbyte_bytes _ _ hp, stOf_padded])] at hR7
  exact result_row Tryd.results42 rfl hR7 Tryd.underlying59 rfl (by rw [tab_size]; exact info_Hash) rfl ⟨rfl, ((hB04.trans hB5).trans (hB6.mono (by omega))).trans (hW7.below (Nat.le_refl _))⟩

theorem IsHasher.keysApart {w : World} (hK : Keys w) {g : Nat} (h : w.heap.size ≤ g) : g ≠ 1 := by
  have := block_lt_of_cell (hK 0 (by decide)); simp at this; omega
theorem AreLists.apart {w w' : World} {v : Value} {Ls : List (List UInt8)} (h : AreLists w v Ls) (hb : Below w.heap.size w w') {g : Nat} (hg : w.heap.size ≤ g) : IsLists w' g v Ls := by
  obtain ⟨vs, hl, hv, hi⟩ := h
  refine ⟨vs, hl, hv.below hb, hv.old hg, fun i x L hx hL => ⟨(hi i x L hx hL).below hb, fun hne => (hi i x L hx hL).old hg (fun e => hne (by simpa using e))⟩⟩
set_option maxRecDepth 100000 in
set_option maxHeartbeats 400000 in
theorem Sum_any (Ls : List (List UInt8)) (v : Value) (w : World) (hK : Keys w) (hv : AreLists w v Ls) (hn : Ls.length ≤ 1000000) (hlen : Ls.flatten.length < 1000000000000) :
    Calls Tryd.prog 36 #[v] w fun e w' => e = .returned (.agg (tab 32 fun p => VB (at8 (sha Ls.flatten) p))) ∧ Below w.heap.size w w' := by
  have h0w : 1 < w.heap.size := block_lt_of_cell (hK 0 (by decide))
  go_enter Tryd.func36, Tryd.ntmps36
  go_wp2_with (first
    | ((with_reducible change wpList _ _ _ (Oper.mk (some 2) _ _ _ _ _ :: _) _ _); refine kAlloc _ _ rfl rfl zero_Hash ?_; intro w1 hR1 hs1 hB1)
    | (go_at_call 40; refine (New_any _).mono ?_; rintro e w2 ⟨g, rfl, hH2, hg, hB2⟩))
  have hs2 := hB2.size
  have hB02 : Below w.heap.size w w2 := hB1.trans (hB2.mono (by omega))
  have hK2 := hK.below hB02
  refine (Add_any [] Ls g v w2 hK2 (by omega) hH2 (hv.apart hB02 (by omega)) hn (by simpa using (by omega : Ls.flatten.length < 1152921504606846976))).mono ?_
  rintro e w3 ⟨rfl, hH3, hG3⟩
  rw [List.nil_append] at hH3
  have hK3 := hK2.grown hG3 (by omega)
  have hR3 : Row w3 w.heap.size 59 (tab 32 fun _ => VB 0) := by
    unfold Row; rw [hG3.block _ (by omega) (by simp; omega)]; exact hR1.below hB2 (by omega)
  have hB3 : Below w.heap.size w w3 := hB02.trans ((Below.refl _ _).grown hG3 (by omega) (fun k hk => by cases hk; omega))
  have hs3 := hG3.size
  have hlt3 : w.heap.size < w3.heap.size := by omega
  clear hR1 hs1 hB1 hs2 hH2 hB2 hG3
  go_wp2_with (first
    | (go_at_call 42; refine (HSum_any _ _ _ hK3 hH3 hlen).mono ?_; rintro e w4 ⟨rfl, hB4⟩)
    | ((with_reducible change wpList _ _ _ (Oper.mk none _ _ _ _ _ :: _) _ _); refine kStoreRow _ _ _ _ _ _ _ rfl rfl rfl rfl (hR3.below hB4 hlt3) (by rw [tab_size]; exact info_Hash) (by rw [tab_size, tab_size]) (tab_one _ _ fun _ _ => rfl) ?_; intro w5 hR5 hW5))
  exact result_row Tryd.results36 rfl hR5 Tryd.underlying59 rfl (by rw [tab_size]; exact info_Hash) rfl ⟨rfl, (hB3.trans (hB4.mono (by omega))).trans (hW5.below (Nat.le_refl _))⟩
end Go.Proofs.YtnaclalbeocpkaaDoor
