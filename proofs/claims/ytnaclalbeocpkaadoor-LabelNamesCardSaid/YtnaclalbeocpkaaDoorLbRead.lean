/-
  Layer 8: the walks of the program's read and Split.
-/
import Derived.Test.YtnaclalbeocpkaaDoorLbDeed
namespace Go.Proofs.YtnaclalbeocpkaaDoor
open Go Go.RowKit

def readS (l : List UInt8) : Deed × Bool := if kindL l = 0 then (noDeed, true) else match piecesS (cntN (kindL l)) (l.drop 1) with
  | none => (noDeed, false)
  | some Ls => (deedOfL (kindL l) Ls, true)
theorem next_len {b : List UInt8} {c : UInt8} {d : List UInt8} {u : Nat} (h : nextS b = some (c, d, u)) : d.length ≤ b.length := by
  rw [next_split] at h
  cases hs : splitS b with
  | none => rw [hs] at h; cases h
  | some p =>
    obtain ⟨hd, x⟩ := p
    rw [hs] at h
    obtain ⟨h1, h2, h3⟩ := split_head hs
    simp only [Option.map_some, Option.some.injEq, Prod.mk.injEq] at h
    obtain ⟨-, rfl, -⟩ := h
    split
    · simp; omega
    · exact h3
theorem pieces_len : ∀ (n : Nat) (b : List UInt8) (Ls : List (List UInt8)), piecesS n b = some Ls → Ls.length = n ∧ ∀ L ∈ Ls, L.length ≤ b.length
  | 0, b, Ls, h => by simp [piecesS] at h; subst h; exact ⟨rfl, by simp⟩
  | n + 1, b, Ls, h => by
    simp only [piecesS] at h
    cases hn : nextS b with
    | none => rw [hn] at h; cases h
    | some p =>
      obtain ⟨c, d, u⟩ := p
      rw [hn] at h
      cases hp : piecesS n (b.drop u) with
      | none => simp [hp] at h
      | some Ms =>
        simp [hp] at h
        subst h
        obtain ⟨h1, h2⟩ := pieces_len n _ Ms hp
        refine ⟨by simp [h1], fun L hL => ?_⟩
        rcases List.mem_cons.1 hL with rfl | hL
        · exact next_len hn
        · have := h2 L hL; simp at this; omega
theorem kindL_lt (l : List UInt8) : kindL l < 4 := by unfold kindL; split <;> (try split) <;> (try split) <;> (try split) <;> omega
theorem getD_le {Ls : List (List UInt8)} {m : Nat} (h : ∀ L ∈ Ls, L.length ≤ m) (k : Nat) : (Ls[k]?.getD []).length ≤ m := by
  cases hk : Ls[k]? with
  | none => simp
  | some L => exact h L (List.mem_of_getElem? hk)
theorem deedOfL_is (k : Nat) (Ls : List (List UInt8)) : (deedOfL k Ls).Is := by
  unfold deedOfL
  split
  · exact put20_len _
  · split
    · rfl
    · split <;> rfl
theorem deedOfL_small {k : Nat} {Ls : List (List UInt8)} (h : ∀ L ∈ Ls, L.length ≤ 1000000) : (deedOfL k Ls).Small := by
  have a0 := getD_le h 0
  have a1 := getD_le h 1
  have a2 := getD_le h 2
  unfold deedOfL Deed.Small
  split
  · exact ⟨by simp, by simp, by simp⟩
  · split
    · exact ⟨a0, a2, a1⟩
    · split
      · exact ⟨a0, a1, by simp⟩
      · exact ⟨by simp [noDeed], by simp [noDeed], by simp [noDeed]⟩
theorem readS_ok {l : List UInt8} (hl : l.length ≤ 1000000) : (readS l).1.Is ∧ (readS l).1.Small := by
  have hn : noDeed.Is ∧ noDeed.Small := ⟨rfl, by simp [noDeed], by simp [noDeed], by simp [noDeed]⟩
  unfold readS
  split
  · exact hn
  · cases hp : piecesS (cntN (kindL l)) (l.drop 1) with
    | none => exact hn
    | some Ls => exact ⟨deedOfL_is _ _, deedOfL_small fun L hL => by have := (pieces_len _ _ _ hp).2 L hL; simp at this; omega⟩
set_option maxRecDepth 100000 in
set_option maxHeartbeats 8000000 in
theorem lbRead_any {l : List UInt8} {v : Value} (w : World) (hG : Counts w) (hv : IsVals w v (l.map VB)) (hl : l.length ≤ 1000000) : Calls Tryd.prog 23 #[v] w fun e w' => e = .returned (.tuple #[deedV (readS l).1, .bool (readS l).2]) ∧ Below w.heap.size w w' := by
  have e1 := fun w (h : IsVals w v (l.map VB)) => lbKindOf_any w h
  obtain ⟨K, hK⟩ : ∃ K, kindL l = K := ⟨_, rfl⟩
  have hK4 : K < 4 := by rw [← hK]; exact kindL_lt l
  unfold readS
  rw [hK] at e1 ⊢
  by_cases k0 : K = 0
  · have hk0 : decide ((K : Int) = 0) = true := by simp [k0]
    rw [if_pos k0]
    go_enter Tryd.func23, Tryd.ntmps23
    go_wp2_with (first
      | ((with_reducible change wpList _ _ _ (Oper.mk (some 2) _ _ _ _ _ :: _) _ _); refine kAllocL _ _ rfl rfl zero_Deed ?_; intro w1 hR hz1 hB; have hv1 := hv.below hB; go_frame)
      | (go_at_call 16; refine (e1 _ hv1).mono ?_; rintro e w2 ⟨rfl, rfl⟩; go_frame)
      | ((with_reducible change wpList _ _ _ (Oper.mk (some 10) _ _ _ _ _ :: _) _ _); refine kEqlI _ _ _ _ .i64 (K : Int) 0 true rfl rfl rfl rfl hk0 ?_; go_frame)
      | ((with_reducible change wpList _ _ _ (Oper.mk (some 11) _ _ _ _ _ :: _) _ _); refine kBuildD0 rfl rfl ?_; go_frame)
      | ((with_reducible change wpList _ _ _ (Oper.mk none _ _ _ _ _ :: _) _ _); refine kStoreD _ _ _ noDeed _ hR rfl rfl rfl rfl ?_; intro w9 hR9 hW9; have hB9 := hB.trans (hW9.below (Nat.le_refl _)); go_frame))
    (try simp only [Exit.inBlock, Exit.then])
    exact result_row_tmp rfl rfl rfl hR9 Tryd.underlying29 rfl (info_DeedC _) rfl ⟨rfl, hB9⟩
  have hk0 : decide ((K : Int) = 0) = false := by simp; omega
  rw [if_neg k0]
  have h1 : 1 ≤ l.length := by
    cases l with
    | nil => exact absurd hK.symm k0
    | cons c r => simp
  obtain ⟨c, hc⟩ : ∃ c, cntN K = c := ⟨_, rfl⟩
  have hc3 : c ≤ 3 := by rw [← hc]; exact cntN_le K
  have hK3 : K = 1 ∨ K = 2 ∨ K = 3 := by omega
  have hG1 : ∀ w' : World, Below w.heap.size w w' → ∀ j, j < 4 → w'.cell? ⟨0, j, none⟩ = some (.int .i64 (cntN j : Int)) := fun w' h => hG.below h
  have hp := fun Ls => pieces_len c (l.drop 1) Ls
  have e2 := fun w x (h : IsVals w x ((l.drop 1).map VB)) => lbPieces_any (n := c) (by omega) w h (by simp; omega)
  have e3 := fun (Ls : List (List UInt8)) (u : Value) w (h : AreLists w u Ls) h1 h2 => lbDeedOf_any hK3 w h h1 h2
  rw [hc] at e3
  rw [hc]
  obtain ⟨P, hP⟩ : ∃ P, piecesS c (l.drop 1) = P := ⟨_, rfl⟩
  rw [hP] at e2 hp ⊢
  clear hP
  go_enter Tryd.func23, Tryd.ntmps23
  go_wp2_with (first
    | ((with_reducible change wpList _ _ _ (Oper.mk (some 2) _ _ _ _ _ :: _) _ _); refine kAllocL _ _ rfl rfl zero_Deed ?_; intro w1 hR hz1 hB; have hv1 := hv.below hB; go_frame)
    | (go_at_call 16; refine (e1 _ hv1).mono ?_; rintro e w2 ⟨rfl, rfl⟩; go_frame)
    | ((with_reducible change wpList _ _ _ (Oper.mk (some 10) _ _ _ _ _ :: _) _ _); refine kEqlI _ _ _ _ .i64 (K : Int) 0 false rfl rfl rfl rfl hk0 ?_; go_frame))
  have hvd : IsVals w2 (fromV v 1) ((l.drop 1).map VB) := by
    have := isVals_from hv1 (n := 1) (by simpa using h1)
    rwa [← List.map_drop] at this
  refine region_symT 10 _ [] [] [.val (v), .val (fromV v 1), .val (.int .i64 (K : Int)), .val (.pointer (some ⟨0, K, none⟩)), .val (.int .i64 (c : Int)), .prop (fun w v => ∃ t, v = .tuple #[t, .bool P.isSome] ∧ AreLists w t (P.getD [])) (fun _ _ _ hb h => h.imp fun _ h => ⟨h.1, h.2.below hb⟩), .prop (fun w v => ∃ t, v = .tuple #[t, .bool P.isSome] ∧ AreLists w t (P.getD [])) (fun _ _ _ hb h => h.imp fun _ h => ⟨h.1, h.2.below hb⟩), .prop (fun w v => AreLists w v (P.getD [])) (fun _ _ _ hb h => h.below hb), .val (.bool P.isSome), .prop (fun w v => AreLists w v (P.getD [])) (fun _ _ _ hb h => h.below hb)] rfl (by kernel_rfl) (by kernel_rfl) (by kernel_rfl) (by kernel_rfl) rfl (by intro s hs; cases hs) (steps_all ⟨?_, ?_, ?_, ?_, ?_, ?_, ?_, ?_, ?_, ?_, trivial⟩) ?_
  · exact fun A W sz ot hbel ap dp => kMoveV _ _ rfl rfl (tO ot 0) (tV ap sz (Below.refl _ _) rfl)
  · exact fun A W sz ot hbel ap dp => kSliceFromB _ _ v l 1 (hv1.below hbel) h1 rfl rfl (tD dp 0 .data) rfl (fun _ => (tV ap sz (Below.refl _ _) rfl))
  · exact fun A W sz ot hbel ap dp => kMoveV _ _ rfl rfl (tO ot 4) (tV ap sz (Below.refl _ _) rfl)
  · exact fun A W sz ot hbel ap dp => kIndexAddr1 _ _ _ _ .i64 _ (K : Int) K 4 rfl rfl rfl (tD dp 2 .data) Tryd.underlying64 info_int8L rfl hK4 (tV ap sz (Below.refl _ _) rfl)
  · exact fun A W sz ot hbel ap dp => kLoadCell _ _ _ (.int .i64 (c : Int)) _ rfl rfl (tD dp 3 .data) (by rw [← hc]; exact hG1 _ (hB.trans (hbel.mono hB.size)) K hK4) Tryd.underlying3 rfl (tV ap sz (Below.refl _ _) rfl)
  · exact fun A W sz ot hbel ap dp => kCall2 32 _ _ _ _ _ rfl rfl (by kernel_rfl) (tD dp 1 .data) (tD dp 4 .data) ((e2 _ _ (hvd.below hbel)).mono (fun e W1 ⟨t, he, hA, hB'⟩ => ⟨_, he, tV ap sz hB' ⟨t, rfl, hA⟩⟩))
  · intro A W sz ot hbel ap dp
    obtain ⟨t, e, hA⟩ := tD dp 5 .data
    exact kMoveV _ _ rfl rfl e (tV ap sz (Below.refl _ _) ⟨t, rfl, hA⟩)
  · intro A W sz ot hbel ap dp
    obtain ⟨t, e, hA⟩ := tD dp 6 .data
    exact kExtract _ 0 _ t rfl rfl e rfl (tV ap sz (Below.refl _ _) hA)
  · intro A W sz ot hbel ap dp
    obtain ⟨t, e, hA⟩ := tD dp 6 .data
    exact kExtract _ 1 _ (.bool P.isSome) rfl rfl e rfl (tV ap sz (Below.refl _ _) rfl)
  · exact fun A W sz ot hbel ap dp => kAssignV _ _ rfl rfl rfl (tV ap sz (Below.refl _ _) (tD dp 7 .data))
  intro w4 hB4
  dsimp only [AllV]
  rintro u5 hu5 u6 hu6 u7 hu7 u9 hu9 hap
  dsimp only [putAll, List.take, List.drop]
  go_frame
  clear hap
  clear hu5 hu6 hu7
  have hR4 := hR.below hB4 hR.lt
  have hB5 := hB.trans (hB4.mono hB.size)
  clear hR hB hB4 hvd hv1 hz1
  cases P with
  | none =>
    dsimp only [Option.isSome]
    go_wp2_with (first
      | ((with_reducible change wpList _ _ _ (Oper.mk (some 23) _ _ _ _ _ :: _) _ _); refine kBuildD0 rfl rfl ?_; go_frame)
      | ((with_reducible change wpList _ _ _ (Oper.mk none _ _ _ _ _ :: _) _ _); refine kStoreD _ _ _ noDeed _ hR4 rfl rfl rfl rfl ?_; intro w9 hR9 hW9; have hB9 := hB5.trans (hW9.below (Nat.le_refl _)); go_frame))
    (try simp only [Exit.inBlock, Exit.then])
    exact result_row_tmp rfl rfl rfl hR9 Tryd.underlying29 rfl (info_DeedC _) rfl ⟨rfl, hB9⟩
  | some Ls =>
    obtain ⟨hp1, hp2⟩ := hp Ls rfl
    have hp3 : ∀ L ∈ Ls, L.length ≤ 1000000 := fun L hL => by have := hp2 L hL; simp at this; omega
    dsimp only [Option.isSome, Option.getD] at hu9 ⊢
    go_wp2_with (first
      | (go_at_call 33; refine (e3 Ls _ _ hu9 hp1 hp3).mono ?_; rintro e w6 ⟨rfl, hB6⟩; have hR6 := hR4.below hB6 hR4.lt; have hB7 := hB5.trans (hB6.mono hB5.size); clear hR4 hB5 hB6; go_frame)
      | ((with_reducible change wpList _ _ _ (Oper.mk none _ _ _ _ _ :: _) _ _); refine kStoreD _ _ _ noDeed _ hR6 rfl rfl rfl rfl ?_; intro w9 hR9 hW9; have hB9 := hB7.trans (hW9.below (Nat.le_refl _)); go_frame))
    (try simp only [Exit.inBlock, Exit.then])
    exact result_row_tmp rfl rfl rfl hR9 Tryd.underlying29 rfl (info_DeedC _) rfl ⟨rfl, hB9⟩
end Go.Proofs.YtnaclalbeocpkaaDoor
