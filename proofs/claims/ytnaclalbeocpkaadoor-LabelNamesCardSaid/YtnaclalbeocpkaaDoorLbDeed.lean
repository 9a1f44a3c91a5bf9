/-
  Layer 8: the walks of the program's deedOf and read.
-/
import Derived.Test.YtnaclalbeocpkaaDoorLbLock
namespace Go.Proofs.YtnaclalbeocpkaaDoor
open Go Go.RowKit

def put20 (x : List UInt8) : List UInt8 := x.take 20 ++ List.replicate (20 - x.length) 0
theorem put20_len (x : List UInt8) : (put20 x).length = 20 := by unfold put20; simp; omega
theorem put20_id {x : List UInt8} (h : x.length = 20) : put20 x = x := by unfold put20; rw [h]; simp [List.take_of_length_le (Nat.le_of_eq h)]
def deedOfL (k : Nat) (Ls : List (List UInt8)) : Deed :=
  if k = 1 then ⟨1, [], [], [], put20 (Ls[0]?.getD [])⟩
  else if k = 2 then ⟨2, Ls[0]?.getD [], Ls[2]?.getD [], Ls[1]?.getD [], z20⟩
  else if k = 3 then ⟨3, Ls[0]?.getD [], Ls[1]?.getD [], [], z20⟩
  else noDeed
theorem info_stringL : (Tryd.prog.info? 9).map (·.size) = some 1 := by kernel_rfl
theorem set_1 (d : Deed) (x : List UInt8) : (dcells d).setIfInBounds 1 (textV x) = dcells ⟨d.kind, x, d.value, d.rand, d.commit⟩ := by simp [dcells, dtab]
theorem set_2 (d : Deed) (x : List UInt8) : (dcells d).setIfInBounds 2 (textV x) = dcells ⟨d.kind, d.name, x, d.rand, d.commit⟩ := by simp [dcells, dtab]
theorem set_3 (d : Deed) (x : List UInt8) : (dcells d).setIfInBounds 3 (textV x) = dcells ⟨d.kind, d.name, d.value, x, d.commit⟩ := by simp [dcells, dtab]
theorem list_at9 {l : List UInt8} {n : Nat} (h : l.length = n) : (List.range n).map (fun p => VB (at8 l p)) = l.map VB := by
  have := tab_list l n h
  unfold tab at this
  exact List.toArray_inj this
theorem put_4 (k : Int) (x : List UInt8) : splice (dcells ⟨k, [], [], [], z20⟩) 4 ((x.map VB).take 20) = dcells ⟨k, [], [], [], put20 x⟩ := by
  have e1 := list_at9 (l := z20) (n := 20) rfl
  have e2 := list_at9 (put20_len x)
  unfold splice dcells dtab
  dsimp only
  rw [e1, e2]
  unfold put20 z20
  rw [List.map_append, List.map_take, List.map_replicate, List.map_replicate]
  congr 1
  have hxl : (x.map VB).length = x.length := by simp
  generalize x.map VB = m at *
  have hl : (List.take 20 m).length = min 20 m.length := List.length_take
  rw [hl, ← hxl, show 4 + min 20 m.length = min 20 m.length + 1 + 1 + 1 + 1 by omega]
  simp only [List.take_succ_cons, List.take_zero, List.drop_succ_cons, List.drop_replicate, List.cons_append, List.nil_append]
  rw [show 20 - min 20 m.length = 20 - m.length by omega]
section
variable {ops : Array Oper} {Q : Exit → Act → World → Prop} {rest : List Oper} {o : Oper} {a : Act} {w : World} {S : World → Prop}
theorem kStoreN1 (x y : Operand) (g : Nat) (d : Deed) (X : List UInt8) (hr : Row w g 29 (dcells d)) (ho : o.op = .store 9 x y) (hg : Region.wanted o (yielded ops a.tmps) = true) (hx : a.eval x = .pointer (some ⟨g, 1, none⟩)) (hy : a.eval y = textV X) (h : ∀ w1, Row w1 g 29 (dcells ⟨d.kind, X, d.value, d.rand, d.commit⟩) → Wrote g w w1 → wpList Tryd.prog ops Q rest (a.put o.dst undef) w1) : wpList Tryd.prog ops Q (o :: rest) a w :=
  kStore1 _ _ _ _ g 1 _ (textV X) ho hg hx hy hr info_stringL (by rw [dcells_size]; decide) rfl (fun w1 h1 => h w1 (by rw [← set_1]; exact h1))
theorem kStoreN2 (x y : Operand) (g : Nat) (d : Deed) (X : List UInt8) (hr : Row w g 29 (dcells d)) (ho : o.op = .store 9 x y) (hg : Region.wanted o (yielded ops a.tmps) = true) (hx : a.eval x = .pointer (some ⟨g, 2, none⟩)) (hy : a.eval y = textV X) (h : ∀ w1, Row w1 g 29 (dcells ⟨d.kind, d.name, X, d.rand, d.commit⟩) → Wrote g w w1 → wpList Tryd.prog ops Q rest (a.put o.dst undef) w1) : wpList Tryd.prog ops Q (o :: rest) a w :=
  kStore1 _ _ _ _ g 2 _ (textV X) ho hg hx hy hr info_stringL (by rw [dcells_size]; decide) rfl (fun w1 h1 => h w1 (by rw [← set_2]; exact h1))
theorem kStoreN3 (x y : Operand) (g : Nat) (d : Deed) (X : List UInt8) (hr : Row w g 29 (dcells d)) (ho : o.op = .store 9 x y) (hg : Region.wanted o (yielded ops a.tmps) = true) (hx : a.eval x = .pointer (some ⟨g, 3, none⟩)) (hy : a.eval y = textV X) (h : ∀ w1, Row w1 g 29 (dcells ⟨d.kind, d.name, d.value, X, d.commit⟩) → Wrote g w w1 → wpList Tryd.prog ops Q rest (a.put o.dst undef) w1) : wpList Tryd.prog ops Q (o :: rest) a w :=
  kStore1 _ _ _ _ g 3 _ (textV X) ho hg hx hy hr info_stringL (by rw [dcells_size]; decide) rfl (fun w1 h1 => h w1 (by rw [← set_3]; exact h1))
end
theorem at_get {Ls : List (List UInt8)} {k : Nat} (hk : k < Ls.length) : Ls[k]?.getD [] = Ls[k] := by simp [hk]
set_option maxRecDepth 100000 in
set_option maxHeartbeats 8000000 in
theorem lbDeedOf_any {k : Nat} (hk : k = 1 ∨ k = 2 ∨ k = 3) {u : Value} {Ls : List (List UInt8)} (w : World) (hu : AreLists w u Ls) (hlen : Ls.length = cntN k) (hsm : ∀ L ∈ Ls, L.length ≤ 1000000) : Calls Tryd.prog 33 #[.int .i64 (k : Int), u] w fun e w' => e = .returned (deedV (deedOfL k Ls)) ∧ Below w.heap.size w w' := by
  rcases hk with k1 | k2 | k3
  · subst k1
    have hlt0 : 0 < Ls.length := by rw [hlen]; decide
    obtain ⟨vs0, x0, -, hV0, hx0, hX0⟩ := lists_at hu hlt0
    rw [← at_get hlt0] at hX0
    have hm0 := hsm _ (List.getElem_mem hlt0)
    rw [← at_get hlt0] at hm0
    unfold deedOfL
    rw [if_pos rfl]
    obtain ⟨L0, hL0⟩ : ∃ L, Ls[0]?.getD [] = L := ⟨_, rfl⟩
    rw [hL0] at hX0 hm0
    rw [hL0]
    go_enter Tryd.func33, Tryd.ntmps33
    go_wp2_with (first
      | ((with_reducible change wpList _ _ _ (Oper.mk (some 4) _ _ _ _ _ :: _) _ _); refine kAllocL _ _ rfl rfl zero_Deed ?_; intro w1 hR4 hz1 hB1; go_frame)
      | ((with_reducible change wpList _ _ _ (Oper.mk (some 7) _ _ _ _ _ :: _) _ _); refine kBuildDK _ 1 rfl rfl rfl ?_; go_frame)
      | ((with_reducible change wpList _ _ _ (Oper.mk (some 5) _ _ _ _ _ :: _) _ _); refine kAllocL _ _ rfl rfl zero_Deed ?_; intro w2 hR5 hz2 hB2; clear hz2; have hR4b := hR4.below hB2 hR4.lt; go_frame)
      | ((with_reducible change wpList _ _ _ (Oper.mk none _ _ _ _ _ :: _) _ _); refine kStoreD _ _ _ noDeed _ hR5 rfl rfl rfl rfl ?_; intro w3 hR5b hW3; have hR4c := hW3.row hR4b (Nat.ne_of_lt hz1); have hB3 := (hB1.trans (hB2.mono (Nat.le_of_lt hz1))).trans (hW3.below (Nat.le_of_lt hz1)); clear hR4 hR4b hR5 hB1 hB2 hW3; go_frame))
    refine region_symT 5 _ [] [] [.val (.pointer (some ⟨w1.heap.size, 4, none⟩)), .val (.slice (some ⟨w1.heap.size, 4, none⟩) 20 20), .val (u), .prop (fun w v => ∃ b, v = .pointer (some b) ∧ w.cell? b = some x0) (fun _ _ _ hb h => h.imp fun b h => ⟨h.1, by rw [hb.cell (block_lt_of_cell h.2)]; exact h.2⟩), .val (x0)] rfl (by kernel_rfl) (by kernel_rfl) (by kernel_rfl) (by kernel_rfl) rfl (by intro s hs; cases hs) (steps_all ⟨?_, ?_, ?_, ?_, ?_, trivial⟩) ?_
    · exact fun A W sz ot hbel ap dp => kDeed4 _ _ rfl rfl (tO ot 5) (tV ap sz (Below.refl _ _) rfl)
    · exact fun A W sz ot hbel ap dp => kSliceArr _ _ _ 20 _ 4 rfl rfl (tD dp 0 .data) Tryd.underlying27 info_b8P (tV ap sz (Below.refl _ _) rfl)
    · exact fun A W sz ot hbel ap dp => kMoveV _ _ rfl rfl (tO ot 1) (tV ap sz (Below.refl _ _) rfl)
    · intro A W sz ot hbel ap dp
      exact kIndexAddrV _ _ _ _ .i64 u vs0 0 0 x0 rfl rfl (by exact tD dp 2 .data) ((hV0.below hB3).below hbel) rfl Tryd.underlying57 info_bytesS rfl hx0 (fun b hb => tV ap sz (Below.refl _ _) ⟨b, rfl, hb⟩)
    · intro A W sz ot hbel ap dp
      obtain ⟨b, e, hb⟩ := tD dp 3 .data
      exact kLoadCell _ _ b x0 _ rfl rfl e hb Tryd.underlying22 rfl (tV ap sz (Below.refl _ _) rfl)
    intro w4 hB4
    dsimp only [AllV]
    rintro u3 hu3 hap
    dsimp only [putAll, List.take, List.drop]
    go_frame
    clear hap
    have hR4d := hR4c.below hB4 hR4c.lt
    have hR5c := hR5b.below hB4 hR5b.lt
    have hB5 := hB3.trans (hB4.mono hB3.size)
    have hX5 := (hX0.below hB3).below hB4
    clear hR4c hR5b hB3 hB4
    go_wp2_with (first
      | ((with_reducible change wpList _ _ _ (Oper.mk (some 16) _ _ _ _ _ :: _) _ _); refine kCopy _ _ _ _ _ _ rfl rfl Tryd.underlying22 info_b8P _ 4 20 20 rfl x0 rfl (L0.map VB) hX5 (vbs_one _) _ hR5c (by rw [dcells_size]; decide) ?_; intro w6 hR6 hW6; rw [put_4] at hR6; have hR4e := hW6.row hR4d (Nat.ne_of_lt hz1); have hB6 := hB5.trans (hW6.below (Nat.le_of_lt hz1)); go_frame)
      | ((with_reducible change wpList _ _ _ (Oper.mk (some 46) _ _ _ _ _ :: _) _ _); refine kLoadD _ _ _ hR6 rfl rfl rfl ?_; go_frame)
      | ((with_reducible change wpList _ _ _ (Oper.mk none _ _ _ _ _ :: _) _ _); refine kStoreD _ _ _ noDeed _ hR4e rfl rfl rfl rfl ?_; intro w9 hR9 hW9; have hB9 := hB6.trans (hW9.below (Nat.le_refl _)); go_frame))
    (try simp only [Exit.inBlock, Exit.then])
    exact result_row rfl rfl hR9 Tryd.underlying29 rfl (info_DeedC _) rfl ⟨rfl, hB9⟩
  · subst k2
    have hlt0 : 0 < Ls.length := by rw [hlen]; decide
    obtain ⟨vs0, x0, -, hV0, hx0, hX0⟩ := lists_at hu hlt0
    rw [← at_get hlt0] at hX0
    have hm0 := hsm _ (List.getElem_mem hlt0)
    rw [← at_get hlt0] at hm0
    have hlt1 : 1 < Ls.length := by rw [hlen]; decide
    obtain ⟨vs1, x1, -, hV1, hx1, hX1⟩ := lists_at hu hlt1
    rw [← at_get hlt1] at hX1
    have hm1 := hsm _ (List.getElem_mem hlt1)
    rw [← at_get hlt1] at hm1
    have hlt2 : 2 < Ls.length := by rw [hlen]; decide
    obtain ⟨vs2, x2, -, hV2, hx2, hX2⟩ := lists_at hu hlt2
    rw [← at_get hlt2] at hX2
    have hm2 := hsm _ (List.getElem_mem hlt2)
    rw [← at_get hlt2] at hm2
    unfold deedOfL
    rw [if_neg (by decide)]; rw [if_pos rfl]
    obtain ⟨L0, hL0⟩ : ∃ L, Ls[0]?.getD [] = L := ⟨_, rfl⟩
    rw [hL0] at hX0 hm0
    obtain ⟨L1, hL1⟩ : ∃ L, Ls[1]?.getD [] = L := ⟨_, rfl⟩
    rw [hL1] at hX1 hm1
    obtain ⟨L2, hL2⟩ : ∃ L, Ls[2]?.getD [] = L := ⟨_, rfl⟩
    rw [hL2] at hX2 hm2
    rw [hL0, hL1, hL2]
    go_enter Tryd.func33, Tryd.ntmps33
    go_wp2_with (first
      | ((with_reducible change wpList _ _ _ (Oper.mk (some 4) _ _ _ _ _ :: _) _ _); refine kAllocL _ _ rfl rfl zero_Deed ?_; intro w1 hR4 hz1 hB1; go_frame)
      | ((with_reducible change wpList _ _ _ (Oper.mk (some 7) _ _ _ _ _ :: _) _ _); refine kBuildDK _ 2 rfl rfl rfl ?_; go_frame)
      | ((with_reducible change wpList _ _ _ (Oper.mk (some 5) _ _ _ _ _ :: _) _ _); refine kAllocL _ _ rfl rfl zero_Deed ?_; intro w2 hR5 hz2 hB2; clear hz2; have hR4b := hR4.below hB2 hR4.lt; go_frame)
      | ((with_reducible change wpList _ _ _ (Oper.mk none _ _ _ _ _ :: _) _ _); refine kStoreD _ _ _ noDeed _ hR5 rfl rfl rfl rfl ?_; intro w3 hR5b hW3; have hR4c := hW3.row hR4b (Nat.ne_of_lt hz1); have hB3 := (hB1.trans (hB2.mono (Nat.le_of_lt hz1))).trans (hW3.below (Nat.le_of_lt hz1)); clear hR4 hR4b hR5 hB1 hB2 hW3; go_frame))
    refine region_symT 12 _ [] [] [.val (u), .prop (fun w v => ∃ b, v = .pointer (some b) ∧ w.cell? b = some x0) (fun _ _ _ hb h => h.imp fun b h => ⟨h.1, by rw [hb.cell (block_lt_of_cell h.2)]; exact h.2⟩), .val (x0), .val (textV L0), .val (u), .prop (fun w v => ∃ b, v = .pointer (some b) ∧ w.cell? b = some x1) (fun _ _ _ hb h => h.imp fun b h => ⟨h.1, by rw [hb.cell (block_lt_of_cell h.2)]; exact h.2⟩), .val (x1), .val (textV L1), .val (u), .prop (fun w v => ∃ b, v = .pointer (some b) ∧ w.cell? b = some x2) (fun _ _ _ hb h => h.imp fun b h => ⟨h.1, by rw [hb.cell (block_lt_of_cell h.2)]; exact h.2⟩), .val (x2), .val (textV L2)] rfl (by kernel_rfl) (by kernel_rfl) (by kernel_rfl) (by kernel_rfl) rfl (by intro s hs; cases hs) (steps_all ⟨?_, ?_, ?_, ?_, ?_, ?_, ?_, ?_, ?_, ?_, ?_, ?_, trivial⟩) ?_
    · exact fun A W sz ot hbel ap dp => kMoveV _ _ rfl rfl (tO ot 1) (tV ap sz (Below.refl _ _) rfl)
    · intro A W sz ot hbel ap dp
      exact kIndexAddrV _ _ _ _ .i64 u vs0 0 0 x0 rfl rfl (by exact tD dp 0 .data) ((hV0.below hB3).below hbel) rfl Tryd.underlying57 info_bytesS rfl hx0 (fun b hb => tV ap sz (Below.refl _ _) ⟨b, rfl, hb⟩)
    · intro A W sz ot hbel ap dp
      obtain ⟨b, e, hb⟩ := tD dp 1 .data
      exact kLoadCell _ _ b x0 _ rfl rfl e hb Tryd.underlying22 rfl (tV ap sz (Below.refl _ _) rfl)
    · exact fun A W sz ot hbel ap dp => kToString _ _ _ _ x0 L0 rfl rfl (tD dp 2 .data) ((hX0.below hB3).below hbel) Tryd.underlying22 Tryd.underlying5 Tryd.underlying9 (tV ap sz (Below.refl _ _) rfl)
    · exact fun A W sz ot hbel ap dp => kMoveV _ _ rfl rfl (tO ot 1) (tV ap sz (Below.refl _ _) rfl)
    · intro A W sz ot hbel ap dp
      exact kIndexAddrV _ _ _ _ .i64 u vs1 1 1 x1 rfl rfl (by exact tD dp 4 .data) ((hV1.below hB3).below hbel) rfl Tryd.underlying57 info_bytesS rfl hx1 (fun b hb => tV ap sz (Below.refl _ _) ⟨b, rfl, hb⟩)
    · intro A W sz ot hbel ap dp
      obtain ⟨b, e, hb⟩ := tD dp 5 .data
      exact kLoadCell _ _ b x1 _ rfl rfl e hb Tryd.underlying22 rfl (tV ap sz (Below.refl _ _) rfl)
    · exact fun A W sz ot hbel ap dp => kToString _ _ _ _ x1 L1 rfl rfl (tD dp 6 .data) ((hX1.below hB3).below hbel) Tryd.underlying22 Tryd.underlying5 Tryd.underlying9 (tV ap sz (Below.refl _ _) rfl)
    · exact fun A W sz ot hbel ap dp => kMoveV _ _ rfl rfl (tO ot 1) (tV ap sz (Below.refl _ _) rfl)
    · intro A W sz ot hbel ap dp
      exact kIndexAddrV _ _ _ _ .i64 u vs2 2 2 x2 rfl rfl (by exact tD dp 8 .data) ((hV2.below hB3).below hbel) rfl Tryd.underlying57 info_bytesS rfl hx2 (fun b hb => tV ap sz (Below.refl _ _) ⟨b, rfl, hb⟩)
    · intro A W sz ot hbel ap dp
      obtain ⟨b, e, hb⟩ := tD dp 9 .data
      exact kLoadCell _ _ b x2 _ rfl rfl e hb Tryd.underlying22 rfl (tV ap sz (Below.refl _ _) rfl)
    · exact fun A W sz ot hbel ap dp => kToString _ _ _ _ x2 L2 rfl rfl (tD dp 10 .data) ((hX2.below hB3).below hbel) Tryd.underlying22 Tryd.underlying5 Tryd.underlying9 (tV ap sz (Below.refl _ _) rfl)
    intro w4 hB4
    dsimp only [AllV]
    rintro u1 hu1 u5 hu5 u9 hu9 hap
    dsimp only [putAll, List.take, List.drop]
    go_frame
    clear hap
    have hR4d := hR4c.below hB4 hR4c.lt
    have hR5c := hR5b.below hB4 hR5b.lt
    have hB5 := hB3.trans (hB4.mono hB3.size)
    clear hR4c hR5b hB3 hB4
    go_wp2_with (first
      | ((with_reducible change wpList _ _ _ (Oper.mk (some 31) _ _ _ _ _ :: _) _ _); refine kDeed1 _ _ rfl rfl rfl ?_; go_frame)
      | ((with_reducible change wpList _ _ _ (Oper.mk none _ _ _ _ _ :: _) _ _); refine kStoreN1 _ _ _ _ L0 hR5c rfl rfl rfl rfl ?_; intro z0 hS0 hW0; have hT0 := hW0.row hR4d (Nat.ne_of_lt hz1); have hC0 := hB5.trans (hW0.below (Nat.le_of_lt hz1)); clear hR5c hR4d hB5 hW0; go_frame)
      | ((with_reducible change wpList _ _ _ (Oper.mk (some 32) _ _ _ _ _ :: _) _ _); refine kDeed3 _ _ rfl rfl rfl ?_; go_frame)
      | ((with_reducible change wpList _ _ _ (Oper.mk none _ _ _ _ _ :: _) _ _); refine kStoreN3 _ _ _ _ L1 hS0 rfl rfl rfl rfl ?_; intro z1 hS1 hW1; have hT1 := hW1.row hT0 (Nat.ne_of_lt hz1); have hC1 := hC0.trans (hW1.below (Nat.le_of_lt hz1)); clear hS0 hT0 hC0 hW1; go_frame)
      | ((with_reducible change wpList _ _ _ (Oper.mk (some 33) _ _ _ _ _ :: _) _ _); refine kDeed2 _ _ rfl rfl rfl ?_; go_frame)
      | ((with_reducible change wpList _ _ _ (Oper.mk none _ _ _ _ _ :: _) _ _); refine kStoreN2 _ _ _ _ L2 hS1 rfl rfl rfl rfl ?_; intro z2 hS2 hW2; have hT2 := hW2.row hT1 (Nat.ne_of_lt hz1); have hC2 := hC1.trans (hW2.below (Nat.le_of_lt hz1)); clear hS1 hT1 hC1 hW2; go_frame)
      | ((with_reducible change wpList _ _ _ (Oper.mk (some 46) _ _ _ _ _ :: _) _ _); refine kLoadD _ _ _ hS2 rfl rfl rfl ?_; go_frame)
      | ((with_reducible change wpList _ _ _ (Oper.mk none _ _ _ _ _ :: _) _ _); refine kStoreD _ _ _ noDeed _ hT2 rfl rfl rfl rfl ?_; intro w9 hR9 hW9; have hB9 := hC2.trans (hW9.below (Nat.le_refl _)); go_frame))
    (try simp only [Exit.inBlock, Exit.then])
    exact result_row rfl rfl hR9 Tryd.underlying29 rfl (info_DeedC _) rfl ⟨rfl, hB9⟩
  · subst k3
    have hlt0 : 0 < Ls.length := by rw [hlen]; decide
    obtain ⟨vs0, x0, -, hV0, hx0, hX0⟩ := lists_at hu hlt0
    rw [← at_get hlt0] at hX0
    have hm0 := hsm _ (List.getElem_mem hlt0)
    rw [← at_get hlt0] at hm0
    have hlt1 : 1 < Ls.length := by rw [hlen]; decide
    obtain ⟨vs1, x1, -, hV1, hx1, hX1⟩ := lists_at hu hlt1
    rw [← at_get hlt1] at hX1
    have hm1 := hsm _ (List.getElem_mem hlt1)
    rw [← at_get hlt1] at hm1
    unfold deedOfL
    rw [if_neg (by decide)]; rw [if_neg (by decide)]; rw [if_pos rfl]
    obtain ⟨L0, hL0⟩ : ∃ L, Ls[0]?.getD [] = L := ⟨_, rfl⟩
    rw [hL0] at hX0 hm0
    obtain ⟨L1, hL1⟩ : ∃ L, Ls[1]?.getD [] = L := ⟨_, rfl⟩
    rw [hL1] at hX1 hm1
    rw [hL0, hL1]
    go_enter Tryd.func33, Tryd.ntmps33
    go_wp2_with (first
      | ((with_reducible change wpList _ _ _ (Oper.mk (some 4) _ _ _ _ _ :: _) _ _); refine kAllocL _ _ rfl rfl zero_Deed ?_; intro w1 hR4 hz1 hB1; go_frame)
      | ((with_reducible change wpList _ _ _ (Oper.mk (some 7) _ _ _ _ _ :: _) _ _); refine kBuildDK _ 3 rfl rfl rfl ?_; go_frame)
      | ((with_reducible change wpList _ _ _ (Oper.mk (some 5) _ _ _ _ _ :: _) _ _); refine kAllocL _ _ rfl rfl zero_Deed ?_; intro w2 hR5 hz2 hB2; clear hz2; have hR4b := hR4.below hB2 hR4.lt; go_frame)
      | ((with_reducible change wpList _ _ _ (Oper.mk none _ _ _ _ _ :: _) _ _); refine kStoreD _ _ _ noDeed _ hR5 rfl rfl rfl rfl ?_; intro w3 hR5b hW3; have hR4c := hW3.row hR4b (Nat.ne_of_lt hz1); have hB3 := (hB1.trans (hB2.mono (Nat.le_of_lt hz1))).trans (hW3.below (Nat.le_of_lt hz1)); clear hR4 hR4b hR5 hB1 hB2 hW3; go_frame))
    refine region_symT 8 _ [] [] [.val (u), .prop (fun w v => ∃ b, v = .pointer (some b) ∧ w.cell? b = some x0) (fun _ _ _ hb h => h.imp fun b h => ⟨h.1, by rw [hb.cell (block_lt_of_cell h.2)]; exact h.2⟩), .val (x0), .val (textV L0), .val (u), .prop (fun w v => ∃ b, v = .pointer (some b) ∧ w.cell? b = some x1) (fun _ _ _ hb h => h.imp fun b h => ⟨h.1, by rw [hb.cell (block_lt_of_cell h.2)]; exact h.2⟩), .val (x1), .val (textV L1)] rfl (by kernel_rfl) (by kernel_rfl) (by kernel_rfl) (by kernel_rfl) rfl (by intro s hs; cases hs) (steps_all ⟨?_, ?_, ?_, ?_, ?_, ?_, ?_, ?_, trivial⟩) ?_
    · exact fun A W sz ot hbel ap dp => kMoveV _ _ rfl rfl (tO ot 1) (tV ap sz (Below.refl _ _) rfl)
    · intro A W sz ot hbel ap dp
      exact kIndexAddrV _ _ _ _ .i64 u vs0 0 0 x0 rfl rfl (by exact tD dp 0 .data) ((hV0.below hB3).below hbel) rfl Tryd.underlying57 info_bytesS rfl hx0 (fun b hb => tV ap sz (Below.refl _ _) ⟨b, rfl, hb⟩)
    · intro A W sz ot hbel ap dp
      obtain ⟨b, e, hb⟩ := tD dp 1 .data
      exact kLoadCell _ _ b x0 _ rfl rfl e hb Tryd.underlying22 rfl (tV ap sz (Below.refl _ _) rfl)
    · exact fun A W sz ot hbel ap dp => kToString _ _ _ _ x0 L0 rfl rfl (tD dp 2 .data) ((hX0.below hB3).below hbel) Tryd.underlying22 Tryd.underlying5 Tryd.underlying9 (tV ap sz (Below.refl _ _) rfl)
    · exact fun A W sz ot hbel ap dp => kMoveV _ _ rfl rfl (tO ot 1) (tV ap sz (Below.refl _ _) rfl)
    · intro A W sz ot hbel ap dp
      exact kIndexAddrV _ _ _ _ .i64 u vs1 1 1 x1 rfl rfl (by exact tD dp 4 .data) ((hV1.below hB3).below hbel) rfl Tryd.underlying57 info_bytesS rfl hx1 (fun b hb => tV ap sz (Below.refl _ _) ⟨b, rfl, hb⟩)
    · intro A W sz ot hbel ap dp
      obtain ⟨b, e, hb⟩ := tD dp 5 .data
      exact kLoadCell _ _ b x1 _ rfl rfl e hb Tryd.underlying22 rfl (tV ap sz (Below.refl _ _) rfl)
    · exact fun A W sz ot hbel ap dp => kToString _ _ _ _ x1 L1 rfl rfl (tD dp 6 .data) ((hX1.below hB3).below hbel) Tryd.underlying22 Tryd.underlying5 Tryd.underlying9 (tV ap sz (Below.refl _ _) rfl)
    intro w4 hB4
    dsimp only [AllV]
    rintro u1 hu1 u5 hu5 hap
    dsimp only [putAll, List.take, List.drop]
    go_frame
    clear hap
    have hR4d := hR4c.below hB4 hR4c.lt
    have hR5c := hR5b.below hB4 hR5b.lt
    have hB5 := hB3.trans (hB4.mono hB3.size)
    clear hR4c hR5b hB3 hB4
    go_wp2_with (first
      | ((with_reducible change wpList _ _ _ (Oper.mk (some 44) _ _ _ _ _ :: _) _ _); refine kDeed1 _ _ rfl rfl rfl ?_; go_frame)
      | ((with_reducible change wpList _ _ _ (Oper.mk none _ _ _ _ _ :: _) _ _); refine kStoreN1 _ _ _ _ L0 hR5c rfl rfl rfl rfl ?_; intro z0 hS0 hW0; have hT0 := hW0.row hR4d (Nat.ne_of_lt hz1); have hC0 := hB5.trans (hW0.below (Nat.le_of_lt hz1)); clear hR5c hR4d hB5 hW0; go_frame)
      | ((with_reducible change wpList _ _ _ (Oper.mk (some 45) _ _ _ _ _ :: _) _ _); refine kDeed2 _ _ rfl rfl rfl ?_; go_frame)
      | ((with_reducible change wpList _ _ _ (Oper.mk none _ _ _ _ _ :: _) _ _); refine kStoreN2 _ _ _ _ L1 hS0 rfl rfl rfl rfl ?_; intro z1 hS1 hW1; have hT1 := hW1.row hT0 (Nat.ne_of_lt hz1); have hC1 := hC0.trans (hW1.below (Nat.le_of_lt hz1)); clear hS0 hT0 hC0 hW1; go_frame)
      | ((with_reducible change wpList _ _ _ (Oper.mk (some 46) _ _ _ _ _ :: _) _ _); refine kLoadD _ _ _ hS1 rfl rfl rfl ?_; go_frame)
      | ((with_reducible change wpList _ _ _ (Oper.mk none _ _ _ _ _ :: _) _ _); refine kStoreD _ _ _ noDeed _ hT1 rfl rfl rfl rfl ?_; intro w9 hR9 hW9; have hB9 := hC1.trans (hW9.below (Nat.le_refl _)); go_frame))
    (try simp only [Exit.inBlock, Exit.then])
    exact result_row rfl rfl hR9 Tryd.underlying29 rfl (info_DeedC _) rfl ⟨rfl, hB9⟩
end Go.Proofs.YtnaclalbeocpkaaDoor
