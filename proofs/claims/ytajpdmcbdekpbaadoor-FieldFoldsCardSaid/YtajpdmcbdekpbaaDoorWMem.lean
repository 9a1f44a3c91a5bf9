/-
  The variables of a statement's own that hold numbers of 256 bits, as one fact; and the walk of the statements' own 'wideAlive'.
-/
import Derived.Test.YtajpdmcbdekpbaaDoorWDiv
namespace Go.Proofs.YtajpdmcbdekpbaaDoor
open Go Go.RowKit

/-- the blocks (the newest first) hold these numbers; what was there before is as it was -/
structure Mem (w0 w : World) (l : List (Nat × Nat)) : Prop where
  rows : ∀ (i g n : Nat), l[i]? = some (g, n) → Row w g 25 (wcells n)
  desc : l.Pairwise (fun a b => b.1 < a.1)
  ge : ∀ (i g n : Nat), l[i]? = some (g, n) → w0.heap.size ≤ g
  below : Below w0.heap.size w0 w
theorem mem_nil (w : World) : Mem w w [] := ⟨fun i g n h => by simp at h, List.Pairwise.nil, fun i g n h => by simp at h, Below.refl _ _⟩
theorem Mem.get {w0 w : World} {l : List (Nat × Nat)} (h : Mem w0 w l) (i : Nat) {g n : Nat} (hi : l[i]? = some (g, n)) : Row w g 25 (wcells n) := h.rows i g n hi
theorem Mem.on {w0 w w' : World} {l : List (Nat × Nat)} (h : Mem w0 w l) (hb : Below w.heap.size w w') : Mem w0 w' l :=
  ⟨fun i g n hi => (h.rows i g n hi).below hb (h.rows i g n hi).lt, h.desc, h.ge, h.below.trans (hb.mono h.below.size)⟩
theorem Mem.size {w0 w : World} {l : List (Nat × Nat)} (h : Mem w0 w l) : w0.heap.size ≤ w.heap.size := h.below.size
theorem Mem.new {w0 w w' : World} {l : List (Nat × Nat)} {m : Nat} (h : Mem w0 w l) (hr : Row w' w.heap.size 25 (wcells m)) (hb : Below w.heap.size w w') : Mem w0 w' ((w.heap.size, m) :: l) := by
  have h' := h.on hb
  refine ⟨fun i g n hi => ?_, List.Pairwise.cons (fun p hp => ?_) h.desc, fun i g n hi => ?_, h'.below⟩
  · cases i with
    | zero => simp at hi; obtain ⟨rfl, rfl⟩ := hi; exact hr
    | succ i => exact h'.rows i g n (by simpa using hi)
  · obtain ⟨i, hi⟩ := List.getElem?_of_mem hp
    exact (h.rows i p.1 p.2 hi).lt
  · cases i with
    | zero => simp at hi; obtain ⟨rfl, rfl⟩ := hi; exact h.size
    | succ i => exact h.ge i g n (by simpa using hi)
theorem Mem.put0 {w0 w w' : World} {l : List (Nat × Nat)} {g n m : Nat} (h : Mem w0 w ((g, n) :: l)) (hw : Wrote g w w') (hr : Row w' g 25 (wcells m)) : Mem w0 w' ((g, m) :: l) := by
  obtain ⟨h1, h2, h3, h4⟩ := h
  have hd := List.pairwise_cons.1 h2
  refine ⟨fun i k j hi => ?_, List.Pairwise.cons (fun p hp => hd.1 p hp) hd.2, fun i k j hi => ?_, h4.trans (hw.below (h3 0 g n rfl))⟩
  · cases i with
    | zero => simp at hi; obtain ⟨rfl, rfl⟩ := hi; exact hr
    | succ i =>
      have hi' : l[i]? = some (k, j) := by simpa using hi
      refine hw.row (h1 (i + 1) k j hi) ?_
      have := hd.1 (k, j) (List.mem_of_getElem? hi')
      simp at this; omega
  · cases i with
    | zero => simp at hi; obtain ⟨rfl, rfl⟩ := hi; exact h3 0 g n rfl
    | succ i => exact h3 (i + 1) k j hi
theorem Mem.put1 {w0 w w' : World} {l : List (Nat × Nat)} {p : Nat × Nat} {g n m : Nat} (h : Mem w0 w (p :: (g, n) :: l)) (hw : Wrote g w w') (hr : Row w' g 25 (wcells m)) : Mem w0 w' (p :: (g, m) :: l) := by
  obtain ⟨h1, h2, h3, h4⟩ := h
  have hd := List.pairwise_cons.1 h2
  have hd2 := List.pairwise_cons.1 hd.2
  have hp := hd.1 (g, n) (by simp)
  refine ⟨fun i k j hi => ?_, List.Pairwise.cons (fun q hq => ?_) (List.Pairwise.cons (fun q hq => hd2.1 q hq) hd2.2), fun i k j hi => ?_, h4.trans (hw.below (h3 1 g n rfl))⟩
  · match i, hi with
    | 0, hi =>
      simp at hi; subst hi
      exact hw.row (h1 0 k j rfl) (by simp at hp; omega)
    | 1, hi => simp at hi; obtain ⟨rfl, rfl⟩ := hi; exact hr
    | i + 2, hi =>
      have hi' : l[i]? = some (k, j) := by simpa using hi
      refine hw.row (h1 (i + 2) k j hi) ?_
      have := hd2.1 (k, j) (List.mem_of_getElem? hi')
      simp at this; omega
  · rcases List.mem_cons.1 hq with rfl | hq
    · exact hp
    · exact hd.1 q (by simp [hq])
  · match i, hi with
    | 0, hi => exact h3 0 k j hi
    | 1, hi => simp at hi; obtain ⟨rfl, rfl⟩ := hi; exact h3 1 g n rfl
    | i + 2, hi => exact h3 (i + 2) k j hi
theorem Mem.drop {w0 w : World} {l : List (Nat × Nat)} {p : Nat × Nat} (h : Mem w0 w (p :: l)) : Mem w0 w l :=
  ⟨fun i g n hi => h.rows (i + 1) g n (by simpa using hi), (List.pairwise_cons.1 h.desc).2, fun i g n hi => h.ge (i + 1) g n (by simpa using hi), h.below⟩

section
variable {ops : Array Oper} {Q : Exit → Act → World → Prop} {rest : List Oper} {o : Oper} {a : Act} {w0 w : World} {l : List (Nat × Nat)}
/-- steps over Mem -/
theorem mBox (hM : Mem w0 w l) (x : Operand) (n : Nat) (ho : o.op = .box 25 x) (hg : Region.wanted o (yielded ops a.tmps) = true) (hx : a.eval x = .agg (wcells n))
    (h : ∀ w1, Mem w0 w1 ((w.heap.size, n) :: l) → wpList Tryd.prog ops Q rest (a.put o.dst (.pointer (some ⟨w.heap.size, 0, none⟩))) w1) : wpList Tryd.prog ops Q (o :: rest) a w :=
  kBoxL _ x _ ho hg hx fun w1 hr _ hb => h w1 (hM.new hr hb)
theorem mAlloc (hM : Mem w0 w l) (ho : o.op = .alloc 25) (hg : Region.wanted o (yielded ops a.tmps) = true)
    (h : ∀ w1, Mem w0 w1 ((w.heap.size, 0) :: l) → wpList Tryd.prog ops Q rest (a.put o.dst (.pointer (some ⟨w.heap.size, 0, none⟩))) w1) : wpList Tryd.prog ops Q (o :: rest) a w :=
  kAllocL _ _ ho hg zero_Wide fun w1 hr _ hb => h w1 (hM.new hr hb)
theorem mLoad (hM : Mem w0 w l) (i : Nat) (x : Operand) (g n : Nat) (hi : l[i]? = some (g, n)) (ho : o.op = .load 25 x) (hg : Region.wanted o (yielded ops a.tmps) = true) (hx : a.eval x = .pointer (some ⟨g, 0, none⟩))
    (h : wpList Tryd.prog ops Q rest (a.put o.dst (.agg (wcells n))) w) : wpList Tryd.prog ops Q (o :: rest) a w :=
  kLoadRow _ _ x g _ _ ho hg hx (hM.get i hi) Tryd.underlying25 rfl (info_WideC _) h
theorem mStore0 {g n : Nat} (hM : Mem w0 w ((g, n) :: l)) (x y : Operand) (m : Nat) (ho : o.op = .store 25 x y) (hg : Region.wanted o (yielded ops a.tmps) = true) (hx : a.eval x = .pointer (some ⟨g, 0, none⟩)) (hy : a.eval y = .agg (wcells m))
    (h : ∀ w1, Mem w0 w1 ((g, m) :: l) → wpList Tryd.prog ops Q rest (a.put o.dst undef) w1) : wpList Tryd.prog ops Q (o :: rest) a w :=
  kStoreRow _ _ x y g _ _ ho hg hx hy (hM.get 0 rfl) (info_WideC _) (by simp only [wcells_size]) (wcells_one _) fun w1 hr hw => h w1 (hM.put0 hw hr)
theorem mStore1 {g n : Nat} {p : Nat × Nat} (hM : Mem w0 w (p :: (g, n) :: l)) (x y : Operand) (m : Nat) (ho : o.op = .store 25 x y) (hg : Region.wanted o (yielded ops a.tmps) = true) (hx : a.eval x = .pointer (some ⟨g, 0, none⟩)) (hy : a.eval y = .agg (wcells m))
    (h : ∀ w1, Mem w0 w1 (p :: (g, m) :: l) → wpList Tryd.prog ops Q rest (a.put o.dst undef) w1) : wpList Tryd.prog ops Q (o :: rest) a w :=
  kStoreRow _ _ x y g _ _ ho hg hx hy (hM.get 1 rfl) (info_WideC _) (by simp only [wcells_size]) (wcells_one _) fun w1 hr hw => h w1 (hM.put1 hw hr)
end

/-- Wide{} as the walk lays it -/
theorem lit_zero : wcells 0 = #[.int .u64 0, .int .u64 0, .int .u64 0, .int .u64 0] := by rw [wcells_zero]; rfl
theorem lit_top : wcells (2 ^ 255) = #[.int .u64 0, .int .u64 0, .int .u64 0, .int .u64 9223372036854775808] := by kernel_rfl

end Go.Proofs.YtajpdmcbdekpbaaDoor
