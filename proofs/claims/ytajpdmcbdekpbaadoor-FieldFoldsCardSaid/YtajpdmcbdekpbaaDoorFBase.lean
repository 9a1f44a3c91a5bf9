/-
  Rings of package field: what a ring's pointer reads, and single operations on it.
-/
import Derived.Test.YtajpdmcbdekpbaaDoorWNamesW
import Derived.Test.YtajpdmcbdekpbaaDoorKit9
namespace Go.Proofs.YtajpdmcbdekpbaaDoor
open Go Go.RowKit

section
variable {P : Program} {ops : Array Oper} {Q : Exit → Act → World → Prop} {rest : List Oper} {o : Oper} {a : Act} {w : World}
theorem kNilCheck (x : Operand) (b : Addr) (ho : o.op = .nilCheck x) (hg : Region.wanted o (yielded ops a.tmps) = true) (hx : a.eval x = .pointer (some b)) (h : wpList P ops Q rest (a.put o.dst (.pointer (some b))) w) : wpList P ops Q (o :: rest) a w :=
  kPure _ hg (by unfold execOp; simp only [ho, hx, Sem.run_pure]) h
theorem run_fieldAt (T : TypeId) (k n fo : Nat) (fs : Array Field) (f : Field) (b off : Nat) (hu : P.underlying T = some (.struct fs)) (hf : fs[k]? = some f) (h0 : f.offset = fo) (hn : (P.info? f.type).map (·.size) = some (n + 1)) (w : World) : (Instr.fieldAt T (.pointer (some ⟨b, off, none⟩)) k).run P w = .ok (.pointer (some ⟨b, off + fo, none⟩)) w := by
  unfold Instr.fieldAt
  rw [Sem.run_bind, run_underlying hu w]
  cases hq : P.info? f.type with
  | none => simp [hq] at hn
  | some i =>
    have hs : i.size = n + 1 := by simpa [hq] using hn
    simp [hf, Instr.sureAddr, fieldPlace, h0, sizeOf, typeInfo, hq, hs, add_none]
theorem kFieldAt (T : TypeId) (x : Operand) (k n fo : Nat) (fs : Array Field) (f : Field) (b off : Nat) (ho : o.op = .fieldAddr T x k) (hg : Region.wanted o (yielded ops a.tmps) = true) (hx : a.eval x = .pointer (some ⟨b, off, none⟩)) (hu : P.underlying T = some (.struct fs)) (hf : fs[k]? = some f) (h0 : f.offset = fo) (hn : (P.info? f.type).map (·.size) = some (n + 1)) (h : wpList P ops Q rest (a.put o.dst (.pointer (some ⟨b, off + fo, none⟩))) w) : wpList P ops Q (o :: rest) a w :=
  kPure _ hg (by unfold execOp; simp only [ho, hx, Sem.run_bind, run_fieldAt T k n fo fs f b off hu hf h0 hn, Result.andThen_ok, Sem.run_pure]) h
end
section
variable {ops : Array Oper} {Q : Exit → Act → World → Prop} {rest : List Oper} {o : Oper} {a : Act} {w : World}
theorem ringField : ∃ f fs, Tryd.prog.underlying 54 = some (.struct fs) ∧ fs[0]? = some f ∧ f.offset = 0 ∧ (Tryd.prog.info? f.type).map (·.size) = some (3 + 1) := ⟨_, _, Tryd.underlying54, rfl, rfl, by kernel_rfl⟩
theorem kFieldRing (x : Operand) (b : Nat) (ho : o.op = .fieldAddr 54 x 0) (hg : Region.wanted o (yielded ops a.tmps) = true) (hx : a.eval x = .pointer (some ⟨b, 0, none⟩)) (h : wpList Tryd.prog ops Q rest (a.put o.dst (.pointer (some ⟨b, 0, none⟩))) w) : wpList Tryd.prog ops Q (o :: rest) a w := by
  obtain ⟨f, fs, h1, h2, h3, h4⟩ := ringField
  exact kFieldAt _ x 0 3 0 fs f b 0 ho hg hx h1 h2 h3 h4 h
theorem mixNilCheck {S : World → Prop} {L : Act → World → Prop} {bs : List Bool} (x : Operand) (b : Addr) (hS : S w) (ho : o.op = .nilCheck x) (hg : Region.wanted o (yielded ops a.tmps) = true) (hx : a.eval x = .pointer (some b)) (h : wpMix Tryd.prog ops Q S L bs rest (a.put o.dst (.pointer (some b))) w) : wpMix Tryd.prog ops Q S L (true :: bs) (o :: rest) a w :=
  mixQuiet _ hS hg (fun w _ => by unfold execOp; simp only [ho, hx, Sem.run_pure]) h
theorem mixFieldRing {S : World → Prop} {L : Act → World → Prop} {bs : List Bool} (x : Operand) (b : Nat) (hS : S w) (ho : o.op = .fieldAddr 54 x 0) (hg : Region.wanted o (yielded ops a.tmps) = true) (hx : a.eval x = .pointer (some ⟨b, 0, none⟩)) (h : wpMix Tryd.prog ops Q S L bs rest (a.put o.dst (.pointer (some ⟨b, 0, none⟩))) w) : wpMix Tryd.prog ops Q S L (true :: bs) (o :: rest) a w := by
  obtain ⟨f, fs, h1, h2, h3, h4⟩ := ringField
  exact mixQuiet _ hS hg (fun w _ => by unfold execOp; simp only [ho, hx, Sem.run_bind, run_fieldAt 54 0 3 0 fs f b 0 h1 h2 h3 h4, Result.andThen_ok, Sem.run_pure]) h
theorem kBuildW0 (ho : o.op = .build 25 #[]) (hg : Region.wanted o (yielded ops a.tmps) = true) (h : wpList Tryd.prog ops Q rest (a.put o.dst (.agg (wcells 0))) w) : wpList Tryd.prog ops Q (o :: rest) a w := by
  have hc : Tryd.prog.built 25 [] = some (wcells 0) := by rw [lit_zero]; kernel_rfl
  refine kPure _ hg ?_ h
  unfold execOp
  simp only [ho, Sem.run_bind]
  have := run_build w 25 #[] (wcells 0) hc
  simp [this]
end

/-! ### the variables that hold numbers of 256 bits: any of them is written; one more has come in a drawn region -/
theorem Mem.add {w0 w w' : World} {l : List (Nat × Nat)} {g m : Nat} (h : Mem w0 w l) (hb : Below w.heap.size w w') (hg : w.heap.size ≤ g) (hr : Row w' g 25 (wcells m)) : Mem w0 w' ((g, m) :: l) := by
  have h' := h.on hb
  refine ⟨fun i k n hi => ?_, List.Pairwise.cons (fun p hp => ?_) h.desc, fun i k n hi => ?_, h'.below⟩
  · cases i with
    | zero => simp at hi; obtain ⟨rfl, rfl⟩ := hi; exact hr
    | succ i => exact h'.rows i k n (by simpa using hi)
  · obtain ⟨i, hi⟩ := List.getElem?_of_mem hp
    exact Nat.lt_of_lt_of_le (h.rows i p.1 p.2 hi).lt hg
  · cases i with
    | zero => simp at hi; obtain ⟨rfl, rfl⟩ := hi; exact Nat.le_trans h.size hg
    | succ i => exact h.ge i k n (by simpa using hi)
theorem pairwise_set {l : List (Nat × Nat)} (h : l.Pairwise (fun a b => b.1 < a.1)) (i : Nat) {g n m : Nat} (hi : l[i]? = some (g, n)) : (l.set i (g, m)).Pairwise (fun a b => b.1 < a.1) := by
  rw [List.pairwise_iff_getElem] at h ⊢
  intro p q hp hq hpq
  have e : ∀ (k : Nat) (hk : k < (l.set i (g, m)).length), ((l.set i (g, m))[k]).1 = (l[k]'(by simpa using hk)).1 := fun k hk => by
    rw [List.getElem_set]
    split
    · rename_i h'; subst h'
      have hil : i < l.length := (List.getElem?_eq_some_iff.1 hi).1
      rw [List.getElem?_eq_getElem hil] at hi
      have := Option.some.inj hi
      rw [this]
    · rfl
  rw [e p hp, e q hq]
  exact h p q (by simpa using hp) (by simpa using hq) hpq
theorem Mem.putAt {w0 w w' : World} {l : List (Nat × Nat)} {g n m : Nat} (h : Mem w0 w l) (i : Nat) (hi : l[i]? = some (g, n)) (hw : Wrote g w w') (hr : Row w' g 25 (wcells m)) : Mem w0 w' (l.set i (g, m)) := by
  refine ⟨fun j k q hj => ?_, pairwise_set h.desc i hi, fun j k q hj => ?_, h.below.trans (hw.below (h.ge i g n hi))⟩
  · by_cases e : i = j
    · subst e
      have hil : i < l.length := (List.getElem?_eq_some_iff.1 hi).1
      rw [List.getElem?_set_self hil] at hj
      simp at hj; obtain ⟨rfl, rfl⟩ := hj; exact hr
    · rw [List.getElem?_set_ne e] at hj
      refine hw.row (h.rows j k q hj) ?_
      have hd := List.pairwise_iff_getElem.1 h.desc
      obtain ⟨hil, e1⟩ := List.getElem?_eq_some_iff.1 hi
      obtain ⟨hjl, e2⟩ := List.getElem?_eq_some_iff.1 hj
      rcases Nat.lt_or_gt_of_ne e with h' | h'
      · have := hd i j hil hjl h'; rw [e1, e2] at this; simp at this; omega
      · have := hd j i hjl hil h'; rw [e1, e2] at this; simp at this; omega
  · by_cases e : i = j
    · subst e
      have hil : i < l.length := (List.getElem?_eq_some_iff.1 hi).1
      rw [List.getElem?_set_self hil] at hj
      simp at hj; obtain ⟨rfl, rfl⟩ := hj; exact h.ge i g n hi
    · rw [List.getElem?_set_ne e] at hj; exact h.ge j k q hj
theorem Mem.recell {w0 w : World} {l : List (Nat × Nat)} (h : Mem w0 w l) (i : Nat) {g n m : Nat} (hi : l[i]? = some (g, n)) (he : wcells n = wcells m) : Mem w0 w (l.set i (g, m)) := by
  have hil : i < l.length := (List.getElem?_eq_some_iff.1 hi).1
  refine ⟨fun j k q hj => ?_, pairwise_set h.desc i hi, fun j k q hj => ?_, h.below⟩
  · by_cases e : i = j
    · subst e
      rw [List.getElem?_set_self hil] at hj
      simp at hj; obtain ⟨rfl, rfl⟩ := hj; rw [← he]; exact h.rows i g n hi
    · rw [List.getElem?_set_ne e] at hj; exact h.rows j k q hj
  · by_cases e : i = j
    · subst e
      rw [List.getElem?_set_self hil] at hj
      simp at hj; obtain ⟨rfl, rfl⟩ := hj; exact h.ge i g n hi
    · rw [List.getElem?_set_ne e] at hj; exact h.ge j k q hj
theorem wcells_less {k : Nat} (h : M256 ≤ k) : wcells k = wcells (k - M256) := by rw [← wcells_mod k, Nat.mod_eq_sub_mod h, wcells_mod]
theorem mStoreAt {ops : Array Oper} {Q : Exit → Act → World → Prop} {rest : List Oper} {o : Oper} {a : Act} {w0 w : World} {l : List (Nat × Nat)} (hM : Mem w0 w l) (i : Nat) (g n : Nat) (x y : Operand) (m : Nat) (hi : l[i]? = some (g, n)) (ho : o.op = .store 25 x y) (hg : Region.wanted o (yielded ops a.tmps) = true) (hx : a.eval x = .pointer (some ⟨g, 0, none⟩)) (hy : a.eval y = .agg (wcells m))
    (h : ∀ w1, Mem w0 w1 (l.set i (g, m)) → wpList Tryd.prog ops Q rest (a.put o.dst undef) w1) : wpList Tryd.prog ops Q (o :: rest) a w :=
  kStoreRow _ _ x y g _ _ ho hg hx hy (hM.get i hi) (info_WideC _) (by simp only [wcells_size]) (wcells_one _) fun w1 hr hw => h w1 (hM.putAt i hi hw hr)

/-- a modulus: above half of 2 to the power of 256 -/
structure Modu (m : Nat) : Prop where
  lt : m < M256
  gt : M256 < 2 * m
theorem Modu.pos {m : Nat} (h : Modu m) : 0 < m := by have := h.gt; have := M256_pos; omega
theorem Modu.mod {m : Nat} (h : Modu m) (x : Nat) : x % m < M256 := Nat.lt_trans (Nat.mod_lt _ h.pos) h.lt
end Go.Proofs.YtajpdmcbdekpbaaDoor
