/-
  Layer 11: a list of hashes of one's own, written in place.
-/
import Derived.Test.YtmfjgehlkbndjaaGreatDoorBkA
namespace Go.Proofs.YtmfjgehlkbndjaaGreatDoor
open Go Go.RowKit

theorem flat_setRow {α : Type} {n : Nat} : ∀ (M : List (List α)) (k : Nat) (r : List α), (∀ x ∈ M, x.length = n) → k < M.length → (M.set k r).flatten = M.flatten.take (k * n) ++ r ++ M.flatten.drop (k * n + n)
  | [], k, r, _, h => by simp at h
  | y :: M, 0, r, hl, h => by
    have hy : y.length = n := hl y (by simp)
    rw [Nat.zero_mul, Nat.zero_add, List.take_zero, List.nil_append, List.flatten_cons, List.drop_append_of_le_length (by omega), List.drop_of_length_le (by omega)]; rfl
  | y :: M, k + 1, r, hl, h => by
    have hy : y.length = n := hl y (by simp)
    have ih := flat_setRow M k r (fun z hz => hl z (by simp [hz])) (by simpa using h)
    show y ++ (M.set k r).flatten = _
    rw [ih, List.flatten_cons, List.take_append, List.drop_append, List.take_of_length_le (l := y) (by rw [hy, Nat.add_mul]; omega), List.drop_of_length_le (l := y) (by rw [hy, Nat.add_mul]; omega), hy, show (k + 1) * n - n = k * n by rw [Nat.add_mul]; omega, show (k + 1) * n + n - n = k * n + n by rw [Nat.add_mul]; omega]
    simp
/-- a whole row among one's own is written -/
theorem OwnR.setRow {n base g : Nat} {E : TypeId} {w w' : World} {cap : Nat} {cur : Array Value} {L : List (List Value)} (h : OwnR n E w base (.slice (some ⟨g, 0, none⟩) L.length cap) L) (hr : Row w g E cur) {k : Nat} {r : List Value} (hk : k < L.length) (hrl : r.length = n) (hr' : Row w' g E (splice cur (k * n) r)) : OwnR n E w' base (.slice (some ⟨g, 0, none⟩) L.length cap) (L.set k r) := by
  have hall : ∀ x ∈ L.set k r, x.length = n := fun x hx => by
    rcases List.mem_or_eq_of_mem_set hx with hx | rfl
    · exact h.2 x hx
    · exact hrl
  refine ⟨⟨by rw [flat_len _ hall], ?_⟩, hall⟩
  rcases h.1.2 with ⟨e, _⟩ | ⟨g', cap', cur', e, hb, hg, hnc, hcm, hcs, ht⟩
  · cases e
  · simp only [Value.slice.injEq, Option.some.injEq, Addr.mk.injEq, and_true, true_and] at e
    obtain ⟨rfl, rfl⟩ := e
    have hcur : cur' = cur := by
      have h1 : w.heap[g]? = some (.cells cur E (0, 0)) := hr
      rw [h1] at hg
      simp only [Option.some.injEq, Obj.cells.injEq] at hg
      exact hg.1.symm
    subst hcur
    have hkn : k * n + n ≤ L.length * n := by rw [← Nat.succ_mul]; exact Nat.mul_le_mul_right n hk
    have hLc : L.length * n ≤ cap * n := Nat.mul_le_mul_right n hnc
    have hsl : cur'.toList.length = cap * n := by simpa using hcs
    refine .inr ⟨g, cap, splice cur' (k * n) r, by rw [List.length_set], hb, hr', by rw [List.length_set]; exact hnc, hcm, ?_, ?_⟩
    · unfold splice
      simp only [List.size_toArray, List.length_append, List.length_take, List.length_drop, hsl, hrl]
      omega
    · rw [List.length_set, flat_setRow L k r h.2 hk, ← ht]
      unfold splice
      rw [List.take_take, Nat.min_eq_left (by omega), List.drop_take, List.take_append, List.take_of_length_le (by simp only [List.length_append, List.length_take, hsl, hrl]; omega)]
      congr 1
      rw [hrl]
      congr 1
      simp only [List.length_append, List.length_take, hsl, hrl]
      omega
theorem OwnHs.setH {base g cap : Nat} {w w' : World} {cur : Array Value} {L : List (List UInt8)} {x : List UInt8} {k : Nat} (h : OwnHs w base (.slice (some ⟨g, 0, none⟩) L.length cap) L) (hr : Row w g 24 cur) (hk : k < L.length) (hr' : Row w' g 24 (splice cur (k * 32) (hashR x))) : OwnHs w' base (.slice (some ⟨g, 0, none⟩) L.length cap) (L.set k x) := by
  unfold OwnHs at h ⊢
  have h' : OwnR 32 24 w base (.slice (some ⟨g, 0, none⟩) (L.map hashR).length cap) (L.map hashR) := by rw [List.length_map]; exact h
  have := OwnR.setRow h' hr (k := k) (r := hashR x) (by rw [List.length_map]; exact hk) (hashR_len x) hr'
  rw [List.length_map, ← List.map_set] at this
  exact this
theorem hashR_set {x : List UInt8} (h : x.length = 32) {i : Nat} {c : UInt8} : (hashR x).set i (VB c) = hashR (x.set i c) := by
  unfold hashR
  rw [list_at32 h, list_at32 (by rw [List.length_set]; exact h), List.map_set]
/-- a byte of a hash of such a list -/
theorem own_byte {w : World} {base g cap k i : Nat} {L : List (List UInt8)} {l : List UInt8} (hO : OwnHs w base (.slice (some ⟨g, 0, none⟩) L.length cap) L) (hk : L[k]? = some l) (hi : i < 32) : w.cell? ⟨g, k * 32 + i, none⟩ = some (VB (at8 l i)) := by
  obtain ⟨⟨ao, c, e, -, -, hj⟩, -⟩ := hO.of
  simp only [Value.slice.injEq] at e
  obtain ⟨rfl, -, -⟩ := e
  obtain ⟨ad, e, h2⟩ := hj k (hashR l) (by rw [List.getElem?_map, hk]; rfl)
  cases e
  have := h2 i (VB (at8 l i)) (by unfold hashR; rw [List.getElem?_map, List.getElem?_range hi]; rfl)
  rw [add_none, add_none, Nat.zero_add] at this
  exact this
/-- where a hash of such a list lies -/
theorem run_indexH {g n c k : Nat} (hk : k < n) (w : World) : (Instr.indexAt 46 (.slice (some ⟨g, 0, none⟩) n c) (.int .i64 (k : Int))).run Tryz.prog w = .ok (.pointer (some ⟨g, k * 32, none⟩)) w := by
  have hi := info_HashCo
  cases hq : Tryz.prog.info? 24 with
  | none => rw [hq] at hi; cases hi
  | some t =>
    have hs' : t.size = 32 := by simpa [hq] using hi
    simp [Instr.indexAt, asIntOf, run_underlying Tryz.underlying46, sizeOf, typeInfo, hq, hs', hk, Addr.add]
    try omega
section
variable {ops : Array Oper} {Q : Exit → Act → World → Prop} {rest : List Oper} {o : Oper} {a : Act} {w : World}
/-- a hash is written into a list of one's own -/
theorem kStoreHs {base g cap k : Nat} {L : List (List UInt8)} {l : List UInt8} (x y : Operand) (hO : OwnHs w base (.slice (some ⟨g, 0, none⟩) L.length cap) L) (hk : k < L.length) (ho : o.op = .store 24 x y) (hg : Region.wanted o (yielded ops a.tmps) = true) (hx : a.eval x = .pointer (some ⟨g, k * 32, none⟩)) (hy : a.eval y = HV l)
    (h : ∀ w1, OwnHs w1 base (.slice (some ⟨g, 0, none⟩) (L.set k l).length cap) (L.set k l) → Wrote g w w1 → base ≤ g → wpList Tryz.prog ops Q rest (a.put o.dst undef) w1) : wpList Tryz.prog ops Q (o :: rest) a w := by
  have hO' : OwnR 32 24 w base (.slice (some ⟨g, 0, none⟩) L.length cap) (L.map hashR) := hO
  obtain ⟨g', cap', cur, e, hb, hr, hcs, hle, hm, ht⟩ := hO'.row (by intro e; rw [List.map_eq_nil_iff] at e; rw [e] at hk; cases hk)
  rw [List.length_map] at e hle
  simp only [Value.slice.injEq, Option.some.injEq, Addr.mk.injEq, and_true, true_and] at e
  obtain ⟨rfl, rfl⟩ := e
  have hsz : k * 32 + 32 ≤ cur.size := by rw [hcs, ← Nat.succ_mul]; exact Nat.mul_le_mul_right 32 (Nat.le_trans hk hle)
  refine kStorePart _ _ _ _ g (k * 32) cur (tab 32 fun p => VB (at8 l p)) ho hg hx hy hr (by rw [tab_size]; exact info_HashCo) (by rw [tab_size]; exact hsz) (tab_one _ _ fun _ _ => rfl) fun w1 hr1 hw1 => ?_
  have hr1 : Row w1 g 24 (splice cur (k * 32) (hashR l)) := hr1
  exact h w1 (by rw [List.length_set]; exact OwnHs.setH hO hr hk hr1) hw1 hb
/-- a byte of a hash in a list of one's own is written -/
theorem kStoreHs1 {base g cap k i : Nat} {L : List (List UInt8)} {l : List UInt8} {c : UInt8} (x y : Operand) (hO : OwnHs w base (.slice (some ⟨g, 0, none⟩) L.length cap) L) (hk : L[k]? = some l) (hl : l.length = 32) (hi : i < 32) (ho : o.op = .store 5 x y) (hg : Region.wanted o (yielded ops a.tmps) = true) (hx : a.eval x = .pointer (some ⟨g, k * 32 + i, none⟩)) (hy : a.eval y = VB c)
    (h : ∀ w1, OwnHs w1 base (.slice (some ⟨g, 0, none⟩) (L.set k (l.set i c)).length cap) (L.set k (l.set i c)) → Wrote g w w1 → base ≤ g → wpList Tryz.prog ops Q rest (a.put o.dst undef) w1) : wpList Tryz.prog ops Q (o :: rest) a w := by
  have hkl : k < L.length := (List.getElem?_eq_some_iff.1 hk).1
  have hO' : OwnR 32 24 w base (.slice (some ⟨g, 0, none⟩) L.length cap) (L.map hashR) := hO
  obtain ⟨g', cap', cur, e, hb, hr, hcs, hle, hm, ht⟩ := hO'.row (by intro e; rw [List.map_eq_nil_iff] at e; rw [e] at hkl; cases hkl)
  rw [List.length_map] at e hle
  simp only [Value.slice.injEq, Option.some.injEq, Addr.mk.injEq, and_true, true_and] at e
  obtain ⟨rfl, rfl⟩ := e
  have hsz : k * 32 + i < cur.size := by
    have := Nat.mul_le_mul_right 32 (Nat.le_trans hkl hle)
    rw [hcs]; rw [Nat.succ_mul] at this; omega
  refine kStore1 _ _ _ _ g (k * 32 + i) cur (VB c) ho hg hx hy hr info_b8P hsz rfl fun w1 hr1 hw1 => ?_
  have hO2 : OwnR 32 24 w base (.slice (some ⟨g, 0, none⟩) (L.map hashR).length cap) (L.map hashR) := by rw [List.length_map]; exact hO'
  have h2 := OwnR.set hO2 hr (k := k) (i := i) (u := VB c) (r := hashR l) (by rw [List.getElem?_map, hk]; rfl) hi hr1
  rw [hashR_set hl, List.length_map, ← List.map_set] at h2
  exact h w1 (by rw [List.length_set]; exact h2) hw1 hb
end
end Go.Proofs.YtmfjgehlkbndjaaGreatDoor
