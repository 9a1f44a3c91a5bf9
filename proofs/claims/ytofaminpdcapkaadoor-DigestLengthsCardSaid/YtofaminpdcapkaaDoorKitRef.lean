/-
  My kit: an append that keeps what it read; elements of a slice of the call's own in drawn regions; numbers of 32 bits in 64.
-/
import Derived.Test.YtofaminpdcapkaaDoorRefPad
namespace Go.Proofs.YtofaminpdcapkaaDoor
open Go Go.RowKit

section
variable {P : Program} {ops : Array Oper} {Q : Exit → Act → World → Prop} {rest : List Oper} {o : Oper} {a : Act} {w : World}

theorem run_append_keep (base : Nat) (t ty e : TypeId) (i : TypeInfo) (z : Value) (ht : P.underlying t = some (.slice e)) (hi : P.info? e = some i) (hz : i.zero = some z) (hsize : i.size = 1) (hzs : z.cells.size = 1)
    (g n cap : Nat) (xs : List Value) (hown : w.ownsRow base e 1 (.slice (some ⟨g, 0, none⟩) n cap) n xs)
    (ad : Addr) (m c : Nat) (news : List Value) (hl : news.length = m) (hnews : ∀ j u, news[j]? = some u → w.cell? (ad.add j) = some u) (h1 : ∀ u ∈ news, u.oneCell' = true)
    (h63 : n + m ≤ maxLen) (hbytes : (n + m) * i.bytes ≤ 140737488355328) (hbase : base ≤ w.heap.size) :
    ∃ v' w', (Builtin.append_ #[t, t] ty #[.slice (some ⟨g, 0, none⟩) n cap, .slice (some ad) m c]).run P w = .ok v' w' ∧ w'.ownsRow base e 1 v' (n + m) (xs ++ news) ∧ w.grownBy w' (some g) ∧
      ∀ j u, xs[j]? = some u → w'.cell? ⟨g, j, none⟩ = some u := by
  obtain ⟨v', w', hr, h2, h3, -⟩ := run_append_own (P := P) w base t ty e i z 1 i.bytes ht hi hz hsize rfl hzs (by decide) _ n xs hown ad m c news (by simpa using hl) hnews h1 h63 hbytes hbase
  refine ⟨v', w', hr, h2, h3, ?_⟩
  have holds : ∀ j u, xs[j]? = some u → w.cell? ((⟨g, 0, none⟩ : Addr).add j) = some u := hown.cells (g := g) rfl
  have hsm : n + m ≤ 9223372036854775807 := by simp only [maxLen] at h63; omega
  rcases hown.2 with ⟨hh, -⟩ | ⟨g', cap', cur, hh, hbg, hg, hnc, hcm, hcs, htake⟩
  · cases hh
  · simp only [Value.slice.injEq, Option.some.injEq, Addr.mk.injEq, and_true, true_and] at hh
    obtain ⟨rfl, rfl⟩ := hh
    by_cases hroom : n + m ≤ cap
    · have hr2 := run_append_room (P := P) w t ty e i ht hi g n cap cur hg ad m c news (by rw [hsize]; simpa using hl) hnews h1 hroom (by rw [hsize, hl, hcs]; omega)
      rw [hr] at hr2
      simp only [Result.ok.injEq] at hr2
      obtain ⟨rfl, rfl⟩ := hr2
      intro j u hu
      have := h2.cells (g := g) rfl j u (by rw [List.getElem?_append_left (List.getElem?_eq_some_iff.1 hu).1]; exact hu)
      rwa [add_none, Nat.zero_add] at this
    · have hr2 := run_append_grow (P := P) w t ty e i z ht hi hz ⟨g, 0, none⟩ n cap xs (by rw [hown.1, hsize]) holds ad m c news (by rw [hsize]; simpa using hl) hnews (by omega) (by omega) (growslice_fits (by omega) hbytes)
      rw [hr] at hr2
      simp only [Result.ok.injEq] at hr2
      obtain ⟨rfl, rfl⟩ := hr2
      intro j u hu
      have h0 := holds j u hu
      rw [add_none, Nat.zero_add] at h0
      rw [← h0]
      have hlt : g < w.heap.size := (Array.getElem?_eq_some_iff.1 hg).1
      unfold World.cell?
      rw [show (World.alloc _ _).heap[g]? = w.drew.heap[g]? from heap_alloc_old w.drew _ hlt]
      rfl

/-- append(s, x...) that keeps what s read. -/
theorem kAppendKeep (s x : Operand) (T E : TypeId) (ho : o.op = .call { callee := .builtin .append, args := #[s, x], argTypes := #[T, T] }) (hg : Region.wanted o (yielded ops a.tmps) = true)
    (base : Nat) (i : TypeInfo) (z : Value) (ht : P.underlying T = some (.slice E)) (hi : P.info? E = some i) (hz : i.zero = some z) (hsize : i.size = 1) (hzs : z.cells.size = 1)
    (g n cap : Nat) (y : Value) (xs news : List Value) (hs : a.eval s = .slice (some ⟨g, 0, none⟩) n cap) (hown : w.ownsRow base E 1 (.slice (some ⟨g, 0, none⟩) n cap) n xs) (hx : a.eval x = y) (hy : IsVals w y news) (hnn : news ≠ []) (h1 : ∀ u ∈ news, u.oneCell' = true)
    (h63 : n + news.length ≤ maxLen) (hbytes : (n + news.length) * i.bytes ≤ 140737488355328) (hbase : base ≤ w.heap.size)
    (h : ∀ v' w', w'.ownsRow base E 1 v' (n + news.length) (xs ++ news) → w.grownBy w' (some g) → (∀ j u, xs[j]? = some u → w'.cell? ⟨g, j, none⟩ = some u) → wpList P ops Q rest (a.put o.dst v') w') : wpList P ops Q (o :: rest) a w := by
  obtain ⟨ao, c, rfl, hc, hn, hj⟩ := hy
  cases ao with
  | none =>
    cases news with
    | nil => exact absurd rfl hnn
    | cons u us => obtain ⟨a, ha, _⟩ := hj 0 u rfl; cases ha
  | some ad =>
    obtain ⟨v', w', hr, h2, h3, h4⟩ := run_append_keep (P := P) (w := w) base T o.type E i z ht hi hz hsize hzs g n cap xs hown ad news.length c news rfl (fun j u hu => by obtain ⟨a', ha, hcell⟩ := hj j u hu; cases ha; exact hcell) h1 h63 hbytes hbase
    refine BigFrame.wpList_want hg fun K hK => ?_
    unfold Oper.wp execOp
    simp only [ho, resolve, invoke, builtin, Sem.run_bind, Sem.run_pure, Result.andThen_ok, List.map_toArray, List.map_cons, List.map_nil, hs, hx, hr]
    exact hK _ _ (h v' w' h2 h3 h4)
end

theorem run_indexAddrG {P : Program} {w : World} {T E : TypeId} {k : IntKind} {g len cap j : Nat} {i : Int} (ht : P.underlying T = some (.slice E)) (hs : (P.info? E).map (·.size) = some 1) (hi : i = (j : Int)) (hj : j < len) :
    (Instr.indexAt T (.slice (some ⟨g, 0, none⟩) len cap) (.int k i)).run P w = .ok (.pointer (some ⟨g, j, none⟩)) w := by
  subst hi
  cases hq : P.info? E with
  | none => simp [hq] at hs
  | some t =>
    have hs' : t.size = 1 := by simpa [hq] using hs
    have hc : (0 : Int) ≤ (j : Int) ∧ (j : Int) < (len : Int) := by omega
    simp [Instr.indexAt, asIntOf, run_underlying ht, hc, sizeOf, typeInfo, hq, hs', add_none]
    intro hle; omega

section
variable {P : Program} {ops : Array Oper} {C : World → Prop} {Q : Act → Prop} {rest : List Oper} {o : Oper} {a : Act}
theorem qIndexAddrG (T E : TypeId) (x y : Operand) (k : IntKind) (g len cap : Nat) (i : Int) (j : Nat) (ho : o.op = .indexAddr T x y) (hg : Region.wanted o (yielded ops a.tmps) = true)
    (hx : a.eval x = .slice (some ⟨g, 0, none⟩) len cap) (hy : a.eval y = .int k i) (ht : P.underlying T = some (.slice E)) (hs : (P.info? E).map (·.size) = some 1) (hi : i = (j : Int)) (hj : j < len)
    (h : wpQuiet P ops C Q rest (a.put o.dst (.pointer (some ⟨g, j, none⟩)))) : wpQuiet P ops C Q (o :: rest) a := by
  refine qStep _ hg (fun w _ => ?_) h
  unfold execOp
  simp only [ho, hx, hy, Sem.run_bind, run_indexAddrG ht hs hi hj, Result.andThen_ok, Sem.run_pure]
end

section
variable {P : Program} {ops : Array Oper} {S : World → Prop} {Q : Exit → Act → World → Prop} {L : Act → World → Prop} {bs : List Bool} {o : Oper} {rest : List Oper} {a : Act} {w : World}
theorem mixIndexAddrG (T E : TypeId) (x y : Operand) (k : IntKind) (g len cap : Nat) (i : Int) (j : Nat) (hS : S w) (ho : o.op = .indexAddr T x y) (hg : Region.wanted o (yielded ops a.tmps) = true)
    (hx : a.eval x = .slice (some ⟨g, 0, none⟩) len cap) (hy : a.eval y = .int k i) (ht : P.underlying T = some (.slice E)) (hs : (P.info? E).map (·.size) = some 1) (hi : i = (j : Int)) (hj : j < len)
    (h : wpMix P ops Q S L bs rest (a.put o.dst (.pointer (some ⟨g, j, none⟩))) w) : wpMix P ops Q S L (true :: bs) (o :: rest) a w :=
  mixQuiet _ hS hg (fun w _ => by unfold execOp; simp only [ho, hx, hy, Sem.run_bind, run_indexAddrG ht hs hi hj, Result.andThen_ok, Sem.run_pure]) h
theorem mixLoadCell (T : TypeId) (x : Operand) (g off : Nat) (v : Value) (d : TypeDesc) (hS : S w) (ho : o.op = .load T x) (hg : Region.wanted o (yielded ops a.tmps) = true)
    (hx : a.eval x = .pointer (some ⟨g, off, none⟩)) (hr : ∀ w, S w → w.cell? ⟨g, off, none⟩ = some v) (hu : P.underlying T = some d) (hd : aggDesc d = false)
    (h : wpMix P ops Q S L bs rest (a.put o.dst v) w) : wpMix P ops Q S L (true :: bs) (o :: rest) a w := by
  refine mixQuiet _ hS hg (fun w hw => ?_) h
  unfold execOp
  have hcell := hr w hw
  have hl : (loadVar T ⟨g, off, none⟩).run P w = .ok v w := by simp [loadVar, Sem.run_bind, run_isAgg hu, hd, load, Sem.run, hcell]
  simp only [ho, hx, Instr.loadAt, Instr.sureAddr, Sem.run_bind, Sem.run_pure, Result.andThen_ok, hl]
end

theorem bxor64 (a b : UInt32) : bits .xor .u64 (I a) (I b) = I (a ^^^ b) := by
  have ha := a.toNat_lt; have hb := b.toNat_lt
  unfold I; rw [u64_xor_nat _ _ (by omega) (by omega), UInt32.toNat_xor]
theorem band64 (a b : UInt32) : bits .and .u64 (I a) (I b) = I (a &&& b) := by
  have ha := a.toNat_lt; have hb := b.toNat_lt
  unfold I; rw [u64_and_nat _ _ (by omega) (by omega), UInt32.toNat_and]
theorem bnot64 (a : UInt32) : 4294967295 - I a = I (~~~a) := by
  have ha := a.toNat_lt
  unfold I
  rw [UInt32.toNat_not, show UInt32.size = 4294967296 from rfl]
  omega
theorem tmod_sum2 (a b : UInt32) : (I a + I b).tmod 4294967296 = I (a + b) := by
  unfold I; rw [Int.tmod_eq_emod_of_nonneg (by omega), UInt32.toNat_add]; omega
theorem tmod_sum3 (a b c : UInt32) : (I a + I b + I c).tmod 4294967296 = I (a + (b + c)) := by
  unfold I; rw [Int.tmod_eq_emod_of_nonneg (by omega), UInt32.toNat_add, UInt32.toNat_add]; omega
theorem tmod_sum4 (a p b q : UInt32) : (I a + I p + I b + I q).tmod 4294967296 = I (a + b + p + q) := by
  unfold I; rw [Int.tmod_eq_emod_of_nonneg (by omega), UInt32.toNat_add, UInt32.toNat_add, UInt32.toNat_add]; omega
theorem tmod_sum5 (a b c d e : UInt32) : (I a + I b + I c + I d + I e).tmod 4294967296 = I (a + b + c + d + e) := by
  unfold I; rw [Int.tmod_eq_emod_of_nonneg (by omega), UInt32.toNat_add, UInt32.toNat_add, UInt32.toNat_add, UInt32.toNat_add]; omega

theorem u64Info0 : (Tryd.prog.info? 45).map (fun i => (i.zero, i.size, i.bytes)) = some (some (.int .u64 0), 1, 8) := by kernel_rfl
theorem u64Info : ∃ i, Tryd.prog.info? 45 = some i ∧ i.zero = some (.int .u64 0) ∧ i.size = 1 ∧ i.bytes = 8 := by
  have h := u64Info0
  cases hq : Tryd.prog.info? 45 with
  | none => rw [hq] at h; cases h
  | some i => rw [hq] at h; simp at h; exact ⟨i, rfl, h.1, h.2.1, h.2.2⟩
theorem v64_one (l : List UInt32) : ∀ u ∈ l.map V64, u.oneCell' = true := fun u hu => by simp at hu; obtain ⟨b, _, rfl⟩ := hu; rfl

/-! ### the row of 64 numbers -/
theorem extW_prefix (l : List UInt32) (n m : Nat) (h : n ≤ m) : ∃ t, extW l m = extW l n ++ t := by
  induction m with
  | zero => obtain rfl : n = 0 := by omega
            exact ⟨[], by simp⟩
  | succ m ih =>
    by_cases e : n = m + 1
    · subst e; exact ⟨[], by simp⟩
    · obtain ⟨t, ht⟩ := ih (by omega)
      exact ⟨t ++ [nextW (extW l m)], by simp [extW, ht]⟩
theorem sched_len (bs : List UInt8) : (sched bs).length = 64 := by unfold sched; rw [extW_length, words_length]
theorem sched_low (bs : List UInt8) (i : Nat) (hi : i < 16) : at32 (sched bs) i = part bs 64 i := by
  obtain ⟨t, ht⟩ := extW_prefix (words bs) 0 48 (by omega)
  unfold sched at32
  rw [ht, List.getD_eq_getElem?_getD, List.getElem?_append_left (by simp [extW, words_length]; exact hi)]
  simp [extW, words, hi]
theorem sched_at (bs : List UInt8) (n i : Nat) (hn : n ≤ 48) (hi : i < 16 + n) : at32 (sched bs) i = at32 (extW (words bs) n) i := by
  obtain ⟨t, ht⟩ := extW_prefix (words bs) n 48 hn
  unfold sched at32
  rw [ht, List.getD_eq_getElem?_getD, List.getElem?_append_left (by rw [extW_length, words_length]; exact hi), List.getD_eq_getElem?_getD]
theorem sched_next (bs : List UInt8) (i : Nat) (h1 : 16 ≤ i) (h2 : i < 64) :
    at32 (sched bs) (i - 16) + at32 (sched bs) (i - 7) + sS0 (at32 (sched bs) (i - 15)) + sS1 (at32 (sched bs) (i - 2)) = at32 (sched bs) i := by
  have hl : (extW (words bs) (i - 16)).length = i := by rw [extW_length, words_length]; omega
  rw [sched_at bs (i - 16) (i - 16) (by omega) (by omega), sched_at bs (i - 16) (i - 7) (by omega) (by omega), sched_at bs (i - 16) (i - 15) (by omega) (by omega), sched_at bs (i - 16) (i - 2) (by omega) (by omega),
    sched_at bs (i - 15) i (by omega) (by omega), show i - 15 = (i - 16) + 1 by omega]
  unfold at32
  rw [extW, List.getD_eq_getElem?_getD (l := _ ++ _), List.getElem?_append_right (by omega), hl]
  simp only [Nat.sub_self, List.getElem?_cons_zero, Option.getD_some]
  unfold nextW
  rw [hl, show i - 16 + 1 = i - 15 by omega]
theorem sched_take (bs : List UInt8) (i : Nat) (h : i < 64) : (sched bs).take (i + 1) = (sched bs).take i ++ [at32 (sched bs) i] := by
  rw [List.take_succ_eq_append_getElem (by rw [sched_len]; exact h)]
  simp [at32, sched_len, h]
theorem sched_vals (bs : List UInt8) (i j : Nat) (h : i ≤ 64) (hj : j < i) : (((sched bs).take i).map V64)[j]? = some (V64 (at32 (sched bs) j)) := by
  have : j < (sched bs).length := by rw [sched_len]; omega
  simp [at32, hj, this]
end Go.Proofs.YtofaminpdcapkaaDoor
