/-
  Layer 7: the walks of the reference's Pushes, True, truth, Push and Next.
-/
import Derived.Test.YtnaclalbeocpkaaDoorPcBase
import Derived.Test.YtnaclalbeocpkaaDoorScPlain
namespace Go.Proofs.YtnaclalbeocpkaaDoor
open Go Go.RowKit

theorem VB_mod (n : Nat) : VB (UInt8.ofNat n) = .int .u8 ((n % 256 : Nat) : Int) := by
  show Value.int .u8 (B (UInt8.ofNat n)) = _
  unfold B; rw [UInt8.toNat_ofNat']
theorem results_tmp4 {fn : Func} {t u v x : Tmp} (h : fn.results = #[.tmp t, .tmp u, .tmp v, .tmp x]) (tmps : Array Value) (P : Program) (w : World) :
    (results fn tmps).run P w = .ok (.tuple #[tmps.getD t undef, tmps.getD u undef, tmps.getD v undef, tmps.getD x undef]) w := by
  simp [results, h]
section
variable {ops : Array Oper} {Q : Exit → Act → World → Prop} {rest : List Oper} {o : Oper} {a : Act} {w : World}
theorem kConvI8 (x : Operand) (n : Nat) (ho : o.op = .convert 3 5 x) (hg : Region.wanted o (yielded ops a.tmps) = true) (hx : a.eval x = .int .i64 (n : Int)) (h : wpList Tryd.prog ops Q rest (a.put o.dst (.int .u8 ((n % 256 : Nat) : Int))) w) : wpList Tryd.prog ops Q (o :: rest) a w := by
  refine kPure _ hg ?_ h
  unfold execOp
  have e : IntKind.u8.wrap (n : Int) = ((n % 256 : Nat) : Int) := by rw [IntKind.wrap_u8]; omega
  simp [ho, hx, convert, run_underlying Tryd.underlying3, run_underlying Tryd.underlying5, e, Conv.intToInt]
theorem kConv8I (x : Operand) (k : Nat) (hk : k < 256) (ho : o.op = .convert 5 3 x) (hg : Region.wanted o (yielded ops a.tmps) = true) (hx : a.eval x = .int .u8 (k : Int)) (h : wpList Tryd.prog ops Q rest (a.put o.dst (.int .i64 (k : Int))) w) : wpList Tryd.prog ops Q (o :: rest) a w := by
  refine kPure _ hg ?_ h
  unfold execOp
  have e : IntKind.i64.wrap (k : Int) = (k : Int) := by rw [IntKind.wrap_i64]; omega
  simp [ho, hx, convert, run_underlying Tryd.underlying3, run_underlying Tryd.underlying5, e, Conv.intToInt]
theorem kRemI (T T2 : TypeId) (x y : Operand) (n m : Nat) (hm : 0 < m) (ho : o.op = .binOp .rem T x y T2) (hg : Region.wanted o (yielded ops a.tmps) = true) (hx : a.eval x = .int .i64 (n : Int)) (hy : a.eval y = .int .i64 (m : Int)) (h : wpList Tryd.prog ops Q rest (a.put o.dst (.int .i64 ((n % m : Nat) : Int))) w) : wpList Tryd.prog ops Q (o :: rest) a w := by
  refine kPure _ hg ?_ h
  unfold execOp
  simp only [ho, hx, hy]
  have e : (n : Int).tmod (m : Int) = ((n % m : Nat) : Int) := by rw [Int.tmod_eq_emod_of_nonneg (Int.natCast_nonneg _)]; norm_cast
  have hm' : m ≠ 0 := by omega
  simp [eqGuard, binOp, Op.intDiv, e, hm']
theorem kQuoI (T T2 : TypeId) (x y : Operand) (n m : Nat) (hm : 0 < m) (hn : n < 9223372036854775808) (ho : o.op = .binOp .quo T x y T2) (hg : Region.wanted o (yielded ops a.tmps) = true) (hx : a.eval x = .int .i64 (n : Int)) (hy : a.eval y = .int .i64 (m : Int)) (h : wpList Tryd.prog ops Q rest (a.put o.dst (.int .i64 ((n / m : Nat) : Int))) w) : wpList Tryd.prog ops Q (o :: rest) a w := by
  refine kPure _ hg ?_ h
  unfold execOp
  simp only [ho, hx, hy]
  have hq : n / m ≤ n := Nat.div_le_self _ _
  have hm' : m ≠ 0 := by omega
  have e : IntKind.i64.wrap ((n : Int) / (m : Int)) = (n : Int) / (m : Int) := by
    rw [show (n : Int) / (m : Int) = ((n / m : Nat) : Int) by norm_cast]
    generalize n / m = q at *
    rw [IntKind.wrap_i64]; omega
  simp [eqGuard, binOp, Op.intDiv, hm', e]
end
theorem true_hit {l : List UInt8} {k : Nat} (hk : k < l.length) (h : at8 l k ≠ 0) : trueB l = true := by
  unfold trueB
  rw [List.any_eq_true]
  exact ⟨l[k], List.getElem_mem hk, by simp [at8, hk] at h; simpa using h⟩
theorem true_none {l : List UInt8} (h : ∀ j, j < l.length → at8 l j = 0) : trueB l = false := by
  unfold trueB
  rw [List.any_eq_false]
  intro x hx
  obtain ⟨j, hj, rfl⟩ := List.getElem_of_mem hx
  have := h j hj
  simp [at8, hj] at this
  simpa using this
theorem own_lit {w : World} {g base : Nat} (l : List UInt8) (hb : base ≤ g) (hl : l.length ≤ 10) (h : Row w g 5 (l.map VB).toArray) : OwnB w base (.slice (some ⟨g, 0, none⟩) l.length l.length) l :=
  ⟨by simp, .inr ⟨g, l.length, _, by simp, hb, h, by simp, by unfold maxLen; omega, by simp, by simp; exact List.take_of_length_le (by simp)⟩⟩
set_option maxRecDepth 100000 in
set_option maxHeartbeats 8000000 in
theorem mPush_any {x : List UInt8} {v : Value} (w : World) (hv : IsVals w v (x.map VB)) (hl : x.length ≤ 65535) : Calls Tryd.prog 29 #[v] w (POwnPost w (pushL x)) := by
  obtain ⟨i, hi, hz, hs1, hby⟩ := b8Info
  obtain ⟨m, hm⟩ : ∃ m, x.length = m := ⟨_, rfl⟩
  unfold pushL
  rw [hm]
  by_cases h1 : m < 76
  · rw [if_pos h1]
    have hd : decide ((m : Int) < 76) = true := by simp; omega
    have e1 := VB_mod m
    go_enter Tryd.func29, Tryd.ntmps29
    go_wp2_with (first
      | ((with_reducible change wpList _ _ _ (Oper.mk (some 5) _ _ _ _ _ :: _) _ _); refine kLenN _ _ _ v _ m rfl rfl rfl hv (by rw [List.length_map, hm]) Tryd.underlying22 ?_; go_frame)
      | ((with_reducible change wpList _ _ _ (Oper.mk (some 7) _ _ _ _ _ :: _) _ _); refine kLssI _ _ _ _ .i64 (m : Int) 76 true rfl rfl rfl rfl hd ?_; go_frame)
      | ((with_reducible change wpList _ _ _ (Oper.mk (some 9) _ _ _ _ _ :: _) _ _); refine kConvI8 _ m rfl rfl rfl ?_; go_frame)
      | ((with_reducible change wpList _ _ _ (Oper.mk (some 10) _ _ _ _ _ :: _) _ _); refine kBuildSlice1 _ _ _ (VB (UInt8.ofNat m)) rfl rfl Tryd.underlying22 i _ hi hz hs1 e1.symm rfl ?_; intro w2 hR2 hz2 hB2; clear hz2; have hO2 := own_lit (base := w.heap.size) [UInt8.ofNat m] (Nat.le_refl _) (by simp) hR2; clear hR2; have hv2 := hv.below hB2; have hsz2 := hB2.size; go_frame)
      | ((with_reducible change wpList _ _ _ (Oper.mk (some 12) _ _ _ _ _ :: _) _ _); refine kAppB _ _ rfl rfl w.heap.size _ _ [UInt8.ofNat m] x hO2 hv2 rfl rfl (by simp; omega) hsz2 ?_; intro v3 w3 hO3 hB3; have hB4 := hB2.trans hB3; clear hO2 hv2 hB2 hB3; go_frame))
    go_ret
    exact ⟨_, rfl, hO3, hB4⟩
  rw [if_neg h1]
  have hd : decide ((m : Int) < 76) = false := by simp; omega
  by_cases h2 : m < 256
  · rw [if_pos h2]
    have hd2 : decide ((m : Int) < 256) = true := by simp; omega
    have e1 := VB_mod m
    go_enter Tryd.func29, Tryd.ntmps29
    go_wp2_with (first
      | ((with_reducible change wpList _ _ _ (Oper.mk (some 5) _ _ _ _ _ :: _) _ _); refine kLenN _ _ _ v _ m rfl rfl rfl hv (by rw [List.length_map, hm]) Tryd.underlying22 ?_; go_frame)
      | ((with_reducible change wpList _ _ _ (Oper.mk (some 7) _ _ _ _ _ :: _) _ _); refine kLssI _ _ _ _ .i64 (m : Int) 76 false rfl rfl rfl rfl hd ?_; go_frame)
      | ((with_reducible change wpList _ _ _ (Oper.mk (some 14) _ _ _ _ _ :: _) _ _); refine kLssI _ _ _ _ .i64 (m : Int) 256 true rfl rfl rfl rfl hd2 ?_; go_frame)
      | ((with_reducible change wpList _ _ _ (Oper.mk (some 16) _ _ _ _ _ :: _) _ _); refine kConvI8 _ m rfl rfl rfl ?_; go_frame)
      | ((with_reducible change wpList _ _ _ (Oper.mk (some 17) _ _ _ _ _ :: _) _ _); refine kBuildSlice2 _ _ _ _ (VB 76) (VB (UInt8.ofNat m)) rfl rfl Tryd.underlying22 i _ hi hz hs1 rfl rfl e1.symm rfl ?_; intro w2 hR2 hz2 hB2; clear hz2; have hO2 := own_lit (base := w.heap.size) [76, UInt8.ofNat m] (Nat.le_refl _) (by simp) hR2; clear hR2; have hv2 := hv.below hB2; have hsz2 := hB2.size; go_frame)
      | ((with_reducible change wpList _ _ _ (Oper.mk (some 19) _ _ _ _ _ :: _) _ _); refine kAppB _ _ rfl rfl w.heap.size _ _ [76, UInt8.ofNat m] x hO2 hv2 rfl rfl (by simp; omega) hsz2 ?_; intro v3 w3 hO3 hB3; have hB4 := hB2.trans hB3; clear hO2 hv2 hB2 hB3; go_frame))
    go_ret
    exact ⟨_, rfl, hO3, hB4⟩
  · rw [if_neg h2]
    have hd2 : decide ((m : Int) < 256) = false := by simp; omega
    have e1 : VB (UInt8.ofNat (m % 256)) = .int .u8 ((m % 256 % 256 : Nat) : Int) := VB_mod _
    have e2 := VB_mod (m / 256)
    go_enter Tryd.func29, Tryd.ntmps29
    go_wp2_with (first
      | ((with_reducible change wpList _ _ _ (Oper.mk (some 5) _ _ _ _ _ :: _) _ _); refine kLenN _ _ _ v _ m rfl rfl rfl hv (by rw [List.length_map, hm]) Tryd.underlying22 ?_; go_frame)
      | ((with_reducible change wpList _ _ _ (Oper.mk (some 7) _ _ _ _ _ :: _) _ _); refine kLssI _ _ _ _ .i64 (m : Int) 76 false rfl rfl rfl rfl hd ?_; go_frame)
      | ((with_reducible change wpList _ _ _ (Oper.mk (some 14) _ _ _ _ _ :: _) _ _); refine kLssI _ _ _ _ .i64 (m : Int) 256 false rfl rfl rfl rfl hd2 ?_; go_frame)
      | ((with_reducible change wpList _ _ _ (Oper.mk (some 21) _ _ _ _ _ :: _) _ _); refine kRemI _ _ _ _ m 256 (by decide) rfl rfl rfl rfl ?_; go_frame)
      | ((with_reducible change wpList _ _ _ (Oper.mk (some 22) _ _ _ _ _ :: _) _ _); refine kConvI8 _ (m % 256) rfl rfl rfl ?_; go_frame)
      | ((with_reducible change wpList _ _ _ (Oper.mk (some 24) _ _ _ _ _ :: _) _ _); refine kQuoI _ _ _ _ m 256 (by decide) (by omega) rfl rfl rfl rfl ?_; go_frame)
      | ((with_reducible change wpList _ _ _ (Oper.mk (some 25) _ _ _ _ _ :: _) _ _); refine kConvI8 _ (m / 256) rfl rfl rfl ?_; go_frame)
      | ((with_reducible change wpList _ _ _ (Oper.mk (some 26) _ _ _ _ _ :: _) _ _); refine kBuildSlice3 _ _ _ _ _ (VB 77) (VB (UInt8.ofNat (m % 256))) (VB (UInt8.ofNat (m / 256))) rfl rfl Tryd.underlying22 i _ hi hz hs1 rfl rfl e1.symm rfl e2.symm rfl ?_; intro w2 hR2 hz2 hB2; clear hz2; have hO2 := own_lit (base := w.heap.size) [77, UInt8.ofNat (m % 256), UInt8.ofNat (m / 256)] (Nat.le_refl _) (by simp) hR2; clear hR2; have hv2 := hv.below hB2; have hsz2 := hB2.size; go_frame)
      | ((with_reducible change wpList _ _ _ (Oper.mk (some 28) _ _ _ _ _ :: _) _ _); refine kAppB _ _ rfl rfl w.heap.size _ _ [77, UInt8.ofNat (m % 256), UInt8.ofNat (m / 256)] x hO2 hv2 rfl rfl (by simp; omega) hsz2 ?_; intro v3 w3 hO3 hB3; have hB4 := hB2.trans hB3; clear hO2 hv2 hB2 hB3; go_frame))
    go_ret
    exact ⟨_, rfl, hO3, hB4⟩
/-- the answer of Next: noughts and the error, or the word -/
def NextPost (w : World) (r : Option (UInt8 × List UInt8 × Nat)) (e : Ending) (w' : World) : Prop :=
  match r with
  | none => e = .returned (.tuple #[.int .u8 0, .slice none 0 0, .int .i64 0, .int .i64 71]) ∧ Below w.heap.size w w'
  | some (c, d, u) => ∃ v, e = .returned (.tuple #[VB c, v, .int .i64 (u : Int), .int .i64 0]) ∧ OwnB w' w.heap.size v d ∧ Below w.heap.size w w'
section
variable {ops : Array Oper} {Q : Exit → Act → World → Prop} {rest : List Oper} {o : Oper} {a : Act} {w : World}
theorem kSub80 (T T2 : TypeId) (x y : Operand) (c : UInt8) (hc : 80 < c.toNat) (ho : o.op = .binOp .sub T x y T2) (hg : Region.wanted o (yielded ops a.tmps) = true) (hx : a.eval x = .int .u8 (B c)) (hy : a.eval y = .int .u8 80) (h : wpList Tryd.prog ops Q rest (a.put o.dst (.int .u8 (B (c - 80)))) w) : wpList Tryd.prog ops Q (o :: rest) a w := by
  refine kPure _ hg ?_ h
  unfold execOp
  simp only [ho, hx, hy]
  have hlt := c.toNat_lt
  have e : IntKind.u8.wrap (B c - 80) = B (c - 80) := by
    rw [IntKind.wrap_u8]; unfold B
    rw [UInt8.toNat_sub_of_le c 80 (by rw [UInt8.le_iff_toNat_le]; show 80 ≤ c.toNat; omega)]
    show ((c.toNat : Int) - 80) % 256 = ((c.toNat - 80 : Nat) : Int)
    omega
  simp [eqGuard, binOp, Op.intArith, e]
theorem kSubJ (T T2 : TypeId) (x y : Operand) (m n z : Int) (hz : m - n = z ∧ 0 ≤ z ∧ z < 9223372036854775808) (ho : o.op = .binOp .sub T x y T2) (hg : Region.wanted o (yielded ops a.tmps) = true) (hx : a.eval x = .int .i64 m) (hy : a.eval y = .int .i64 n) (h : wpList Tryd.prog ops Q rest (a.put o.dst (.int .i64 z)) w) : wpList Tryd.prog ops Q (o :: rest) a w := by
  obtain ⟨rfl, h1, h2⟩ := hz
  refine kPure _ hg ?_ h
  unfold execOp
  simp only [ho, hx, hy]
  have e : IntKind.i64.wrap (m - n) = m - n := by rw [IntKind.wrap_i64]; omega
  simp [eqGuard, binOp, Op.intArith, e]
theorem kMulI64 (T T2 : TypeId) (x y : Operand) (m n z : Nat) (hz : m * n = z ∧ z < 9223372036854775808) (ho : o.op = .binOp .mul T x y T2) (hg : Region.wanted o (yielded ops a.tmps) = true) (hx : a.eval x = .int .i64 (m : Int)) (hy : a.eval y = .int .i64 (n : Int)) (h : wpList Tryd.prog ops Q rest (a.put o.dst (.int .i64 (z : Int))) w) : wpList Tryd.prog ops Q (o :: rest) a w := by
  obtain ⟨rfl, h1⟩ := hz
  refine kPure _ hg ?_ h
  unfold execOp
  simp only [ho, hx, hy]
  have e : IntKind.i64.wrap ((m : Int) * (n : Int)) = ((m * n : Nat) : Int) := by
    rw [show (m : Int) * (n : Int) = ((m * n : Nat) : Int) by norm_cast]
    generalize m * n = z at *
    rw [IntKind.wrap_i64]; omega
  simp [eqGuard, binOp, Op.intArith, e]
end
theorem ret4 {fn : Func} {R : Ending → World → Prop} {P : Program} {a : Act} {w : World} {t u v x : Tmp} (h : fn.results = #[.tmp t, .tmp u, .tmp v, .tmp x]) (hd : a.defers = []) (hR : R (.returned (.tuple #[a.tmps.getD t undef, a.tmps.getD u undef, a.tmps.getD v undef, a.tmps.getD x undef])) w) : bodyPost P fn R .ret a w :=
  bodyPost_ret (results_tmp4 h _ _ _) hd hR
set_option maxRecDepth 100000 in
set_option maxHeartbeats 8000000 in
theorem mNext_nil {v : Value} (w : World) (hv : IsVals w v (([] : List UInt8).map VB)) : Calls Tryd.prog 26 #[v] w (NextPost w (nextS [])) := by
  go_enter Tryd.func26, Tryd.ntmps26
  go_wp2_with (first
    | ((with_reducible change wpList _ _ _ (Oper.mk (some 13) _ _ _ _ _ :: _) _ _); refine kLenN _ _ _ v _ 0 rfl rfl rfl hv rfl Tryd.underlying22 ?_; go_frame))
  (try simp only [Exit.inBlock, Exit.then])
  refine ret4 rfl rfl ?_
  exact ⟨rfl, Below.refl _ _⟩
set_option maxRecDepth 100000 in
set_option maxHeartbeats 8000000 in
theorem mNext_small {c : UInt8} {r : List UInt8} {v : Value} (k1 : 80 < c.toNat) (k2 : c.toNat < 97) (w : World) (hv : IsVals w v ((c :: r).map VB)) (hl : (c :: r).length ≤ 1000000) : Calls Tryd.prog 26 #[v] w (NextPost w (nextS (c :: r))) := by
  obtain ⟨i, hi, hz, hs1, hby⟩ := b8Info
  obtain ⟨m, hm⟩ : ∃ m, (c :: r).length = m := ⟨_, rfl⟩
  have hlen : (c :: r).length = m := hm
  have hml : ((c :: r).map VB).length = m := by rw [List.length_map, hm]
  have hrm : r.length + 1 = m := hm
  have hm0 : decide ((m : Int) = 0) = false := by simp; omega
  have hcl := c.toNat_lt
  rw [show nextS (c :: r) = some (c, [c - 80], 1) by unfold nextS; dsimp only; rw [if_pos ⟨k1, k2⟩]]
  have h80 : decide (B c > 80) = true := by unfold B; simp; omega
  have h97 : decide (B c < 97) = true := by unfold B; simp; omega
  go_enter Tryd.func26, Tryd.ntmps26
  go_wp2_with (first
    | ((with_reducible change wpList _ _ _ (Oper.mk (some 13) _ _ _ _ _ :: _) _ _); refine kLenN _ _ _ v _ m rfl rfl rfl hv hml Tryd.underlying22 ?_; go_frame)
    | ((with_reducible change wpList _ _ _ (Oper.mk (some 14) _ _ _ _ _ :: _) _ _); refine kEqlI _ _ _ _ .i64 (m : Int) 0 false rfl rfl rfl rfl hm0 ?_; go_frame)
    | ((with_reducible change wpList _ _ _ (Oper.mk (some 16) _ _ _ _ _ :: _) _ _); refine kIndexAddrV _ _ _ _ .i64 v _ 0 0 (VB c) rfl rfl rfl hv rfl Tryd.underlying22 info_b8P rfl rfl ?_; intro b hb; go_frame)
    | ((with_reducible change wpList _ _ _ (Oper.mk (some 17) _ _ _ _ _ :: _) _ _); refine kLoadCell _ _ b (VB c) _ rfl rfl rfl hb Tryd.underlying5 rfl ?_; clear hb; go_frame)
    | ((with_reducible change wpList _ _ _ (Oper.mk (some 19) _ _ _ _ _ :: _) _ _); refine kGtrI _ _ _ _ .u8 (B c) 80 true rfl rfl rfl rfl h80 ?_; go_frame)
    | ((with_reducible change wpList _ _ _ (Oper.mk (some 22) _ _ _ _ _ :: _) _ _); refine kLssI _ _ _ _ .u8 (B c) 97 true rfl rfl rfl rfl h97 ?_; go_frame)
    | ((with_reducible change wpList _ _ _ (Oper.mk (some 26) _ _ _ _ _ :: _) _ _); refine kSub80 _ _ _ _ c k1 rfl rfl rfl rfl ?_; go_frame)
    | ((with_reducible change wpList _ _ _ (Oper.mk (some 27) _ _ _ _ _ :: _) _ _); refine kBuildSlice1 _ _ _ (VB (c - 80)) rfl rfl Tryd.underlying22 i _ hi hz hs1 rfl rfl ?_; intro w2 hR2 hz2 hB2; clear hz2; have hO2 := own_one (base := w.heap.size) (Nat.le_refl _) hR2; clear hR2; go_frame))
  (try simp only [Exit.inBlock, Exit.then])
  refine ret4 rfl rfl ?_
  exact ⟨_, rfl, hO2, hB2⟩
set_option maxRecDepth 100000 in
set_option maxHeartbeats 8000000 in
theorem mNext_few {c : UInt8} {r : List UInt8} {v : Value} (k1 : c.toNat < 76) (w : World) (hv : IsVals w v ((c :: r).map VB)) (hl : (c :: r).length ≤ 1000000) : Calls Tryd.prog 26 #[v] w (NextPost w (nextS (c :: r))) := by
  obtain ⟨i, hi, hz, hs1, hby⟩ := b8Info
  obtain ⟨m, hm⟩ : ∃ m, (c :: r).length = m := ⟨_, rfl⟩
  have hlen : (c :: r).length = m := hm
  have hml : ((c :: r).map VB).length = m := by rw [List.length_map, hm]
  have hrm : r.length + 1 = m := hm
  have hm0 : decide ((m : Int) = 0) = false := by simp; omega
  have hcl := c.toNat_lt
  obtain ⟨n, hn⟩ : ∃ n, c.toNat = n := ⟨_, rfl⟩
  have hx : nextS (c :: r) = if r.length < n then none else some (c, r.take n, 1 + n) := by
    unfold nextS; dsimp only; rw [if_neg (by omega), if_neg (by omega), if_neg (by omega), if_pos k1, hn]
  have h80 : decide (B c > 80) = false := by unfold B; simp; omega
  have h76 : decide (B c < 76) = true := by unfold B; simp; omega
  have e76 : decide (B c = 76) = false := by unfold B; simp; omega
  have e77 : decide (B c = 77) = false := by unfold B; simp; omega
  rw [hx]
  by_cases hs : r.length < n
  · rw [if_pos hs]
    have hsh : decide ((m : Int) < ((1 + n : Nat) : Int)) = true := by simp; omega
    clear hx
    go_enter Tryd.func26, Tryd.ntmps26
    go_wp2_with (first
      | ((with_reducible change wpList _ _ _ (Oper.mk (some 13) _ _ _ _ _ :: _) _ _); refine kLenN _ _ _ v _ m rfl rfl rfl hv hml Tryd.underlying22 ?_; go_frame)
      | ((with_reducible change wpList _ _ _ (Oper.mk (some 14) _ _ _ _ _ :: _) _ _); refine kEqlI _ _ _ _ .i64 (m : Int) 0 false rfl rfl rfl rfl hm0 ?_; go_frame)
      | ((with_reducible change wpList _ _ _ (Oper.mk (some 16) _ _ _ _ _ :: _) _ _); refine kIndexAddrV _ _ _ _ .i64 v _ 0 0 (VB c) rfl rfl rfl hv rfl Tryd.underlying22 info_b8P rfl rfl ?_; intro b hb; go_frame)
      | ((with_reducible change wpList _ _ _ (Oper.mk (some 17) _ _ _ _ _ :: _) _ _); refine kLoadCell _ _ b (VB c) _ rfl rfl rfl hb Tryd.underlying5 rfl ?_; clear hb; go_frame)
      | ((with_reducible change wpList _ _ _ (Oper.mk (some 19) _ _ _ _ _ :: _) _ _); refine kGtrI _ _ _ _ .u8 (B c) 80 false rfl rfl rfl rfl h80 ?_; go_frame)
      | ((with_reducible change wpList _ _ _ (Oper.mk (some 29) _ _ _ _ _ :: _) _ _); refine kLssI _ _ _ _ .u8 (B c) 76 true rfl rfl rfl rfl h76 ?_; go_frame)
      | ((with_reducible change wpList _ _ _ (Oper.mk (some 33) _ _ _ _ _ :: _) _ _); refine kEqlI _ _ _ _ .u8 (B c) 76 false rfl rfl rfl rfl e76 ?_; go_frame)
      | ((with_reducible change wpList _ _ _ (Oper.mk (some 36) _ _ _ _ _ :: _) _ _); refine kEqlI _ _ _ _ .u8 (B c) 77 false rfl rfl rfl rfl e77 ?_; go_frame)
      | ((with_reducible change wpList _ _ _ (Oper.mk (some 31) _ _ _ _ _ :: _) _ _); refine kConv8I _ c.toNat hcl rfl rfl rfl ?_; rw [hn]; go_frame)
      | ((with_reducible change wpList _ _ _ (Oper.mk (some 63) _ _ _ _ _ :: _) _ _); refine kLenN _ _ _ v _ m rfl rfl rfl hv hml Tryd.underlying22 ?_; go_frame)
      | ((with_reducible change wpList _ _ _ (Oper.mk (some 66) _ _ _ _ _ :: _) _ _); refine kAddI _ _ _ _ 1 (n : Int) ((1 + n : Nat) : Int) (by omega) rfl rfl rfl rfl ?_; go_frame)
      | ((with_reducible change wpList _ _ _ (Oper.mk (some 67) _ _ _ _ _ :: _) _ _); refine kLssI _ _ _ _ .i64 (m : Int) ((1 + n : Nat) : Int) true rfl rfl rfl rfl hsh ?_; go_frame))
    (try simp only [Exit.inBlock, Exit.then])
    refine ret4 rfl rfl ?_
    exact ⟨rfl, Below.refl _ _⟩
  · rw [if_neg hs]
    have hsh : decide ((m : Int) < ((1 + n : Nat) : Int)) = false := by simp; omega
    obtain ⟨D, hD⟩ : ∃ D, r.take n = D := ⟨_, rfl⟩
    have hdat : ((c :: r).take (1 + n)).drop 1 = D := by rw [Nat.add_comm, List.take_succ_cons, ← hD]; rfl
    have hDl : D.length ≤ 1000000 := by rw [← hD, List.length_take]; simp at hl; omega
    rw [hD]
    clear hx hD
    go_enter Tryd.func26, Tryd.ntmps26
    go_wp2_with (first
      | ((with_reducible change wpList _ _ _ (Oper.mk (some 13) _ _ _ _ _ :: _) _ _); refine kLenN _ _ _ v _ m rfl rfl rfl hv hml Tryd.underlying22 ?_; go_frame)
      | ((with_reducible change wpList _ _ _ (Oper.mk (some 14) _ _ _ _ _ :: _) _ _); refine kEqlI _ _ _ _ .i64 (m : Int) 0 false rfl rfl rfl rfl hm0 ?_; go_frame)
      | ((with_reducible change wpList _ _ _ (Oper.mk (some 16) _ _ _ _ _ :: _) _ _); refine kIndexAddrV _ _ _ _ .i64 v _ 0 0 (VB c) rfl rfl rfl hv rfl Tryd.underlying22 info_b8P rfl rfl ?_; intro b hb; go_frame)
      | ((with_reducible change wpList _ _ _ (Oper.mk (some 17) _ _ _ _ _ :: _) _ _); refine kLoadCell _ _ b (VB c) _ rfl rfl rfl hb Tryd.underlying5 rfl ?_; clear hb; go_frame)
      | ((with_reducible change wpList _ _ _ (Oper.mk (some 19) _ _ _ _ _ :: _) _ _); refine kGtrI _ _ _ _ .u8 (B c) 80 false rfl rfl rfl rfl h80 ?_; go_frame)
      | ((with_reducible change wpList _ _ _ (Oper.mk (some 29) _ _ _ _ _ :: _) _ _); refine kLssI _ _ _ _ .u8 (B c) 76 true rfl rfl rfl rfl h76 ?_; go_frame)
      | ((with_reducible change wpList _ _ _ (Oper.mk (some 33) _ _ _ _ _ :: _) _ _); refine kEqlI _ _ _ _ .u8 (B c) 76 false rfl rfl rfl rfl e76 ?_; go_frame)
      | ((with_reducible change wpList _ _ _ (Oper.mk (some 36) _ _ _ _ _ :: _) _ _); refine kEqlI _ _ _ _ .u8 (B c) 77 false rfl rfl rfl rfl e77 ?_; go_frame)
      | ((with_reducible change wpList _ _ _ (Oper.mk (some 31) _ _ _ _ _ :: _) _ _); refine kConv8I _ c.toNat hcl rfl rfl rfl ?_; rw [hn]; go_frame)
      | ((with_reducible change wpList _ _ _ (Oper.mk (some 63) _ _ _ _ _ :: _) _ _); refine kLenN _ _ _ v _ m rfl rfl rfl hv hml Tryd.underlying22 ?_; go_frame)
      | ((with_reducible change wpList _ _ _ (Oper.mk (some 66) _ _ _ _ _ :: _) _ _); refine kAddI _ _ _ _ 1 (n : Int) ((1 + n : Nat) : Int) (by omega) rfl rfl rfl rfl ?_; go_frame)
      | ((with_reducible change wpList _ _ _ (Oper.mk (some 67) _ _ _ _ _ :: _) _ _); refine kLssI _ _ _ _ .i64 (m : Int) ((1 + n : Nat) : Int) false rfl rfl rfl rfl hsh ?_; go_frame)
      | ((with_reducible change wpList _ _ _ (Oper.mk (some 69) _ _ _ _ _ :: _) _ _); refine kBuildSlice0 _ _ rfl rfl Tryd.underlying22 i hi ?_; intro w2 hR2 hz2 hB2; clear hz2; have hO2 : OwnB w2 w.heap.size _ [] := own_empty (Nat.le_refl _) hR2; clear hR2; have hv2 := hv.below hB2; have hsz2 := hB2.size; go_frame)
      | ((with_reducible change wpList _ _ _ (Oper.mk (some 74) _ _ _ _ _ :: _) _ _); refine kAddI _ _ _ _ 1 (n : Int) ((1 + n : Nat) : Int) (by omega) rfl rfl rfl rfl ?_; go_frame)
      | ((with_reducible change wpList _ _ _ (Oper.mk (some 75) _ _ _ _ _ :: _) _ _); refine kSliceLH _ _ _ v (c :: r) 1 (1 + n) hv2 (by omega) (by rw [hlen]; omega) rfl rfl rfl rfl rfl ?_; intro u hU; rw [hdat] at hU; go_frame)
      | ((with_reducible change wpList _ _ _ (Oper.mk (some 76) _ _ _ _ _ :: _) _ _); refine kAppB _ _ rfl rfl w.heap.size _ _ [] D hO2 hU rfl rfl (by simp; omega) hsz2 ?_; intro v3 w3 hO3 hB3; rw [List.nil_append] at hO3; have hB4 := hB2.trans hB3; clear hO2 hU hB2 hB3 hv2; go_frame)
      | ((with_reducible change wpList _ _ _ (Oper.mk (some 79) _ _ _ _ _ :: _) _ _); refine kAddI _ _ _ _ 1 (n : Int) ((1 + n : Nat) : Int) (by omega) rfl rfl rfl rfl ?_; go_frame))
    (try simp only [Exit.inBlock, Exit.then])
    refine ret4 rfl rfl ?_
    exact ⟨_, rfl, hO3, hB4⟩
set_option maxRecDepth 100000 in
set_option maxHeartbeats 8000000 in
theorem mNext_mid {c : UInt8} {r : List UInt8} {v : Value} (k1 : 77 < c.toNat) (k2 : c.toNat ≤ 80) (w : World) (hv : IsVals w v ((c :: r).map VB)) (hl : (c :: r).length ≤ 1000000) : Calls Tryd.prog 26 #[v] w (NextPost w (nextS (c :: r))) := by
  obtain ⟨i, hi, hz, hs1, hby⟩ := b8Info
  obtain ⟨m, hm⟩ : ∃ m, (c :: r).length = m := ⟨_, rfl⟩
  have hlen : (c :: r).length = m := hm
  have hml : ((c :: r).map VB).length = m := by rw [List.length_map, hm]
  have hrm : r.length + 1 = m := hm
  have hm0 : decide ((m : Int) = 0) = false := by simp; omega
  have hcl := c.toNat_lt
  obtain ⟨n, hn⟩ : ∃ n : Nat, n = 0 := ⟨_, rfl⟩
  rw [show nextS (c :: r) = some (c, [], 1 + n) by unfold nextS; dsimp only; rw [if_neg (by omega), if_neg (by omega), if_neg (by omega), if_neg (by omega), hn]]
  have h80 : decide (B c > 80) = false := by unfold B; simp; omega
  have h76 : decide (B c < 76) = false := by unfold B; simp; omega
  have e76 : decide (B c = 76) = false := by unfold B; simp; omega
  have e77 : decide (B c = 77) = false := by unfold B; simp; omega
  have hsh : decide ((m : Int) < ((1 + n : Nat) : Int)) = false := by simp; omega
  obtain ⟨D, hD⟩ : ∃ D : List UInt8, D = [] := ⟨_, rfl⟩
  have hdat : ((c :: r).take (1 + n)).drop 1 = D := by rw [hn, hD]; rfl
  have hDl : D.length ≤ 1000000 := by rw [hD]; simp
  rw [← hD]
  have hn0 : (0 : Int) = (n : Int) := by omega
  clear hD
  go_enter Tryd.func26, Tryd.ntmps26
  go_wp2_with (first
    | ((with_reducible change wpList _ _ _ (Oper.mk (some 13) _ _ _ _ _ :: _) _ _); refine kLenN _ _ _ v _ m rfl rfl rfl hv hml Tryd.underlying22 ?_; go_frame)
    | ((with_reducible change wpList _ _ _ (Oper.mk (some 14) _ _ _ _ _ :: _) _ _); refine kEqlI _ _ _ _ .i64 (m : Int) 0 false rfl rfl rfl rfl hm0 ?_; go_frame)
    | ((with_reducible change wpList _ _ _ (Oper.mk (some 16) _ _ _ _ _ :: _) _ _); refine kIndexAddrV _ _ _ _ .i64 v _ 0 0 (VB c) rfl rfl rfl hv rfl Tryd.underlying22 info_b8P rfl rfl ?_; intro b hb; go_frame)
    | ((with_reducible change wpList _ _ _ (Oper.mk (some 17) _ _ _ _ _ :: _) _ _); refine kLoadCell _ _ b (VB c) _ rfl rfl rfl hb Tryd.underlying5 rfl ?_; clear hb; go_frame)
    | ((with_reducible change wpList _ _ _ (Oper.mk (some 19) _ _ _ _ _ :: _) _ _); refine kGtrI _ _ _ _ .u8 (B c) 80 false rfl rfl rfl rfl h80 ?_; go_frame)
    | ((with_reducible change wpList _ _ _ (Oper.mk (some 29) _ _ _ _ _ :: _) _ _); refine kLssI _ _ _ _ .u8 (B c) 76 false rfl rfl rfl rfl h76 ?_; go_frame)
    | ((with_reducible change wpList _ _ _ (Oper.mk (some 33) _ _ _ _ _ :: _) _ _); refine kEqlI _ _ _ _ .u8 (B c) 76 false rfl rfl rfl rfl e76 ?_; go_frame)
    | ((with_reducible change wpList _ _ _ (Oper.mk (some 36) _ _ _ _ _ :: _) _ _); refine kEqlI _ _ _ _ .u8 (B c) 77 false rfl rfl rfl rfl e77 ?_; go_frame)
    | ((with_reducible change wpList _ _ _ (Oper.mk (some 63) _ _ _ _ _ :: _) _ _); refine kLenN _ _ _ v _ m rfl rfl rfl hv hml Tryd.underlying22 ?_; go_frame)
    | ((with_reducible change wpList _ _ _ (Oper.mk (some 66) _ _ _ _ _ :: _) _ _); refine kAddI _ _ _ _ 1 0 ((1 + n : Nat) : Int) (by omega) rfl rfl rfl rfl ?_; go_frame)
    | ((with_reducible change wpList _ _ _ (Oper.mk (some 67) _ _ _ _ _ :: _) _ _); refine kLssI _ _ _ _ .i64 (m : Int) ((1 + n : Nat) : Int) false rfl rfl rfl rfl hsh ?_; go_frame)
    | ((with_reducible change wpList _ _ _ (Oper.mk (some 69) _ _ _ _ _ :: _) _ _); refine kBuildSlice0 _ _ rfl rfl Tryd.underlying22 i hi ?_; intro w2 hR2 hz2 hB2; clear hz2; have hO2 : OwnB w2 w.heap.size _ [] := own_empty (Nat.le_refl _) hR2; clear hR2; have hv2 := hv.below hB2; have hsz2 := hB2.size; go_frame)
    | ((with_reducible change wpList _ _ _ (Oper.mk (some 74) _ _ _ _ _ :: _) _ _); refine kAddI _ _ _ _ 1 0 ((1 + n : Nat) : Int) (by omega) rfl rfl rfl rfl ?_; go_frame)
    | ((with_reducible change wpList _ _ _ (Oper.mk (some 75) _ _ _ _ _ :: _) _ _); refine kSliceLH _ _ _ v (c :: r) 1 (1 + n) hv2 (by omega) (by rw [hlen]; omega) rfl rfl rfl rfl rfl ?_; intro u hU; rw [hdat] at hU; go_frame)
    | ((with_reducible change wpList _ _ _ (Oper.mk (some 76) _ _ _ _ _ :: _) _ _); refine kAppB _ _ rfl rfl w.heap.size _ _ [] D hO2 hU rfl rfl (by simp; omega) hsz2 ?_; intro v3 w3 hO3 hB3; rw [List.nil_append] at hO3; have hB4 := hB2.trans hB3; clear hO2 hU hB2 hB3 hv2; go_frame)
    | ((with_reducible change wpList _ _ _ (Oper.mk (some 79) _ _ _ _ _ :: _) _ _); refine kAddI _ _ _ _ 1 0 ((1 + n : Nat) : Int) (by omega) rfl rfl rfl rfl ?_; go_frame))
  (try simp only [Exit.inBlock, Exit.then])
  refine ret4 rfl rfl ?_
  exact ⟨_, rfl, hO3, hB4⟩
set_option maxRecDepth 100000 in
set_option maxHeartbeats 8000000 in
theorem mNext_top {c : UInt8} {r : List UInt8} {v : Value} (k1 : 96 < c.toNat) (w : World) (hv : IsVals w v ((c :: r).map VB)) (hl : (c :: r).length ≤ 1000000) : Calls Tryd.prog 26 #[v] w (NextPost w (nextS (c :: r))) := by
  obtain ⟨i, hi, hz, hs1, hby⟩ := b8Info
  obtain ⟨m, hm⟩ : ∃ m, (c :: r).length = m := ⟨_, rfl⟩
  have hlen : (c :: r).length = m := hm
  have hml : ((c :: r).map VB).length = m := by rw [List.length_map, hm]
  have hrm : r.length + 1 = m := hm
  have hm0 : decide ((m : Int) = 0) = false := by simp; omega
  have hcl := c.toNat_lt
  obtain ⟨n, hn⟩ : ∃ n : Nat, n = 0 := ⟨_, rfl⟩
  rw [show nextS (c :: r) = some (c, [], 1 + n) by unfold nextS; dsimp only; rw [if_neg (by omega), if_neg (by omega), if_neg (by omega), if_neg (by omega), hn]]
  have h80 : decide (B c > 80) = true := by unfold B; simp; omega
  have h97 : decide (B c < 97) = false := by unfold B; simp; omega
  have h76 : decide (B c < 76) = false := by unfold B; simp; omega
  have e76 : decide (B c = 76) = false := by unfold B; simp; omega
  have e77 : decide (B c = 77) = false := by unfold B; simp; omega
  have hsh : decide ((m : Int) < ((1 + n : Nat) : Int)) = false := by simp; omega
  obtain ⟨D, hD⟩ : ∃ D : List UInt8, D = [] := ⟨_, rfl⟩
  have hdat : ((c :: r).take (1 + n)).drop 1 = D := by rw [hn, hD]; rfl
  have hDl : D.length ≤ 1000000 := by rw [hD]; simp
  rw [← hD]
  have hn0 : (0 : Int) = (n : Int) := by omega
  clear hD
  go_enter Tryd.func26, Tryd.ntmps26
  go_wp2_with (first
    | ((with_reducible change wpList _ _ _ (Oper.mk (some 13) _ _ _ _ _ :: _) _ _); refine kLenN _ _ _ v _ m rfl rfl rfl hv hml Tryd.underlying22 ?_; go_frame)
    | ((with_reducible change wpList _ _ _ (Oper.mk (some 14) _ _ _ _ _ :: _) _ _); refine kEqlI _ _ _ _ .i64 (m : Int) 0 false rfl rfl rfl rfl hm0 ?_; go_frame)
    | ((with_reducible change wpList _ _ _ (Oper.mk (some 16) _ _ _ _ _ :: _) _ _); refine kIndexAddrV _ _ _ _ .i64 v _ 0 0 (VB c) rfl rfl rfl hv rfl Tryd.underlying22 info_b8P rfl rfl ?_; intro b hb; go_frame)
    | ((with_reducible change wpList _ _ _ (Oper.mk (some 17) _ _ _ _ _ :: _) _ _); refine kLoadCell _ _ b (VB c) _ rfl rfl rfl hb Tryd.underlying5 rfl ?_; clear hb; go_frame)
    | ((with_reducible change wpList _ _ _ (Oper.mk (some 19) _ _ _ _ _ :: _) _ _); refine kGtrI _ _ _ _ .u8 (B c) 80 true rfl rfl rfl rfl h80 ?_; go_frame)
    | ((with_reducible change wpList _ _ _ (Oper.mk (some 22) _ _ _ _ _ :: _) _ _); refine kLssI _ _ _ _ .u8 (B c) 97 false rfl rfl rfl rfl h97 ?_; go_frame)
    | ((with_reducible change wpList _ _ _ (Oper.mk (some 29) _ _ _ _ _ :: _) _ _); refine kLssI _ _ _ _ .u8 (B c) 76 false rfl rfl rfl rfl h76 ?_; go_frame)
    | ((with_reducible change wpList _ _ _ (Oper.mk (some 33) _ _ _ _ _ :: _) _ _); refine kEqlI _ _ _ _ .u8 (B c) 76 false rfl rfl rfl rfl e76 ?_; go_frame)
    | ((with_reducible change wpList _ _ _ (Oper.mk (some 36) _ _ _ _ _ :: _) _ _); refine kEqlI _ _ _ _ .u8 (B c) 77 false rfl rfl rfl rfl e77 ?_; go_frame)
    | ((with_reducible change wpList _ _ _ (Oper.mk (some 63) _ _ _ _ _ :: _) _ _); refine kLenN _ _ _ v _ m rfl rfl rfl hv hml Tryd.underlying22 ?_; go_frame)
    | ((with_reducible change wpList _ _ _ (Oper.mk (some 66) _ _ _ _ _ :: _) _ _); refine kAddI _ _ _ _ 1 0 ((1 + n : Nat) : Int) (by omega) rfl rfl rfl rfl ?_; go_frame)
    | ((with_reducible change wpList _ _ _ (Oper.mk (some 67) _ _ _ _ _ :: _) _ _); refine kLssI _ _ _ _ .i64 (m : Int) ((1 + n : Nat) : Int) false rfl rfl rfl rfl hsh ?_; go_frame)
    | ((with_reducible change wpList _ _ _ (Oper.mk (some 69) _ _ _ _ _ :: _) _ _); refine kBuildSlice0 _ _ rfl rfl Tryd.underlying22 i hi ?_; intro w2 hR2 hz2 hB2; clear hz2; have hO2 : OwnB w2 w.heap.size _ [] := own_empty (Nat.le_refl _) hR2; clear hR2; have hv2 := hv.below hB2; have hsz2 := hB2.size; go_frame)
    | ((with_reducible change wpList _ _ _ (Oper.mk (some 74) _ _ _ _ _ :: _) _ _); refine kAddI _ _ _ _ 1 0 ((1 + n : Nat) : Int) (by omega) rfl rfl rfl rfl ?_; go_frame)
    | ((with_reducible change wpList _ _ _ (Oper.mk (some 75) _ _ _ _ _ :: _) _ _); refine kSliceLH _ _ _ v (c :: r) 1 (1 + n) hv2 (by omega) (by rw [hlen]; omega) rfl rfl rfl rfl rfl ?_; intro u hU; rw [hdat] at hU; go_frame)
    | ((with_reducible change wpList _ _ _ (Oper.mk (some 76) _ _ _ _ _ :: _) _ _); refine kAppB _ _ rfl rfl w.heap.size _ _ [] D hO2 hU rfl rfl (by simp; omega) hsz2 ?_; intro v3 w3 hO3 hB3; rw [List.nil_append] at hO3; have hB4 := hB2.trans hB3; clear hO2 hU hB2 hB3 hv2; go_frame)
    | ((with_reducible change wpList _ _ _ (Oper.mk (some 79) _ _ _ _ _ :: _) _ _); refine kAddI _ _ _ _ 1 0 ((1 + n : Nat) : Int) (by omega) rfl rfl rfl rfl ?_; go_frame))
  (try simp only [Exit.inBlock, Exit.then])
  refine ret4 rfl rfl ?_
  exact ⟨_, rfl, hO3, hB4⟩
set_option maxRecDepth 100000 in
set_option maxHeartbeats 8000000 in
theorem mNext_76s {c : UInt8} {r : List UInt8} {v : Value} (hc : c = 76) (hr : r.length < 1) (w : World) (hv : IsVals w v ((c :: r).map VB)) (hl : (c :: r).length ≤ 1000000) : Calls Tryd.prog 26 #[v] w (NextPost w (nextS (c :: r))) := by
  obtain ⟨i, hi, hz, hs1, hby⟩ := b8Info
  obtain ⟨m, hm⟩ : ∃ m, (c :: r).length = m := ⟨_, rfl⟩
  have hlen : (c :: r).length = m := hm
  have hml : ((c :: r).map VB).length = m := by rw [List.length_map, hm]
  have hrm : r.length + 1 = m := hm
  have hm0 : decide ((m : Int) = 0) = false := by simp; omega
  have hcl := c.toNat_lt
  have hx : nextS (c :: r) = none := by
    rw [hc]; unfold nextS; dsimp only
    match r, hr with
    | [], _ => rfl
  rw [hx]
  have h80 : decide (B c > 80) = false := by rw [hc]; decide
  have h76 : decide (B c < 76) = false := by rw [hc]; decide
  have e76 : decide (B c = 76) = true := by rw [hc]; decide
  have e77 : decide (B c = 77) = false := by rw [hc]; decide
  have h44 : decide ((m : Int) < 2) = true := by simp; omega
  clear hx
  subst hc
  go_enter Tryd.func26, Tryd.ntmps26
  go_wp2_with (first
    | ((with_reducible change wpList _ _ _ (Oper.mk (some 13) _ _ _ _ _ :: _) _ _); refine kLenN _ _ _ v _ m rfl rfl rfl hv hml Tryd.underlying22 ?_; go_frame)
    | ((with_reducible change wpList _ _ _ (Oper.mk (some 14) _ _ _ _ _ :: _) _ _); refine kEqlI _ _ _ _ .i64 (m : Int) 0 false rfl rfl rfl rfl hm0 ?_; go_frame)
    | ((with_reducible change wpList _ _ _ (Oper.mk (some 16) _ _ _ _ _ :: _) _ _); refine kIndexAddrV _ _ _ _ .i64 v _ 0 0 (VB 76) rfl rfl rfl hv rfl Tryd.underlying22 info_b8P rfl rfl ?_; intro b hb; go_frame)
    | ((with_reducible change wpList _ _ _ (Oper.mk (some 17) _ _ _ _ _ :: _) _ _); refine kLoadCell _ _ b (VB 76) _ rfl rfl rfl hb Tryd.underlying5 rfl ?_; clear hb; go_frame)
    | ((with_reducible change wpList _ _ _ (Oper.mk (some 19) _ _ _ _ _ :: _) _ _); refine kGtrI _ _ _ _ .u8 (B 76) 80 false rfl rfl rfl rfl h80 ?_; go_frame)
    | ((with_reducible change wpList _ _ _ (Oper.mk (some 29) _ _ _ _ _ :: _) _ _); refine kLssI _ _ _ _ .u8 (B 76) 76 false rfl rfl rfl rfl h76 ?_; go_frame)
    | ((with_reducible change wpList _ _ _ (Oper.mk (some 33) _ _ _ _ _ :: _) _ _); refine kEqlI _ _ _ _ .u8 (B 76) 76 true rfl rfl rfl rfl e76 ?_; go_frame)
    | ((with_reducible change wpList _ _ _ (Oper.mk (some 39) _ _ _ _ _ :: _) _ _); refine kConv8I _ 76 (by decide) rfl rfl rfl ?_; go_frame)
    | ((with_reducible change wpList _ _ _ (Oper.mk (some 40) _ _ _ _ _ :: _) _ _); refine kSubJ _ _ _ _ 76 74 2 (by decide) rfl rfl rfl rfl ?_; go_frame)
    | ((with_reducible change wpList _ _ _ (Oper.mk (some 42) _ _ _ _ _ :: _) _ _); refine kLenN _ _ _ v _ m rfl rfl rfl hv hml Tryd.underlying22 ?_; go_frame)
    | ((with_reducible change wpList _ _ _ (Oper.mk (some 44) _ _ _ _ _ :: _) _ _); refine kLssI _ _ _ _ .i64 (m : Int) 2 true rfl rfl rfl rfl h44 ?_; go_frame))
  (try simp only [Exit.inBlock, Exit.then])
  refine ret4 rfl rfl ?_
  exact ⟨rfl, Below.refl _ _⟩
set_option maxRecDepth 100000 in
set_option maxHeartbeats 8000000 in
theorem mNext_76 {c x : UInt8} {t : List UInt8} {v : Value} (hc : c = 76) (w : World) (hv : IsVals w v ((c :: x :: t).map VB)) (hl : (c :: x :: t).length ≤ 1000000) : Calls Tryd.prog 26 #[v] w (NextPost w (nextS (c :: x :: t))) := by
  obtain ⟨i, hi, hz, hs1, hby⟩ := b8Info
  obtain ⟨m, hm⟩ : ∃ m, (c :: x :: t).length = m := ⟨_, rfl⟩
  have hlen : (c :: x :: t).length = m := hm
  have hml : ((c :: x :: t).map VB).length = m := by rw [List.length_map, hm]
  have hrm : t.length + 2 = m := hm
  have hm0 : decide ((m : Int) = 0) = false := by simp; omega
  have hcl := c.toNat_lt
  obtain ⟨n, hn⟩ : ∃ n, x.toNat = n := ⟨_, rfl⟩
  have hxl := x.toNat_lt
  have hx : nextS (c :: x :: t) = if t.length < n then none else some (c, t.take n, 2 + n) := by
    rw [hc]; unfold nextS; dsimp only
    rw [if_neg (by decide), if_pos (by decide), hn]
  have h80 : decide (B c > 80) = false := by rw [hc]; decide
  have h76 : decide (B c < 76) = false := by rw [hc]; decide
  have e76 : decide (B c = 76) = true := by rw [hc]; decide
  have e77 : decide (B c = 77) = false := by rw [hc]; decide
  have h44 : decide ((m : Int) < 2) = false := by simp; omega
  have hT : (((c :: x :: t).take 2).drop 1) = [x] := rfl
  have hnum : numL [x] = n := by rw [← hn]; simp [numL]
  rw [hx]
  clear hx
  subst hc
  obtain ⟨R, hR⟩ : ∃ R, (if t.length < n then none else some ((76 : UInt8), t.take n, 2 + n)) = R := ⟨_, rfl⟩
  rw [hR]
  go_enter Tryd.func26, Tryd.ntmps26
  go_wp2_with (first
    | ((with_reducible change wpList _ _ _ (Oper.mk (some 13) _ _ _ _ _ :: _) _ _); refine kLenN _ _ _ v _ m rfl rfl rfl hv hml Tryd.underlying22 ?_; go_frame)
    | ((with_reducible change wpList _ _ _ (Oper.mk (some 14) _ _ _ _ _ :: _) _ _); refine kEqlI _ _ _ _ .i64 (m : Int) 0 false rfl rfl rfl rfl hm0 ?_; go_frame)
    | ((with_reducible change wpList _ _ _ (Oper.mk (some 16) _ _ _ _ _ :: _) _ _); refine kIndexAddrV _ _ _ _ .i64 v _ 0 0 (VB 76) rfl rfl rfl hv rfl Tryd.underlying22 info_b8P rfl rfl ?_; intro b hb; go_frame)
    | ((with_reducible change wpList _ _ _ (Oper.mk (some 17) _ _ _ _ _ :: _) _ _); refine kLoadCell _ _ b (VB 76) _ rfl rfl rfl hb Tryd.underlying5 rfl ?_; clear hb; go_frame)
    | ((with_reducible change wpList _ _ _ (Oper.mk (some 19) _ _ _ _ _ :: _) _ _); refine kGtrI _ _ _ _ .u8 (B 76) 80 false rfl rfl rfl rfl h80 ?_; go_frame)
    | ((with_reducible change wpList _ _ _ (Oper.mk (some 29) _ _ _ _ _ :: _) _ _); refine kLssI _ _ _ _ .u8 (B 76) 76 false rfl rfl rfl rfl h76 ?_; go_frame)
    | ((with_reducible change wpList _ _ _ (Oper.mk (some 33) _ _ _ _ _ :: _) _ _); refine kEqlI _ _ _ _ .u8 (B 76) 76 true rfl rfl rfl rfl e76 ?_; go_frame)
    | ((with_reducible change wpList _ _ _ (Oper.mk (some 39) _ _ _ _ _ :: _) _ _); refine kConv8I _ 76 (by decide) rfl rfl rfl ?_; go_frame)
    | ((with_reducible change wpList _ _ _ (Oper.mk (some 40) _ _ _ _ _ :: _) _ _); refine kSubJ _ _ _ _ 76 74 2 (by decide) rfl rfl rfl rfl ?_; go_frame)
    | ((with_reducible change wpList _ _ _ (Oper.mk (some 42) _ _ _ _ _ :: _) _ _); refine kLenN _ _ _ v _ m rfl rfl rfl hv hml Tryd.underlying22 ?_; go_frame)
    | ((with_reducible change wpList _ _ _ (Oper.mk (some 44) _ _ _ _ _ :: _) _ _); refine kLssI _ _ _ _ .i64 (m : Int) 2 false rfl rfl rfl rfl h44 ?_; go_frame)
    | ((with_reducible change wpList _ _ _ (Oper.mk (some 47) _ _ _ _ _ :: _) _ _); refine kSliceLH _ _ _ v (76 :: x :: t) 1 2 hv (by decide) (by rw [hlen]; omega) rfl rfl rfl rfl rfl ?_; intro q hQ; rw [hT] at hQ; go_frame)
    | ((with_reducible change wpList _ _ _ (Oper.mk (some 48) _ _ _ _ _ :: _) _ _); refine kLenN _ _ _ q _ 1 rfl rfl rfl hQ rfl Tryd.underlying22 ?_; go_frame))
  go_loopw [49, 8, 9] (fun i s g wr => ∃ k : Nat, k ≤ 1 ∧ i = .int .i64 k ∧ s = .int .i64 ((numL ([x].take k) : Nat) : Int) ∧ g = .int .i64 ((256 ^ k : Nat) : Int) ∧ wr = w) (fun i _ _ _ => 1 - (intOf i).toNat)
  case atStart => exact ⟨0, by omega, rfl, rfl, rfl, rfl⟩
  case round =>
    obtain ⟨k, hk, rfl, rfl, rfl, rfl⟩ := hrel
    by_cases hlt : k < 1
    · have hd2 : decide ((k : Int) < 1) = true := by simp; omega
      have hkl : k < [x].length := hlt
      have hnt := numL_take [x] k hkl
      obtain ⟨b, hb⟩ : ∃ b, [x][k] = b := ⟨_, rfl⟩
      have hcell : ([x].map VB)[k]? = some (VB b) := by rw [List.getElem?_map, List.getElem?_eq_getElem hkl, hb]; rfl
      rw [hb] at hnt
      have hbl := b.toNat_lt
      have hp : 256 ^ k ≤ 256 := by have h1 : k = 0 ∨ k = 1 := (by omega); rcases h1 with rfl | rfl <;> decide
      have hp2 : 256 ^ k * 256 = 256 ^ (k + 1) := (Nat.pow_succ ..).symm
      have hnl : numL ([x].take k) < 65536 := by
        have h1 := numL_lt ([x].take k)
        have h2 : 256 ^ ([x].take k).length ≤ 256 ^ 2 := Nat.pow_le_pow_right (by decide) (by rw [List.length_take]; exact Nat.le_trans (Nat.min_le_right _ _) (by simp))
        have e : (256 : Nat) ^ 2 = 65536 := by decide
        omega
      obtain ⟨p, hpe⟩ : ∃ p, 256 ^ k = p := ⟨_, rfl⟩
      obtain ⟨p2, hpe2⟩ : ∃ p2, 256 ^ (k + 1) = p2 := ⟨_, rfl⟩
      obtain ⟨n0, hn0⟩ : ∃ n0, numL ([x].take k) = n0 := ⟨_, rfl⟩
      obtain ⟨n1, hn1⟩ : ∃ n1, numL ([x].take (k + 1)) = n1 := ⟨_, rfl⟩
      obtain ⟨bp, hbp⟩ : ∃ bp, b.toNat * p = bp := ⟨_, rfl⟩
      rw [hpe] at hnt hp hp2 ⊢
      rw [hpe2] at hp2
      rw [hn0] at hnt hnl ⊢
      rw [hn1, hbp] at hnt
      have hbpl : bp ≤ 255 * 256 := by rw [← hbp]; exact Nat.mul_le_mul (by omega) hp
      go_wp2_with (first
        | ((with_reducible change wpList _ _ _ (Oper.mk (some 50) _ _ _ _ _ :: _) _ _); refine kLssI _ _ _ _ .i64 (k : Int) 1 true rfl rfl rfl rfl hd2 ?_; go_frame)
        | ((with_reducible change wpList _ _ _ (Oper.mk (some 51) _ _ _ _ _ :: _) _ _); refine kIndexAddrV _ _ _ _ .i64 q _ (k : Int) k (VB b) rfl rfl rfl hQ rfl Tryd.underlying22 info_b8P rfl hcell ?_; intro ad had; go_frame)
        | ((with_reducible change wpList _ _ _ (Oper.mk (some 52) _ _ _ _ _ :: _) _ _); refine kLoadCell _ _ ad (VB b) _ rfl rfl rfl had Tryd.underlying5 rfl ?_; clear had; go_frame)
        | ((with_reducible change wpList _ _ _ (Oper.mk (some 55) _ _ _ _ _ :: _) _ _); refine kConv8I _ b.toNat hbl rfl rfl rfl ?_; go_frame)
        | ((with_reducible change wpList _ _ _ (Oper.mk (some 57) _ _ _ _ _ :: _) _ _); refine kMulI64 _ _ _ _ b.toNat p bp ⟨hbp, by omega⟩ rfl rfl rfl rfl ?_; go_frame)
        | ((with_reducible change wpList _ _ _ (Oper.mk (some 58) _ _ _ _ _ :: _) _ _); refine kAddI _ _ _ _ (n0 : Int) (bp : Int) (n1 : Int) (by omega) rfl rfl rfl rfl ?_; go_frame)
        | ((with_reducible change wpList _ _ _ (Oper.mk (some 60) _ _ _ _ _ :: _) _ _); refine kMulI64 _ _ _ _ p 256 p2 ⟨hp2, by omega⟩ rfl rfl rfl rfl ?_; go_frame)
        | ((with_reducible change wpList _ _ _ (Oper.mk (some 61) _ _ _ _ _ :: _) _ _); refine kAddI _ _ _ _ (k : Int) 1 ((k + 1 : Nat) : Int) (by omega) rfl rfl rfl rfl ?_; go_frame))
      go_roundw
      case rel => exact ⟨k + 1, by omega, rfl, by rw [hn1], by rw [hpe2], trivial⟩
      case measure => simp [intOf]; omega
    · have hd2 : decide ((k : Int) < 1) = false := by simp; omega
      have hk1 : numL ([x].take k) = n := by rw [List.take_of_length_le (by show [x].length ≤ k; simp; omega)]; exact hnum
      rw [hk1]
      by_cases hs : t.length < n
      · rw [if_pos hs] at hR
        have hsh : decide ((m : Int) < ((2 + n : Nat) : Int)) = true := by simp; omega
        go_wp2_with (first
          | ((with_reducible change wpList _ _ _ (Oper.mk (some 50) _ _ _ _ _ :: _) _ _); refine kLssI _ _ _ _ .i64 (k : Int) 1 false rfl rfl rfl rfl hd2 ?_; go_frame)
          | ((with_reducible change wpList _ _ _ (Oper.mk (some 63) _ _ _ _ _ :: _) _ _); refine kLenN _ _ _ v _ m rfl rfl rfl hv hml Tryd.underlying22 ?_; go_frame)
          | ((with_reducible change wpList _ _ _ (Oper.mk (some 66) _ _ _ _ _ :: _) _ _); refine kAddI _ _ _ _ 2 (n : Int) ((2 + n : Nat) : Int) (by omega) rfl rfl rfl rfl ?_; go_frame)
          | ((with_reducible change wpList _ _ _ (Oper.mk (some 67) _ _ _ _ _ :: _) _ _); refine kLssI _ _ _ _ .i64 (m : Int) ((2 + n : Nat) : Int) true rfl rfl rfl rfl hsh ?_; go_frame))
        (try simp only [Exit.inBlock, Exit.then])
        refine ret4 rfl rfl ?_
        rw [← hR]
        exact ⟨rfl, Below.refl _ _⟩
      · rw [if_neg hs] at hR
        have hsh : decide ((m : Int) < ((2 + n : Nat) : Int)) = false := by simp; omega
        obtain ⟨D, hD⟩ : ∃ D, t.take n = D := ⟨_, rfl⟩
        have hdat : (((76 :: x :: t) : List UInt8).take (2 + n)).drop 2 = D := by rw [Nat.add_comm, ← hD]; rfl
        have hDl : D.length ≤ 1000000 := by rw [← hD, List.length_take]; simp at hl; omega
        rw [hD] at hR
        clear hD
        go_wp2_with (first
          | ((with_reducible change wpList _ _ _ (Oper.mk (some 50) _ _ _ _ _ :: _) _ _); refine kLssI _ _ _ _ .i64 (k : Int) 1 false rfl rfl rfl rfl hd2 ?_; go_frame)
          | ((with_reducible change wpList _ _ _ (Oper.mk (some 63) _ _ _ _ _ :: _) _ _); refine kLenN _ _ _ v _ m rfl rfl rfl hv hml Tryd.underlying22 ?_; go_frame)
          | ((with_reducible change wpList _ _ _ (Oper.mk (some 66) _ _ _ _ _ :: _) _ _); refine kAddI _ _ _ _ 2 (n : Int) ((2 + n : Nat) : Int) (by omega) rfl rfl rfl rfl ?_; go_frame)
          | ((with_reducible change wpList _ _ _ (Oper.mk (some 67) _ _ _ _ _ :: _) _ _); refine kLssI _ _ _ _ .i64 (m : Int) ((2 + n : Nat) : Int) false rfl rfl rfl rfl hsh ?_; go_frame)
          | ((with_reducible change wpList _ _ _ (Oper.mk (some 69) _ _ _ _ _ :: _) _ _); refine kBuildSlice0 _ _ rfl rfl Tryd.underlying22 i hi ?_; intro w2 hR2 hz2 hB2; clear hz2; have hO2 : OwnB w2 wr.heap.size _ [] := own_empty (Nat.le_refl _) hR2; clear hR2; have hv2 := hv.below hB2; have hsz2 := hB2.size; go_frame)
          | ((with_reducible change wpList _ _ _ (Oper.mk (some 74) _ _ _ _ _ :: _) _ _); refine kAddI _ _ _ _ 2 (n : Int) ((2 + n : Nat) : Int) (by omega) rfl rfl rfl rfl ?_; go_frame)
          | ((with_reducible change wpList _ _ _ (Oper.mk (some 75) _ _ _ _ _ :: _) _ _); refine kSliceLH _ _ _ v (76 :: x :: t) 2 (2 + n) hv2 (by omega) (by rw [hlen]; omega) rfl rfl rfl rfl rfl ?_; intro u hU; rw [hdat] at hU; go_frame)
          | ((with_reducible change wpList _ _ _ (Oper.mk (some 76) _ _ _ _ _ :: _) _ _); refine kAppB _ _ rfl rfl wr.heap.size _ _ [] D hO2 hU rfl rfl (by simp; omega) hsz2 ?_; intro v3 w3 hO3 hB3; rw [List.nil_append] at hO3; have hB4 := hB2.trans hB3; clear hO2 hU hB2 hB3 hv2; go_frame)
          | ((with_reducible change wpList _ _ _ (Oper.mk (some 79) _ _ _ _ _ :: _) _ _); refine kAddI _ _ _ _ 2 (n : Int) ((2 + n : Nat) : Int) (by omega) rfl rfl rfl rfl ?_; go_frame))
        (try simp only [Exit.inBlock, Exit.then])
        refine ret4 rfl rfl ?_
        rw [← hR]
        exact ⟨_, rfl, hO3, hB4⟩
set_option maxRecDepth 100000 in
set_option maxHeartbeats 8000000 in
theorem mNext_77s {c : UInt8} {r : List UInt8} {v : Value} (hc : c = 77) (hr : r.length < 2) (w : World) (hv : IsVals w v ((c :: r).map VB)) (hl : (c :: r).length ≤ 1000000) : Calls Tryd.prog 26 #[v] w (NextPost w (nextS (c :: r))) := by
  obtain ⟨i, hi, hz, hs1, hby⟩ := b8Info
  obtain ⟨m, hm⟩ : ∃ m, (c :: r).length = m := ⟨_, rfl⟩
  have hlen : (c :: r).length = m := hm
  have hml : ((c :: r).map VB).length = m := by rw [List.length_map, hm]
  have hrm : r.length + 1 = m := hm
  have hm0 : decide ((m : Int) = 0) = false := by simp; omega
  have hcl := c.toNat_lt
  have hx : nextS (c :: r) = none := by
    rw [hc]; unfold nextS; dsimp only
    match r, hr with
    | [], _ => rfl
    | [x], _ => rfl
  rw [hx]
  have h80 : decide (B c > 80) = false := by rw [hc]; decide
  have h76 : decide (B c < 76) = false := by rw [hc]; decide
  have e76 : decide (B c = 76) = false := by rw [hc]; decide
  have e77 : decide (B c = 77) = true := by rw [hc]; decide
  have h44 : decide ((m : Int) < 3) = true := by simp; omega
  clear hx
  subst hc
  go_enter Tryd.func26, Tryd.ntmps26
  go_wp2_with (first
    | ((with_reducible change wpList _ _ _ (Oper.mk (some 13) _ _ _ _ _ :: _) _ _); refine kLenN _ _ _ v _ m rfl rfl rfl hv hml Tryd.underlying22 ?_; go_frame)
    | ((with_reducible change wpList _ _ _ (Oper.mk (some 14) _ _ _ _ _ :: _) _ _); refine kEqlI _ _ _ _ .i64 (m : Int) 0 false rfl rfl rfl rfl hm0 ?_; go_frame)
    | ((with_reducible change wpList _ _ _ (Oper.mk (some 16) _ _ _ _ _ :: _) _ _); refine kIndexAddrV _ _ _ _ .i64 v _ 0 0 (VB 77) rfl rfl rfl hv rfl Tryd.underlying22 info_b8P rfl rfl ?_; intro b hb; go_frame)
    | ((with_reducible change wpList _ _ _ (Oper.mk (some 17) _ _ _ _ _ :: _) _ _); refine kLoadCell _ _ b (VB 77) _ rfl rfl rfl hb Tryd.underlying5 rfl ?_; clear hb; go_frame)
    | ((with_reducible change wpList _ _ _ (Oper.mk (some 19) _ _ _ _ _ :: _) _ _); refine kGtrI _ _ _ _ .u8 (B 77) 80 false rfl rfl rfl rfl h80 ?_; go_frame)
    | ((with_reducible change wpList _ _ _ (Oper.mk (some 29) _ _ _ _ _ :: _) _ _); refine kLssI _ _ _ _ .u8 (B 77) 76 false rfl rfl rfl rfl h76 ?_; go_frame)
    | ((with_reducible change wpList _ _ _ (Oper.mk (some 33) _ _ _ _ _ :: _) _ _); refine kEqlI _ _ _ _ .u8 (B 77) 76 false rfl rfl rfl rfl e76 ?_; go_frame)
    | ((with_reducible change wpList _ _ _ (Oper.mk (some 36) _ _ _ _ _ :: _) _ _); refine kEqlI _ _ _ _ .u8 (B 77) 77 true rfl rfl rfl rfl e77 ?_; go_frame)
    | ((with_reducible change wpList _ _ _ (Oper.mk (some 39) _ _ _ _ _ :: _) _ _); refine kConv8I _ 77 (by decide) rfl rfl rfl ?_; go_frame)
    | ((with_reducible change wpList _ _ _ (Oper.mk (some 40) _ _ _ _ _ :: _) _ _); refine kSubJ _ _ _ _ 77 74 3 (by decide) rfl rfl rfl rfl ?_; go_frame)
    | ((with_reducible change wpList _ _ _ (Oper.mk (some 42) _ _ _ _ _ :: _) _ _); refine kLenN _ _ _ v _ m rfl rfl rfl hv hml Tryd.underlying22 ?_; go_frame)
    | ((with_reducible change wpList _ _ _ (Oper.mk (some 44) _ _ _ _ _ :: _) _ _); refine kLssI _ _ _ _ .i64 (m : Int) 3 true rfl rfl rfl rfl h44 ?_; go_frame))
  (try simp only [Exit.inBlock, Exit.then])
  refine ret4 rfl rfl ?_
  exact ⟨rfl, Below.refl _ _⟩
set_option maxRecDepth 100000 in
set_option maxHeartbeats 8000000 in
theorem mNext_77 {c x y : UInt8} {t : List UInt8} {v : Value} (hc : c = 77) (w : World) (hv : IsVals w v ((c :: x :: y :: t).map VB)) (hl : (c :: x :: y :: t).length ≤ 1000000) : Calls Tryd.prog 26 #[v] w (NextPost w (nextS (c :: x :: y :: t))) := by
  obtain ⟨i, hi, hz, hs1, hby⟩ := b8Info
  obtain ⟨m, hm⟩ : ∃ m, (c :: x :: y :: t).length = m := ⟨_, rfl⟩
  have hlen : (c :: x :: y :: t).length = m := hm
  have hml : ((c :: x :: y :: t).map VB).length = m := by rw [List.length_map, hm]
  have hrm : t.length + 3 = m := hm
  have hm0 : decide ((m : Int) = 0) = false := by simp; omega
  have hcl := c.toNat_lt
  obtain ⟨n, hn⟩ : ∃ n, x.toNat + 256 * y.toNat = n := ⟨_, rfl⟩
  have hxl := x.toNat_lt
  have hyl := y.toNat_lt
  have hx : nextS (c :: x :: y :: t) = if t.length < n then none else some (c, t.take n, 3 + n) := by
    rw [hc]; unfold nextS; dsimp only
    rw [if_neg (by decide), if_neg (by decide), if_pos (by decide), hn]
  have h80 : decide (B c > 80) = false := by rw [hc]; decide
  have h76 : decide (B c < 76) = false := by rw [hc]; decide
  have e76 : decide (B c = 76) = false := by rw [hc]; decide
  have e77 : decide (B c = 77) = true := by rw [hc]; decide
  have h44 : decide ((m : Int) < 3) = false := by simp; omega
  have hT : (((c :: x :: y :: t).take 3).drop 1) = [x, y] := rfl
  have hnum : numL [x, y] = n := by rw [← hn]; simp [numL]
  rw [hx]
  clear hx
  subst hc
  obtain ⟨R, hR⟩ : ∃ R, (if t.length < n then none else some ((77 : UInt8), t.take n, 3 + n)) = R := ⟨_, rfl⟩
  rw [hR]
  go_enter Tryd.func26, Tryd.ntmps26
  go_wp2_with (first
    | ((with_reducible change wpList _ _ _ (Oper.mk (some 13) _ _ _ _ _ :: _) _ _); refine kLenN _ _ _ v _ m rfl rfl rfl hv hml Tryd.underlying22 ?_; go_frame)
    | ((with_reducible change wpList _ _ _ (Oper.mk (some 14) _ _ _ _ _ :: _) _ _); refine kEqlI _ _ _ _ .i64 (m : Int) 0 false rfl rfl rfl rfl hm0 ?_; go_frame)
    | ((with_reducible change wpList _ _ _ (Oper.mk (some 16) _ _ _ _ _ :: _) _ _); refine kIndexAddrV _ _ _ _ .i64 v _ 0 0 (VB 77) rfl rfl rfl hv rfl Tryd.underlying22 info_b8P rfl rfl ?_; intro b hb; go_frame)
    | ((with_reducible change wpList _ _ _ (Oper.mk (some 17) _ _ _ _ _ :: _) _ _); refine kLoadCell _ _ b (VB 77) _ rfl rfl rfl hb Tryd.underlying5 rfl ?_; clear hb; go_frame)
    | ((with_reducible change wpList _ _ _ (Oper.mk (some 19) _ _ _ _ _ :: _) _ _); refine kGtrI _ _ _ _ .u8 (B 77) 80 false rfl rfl rfl rfl h80 ?_; go_frame)
    | ((with_reducible change wpList _ _ _ (Oper.mk (some 29) _ _ _ _ _ :: _) _ _); refine kLssI _ _ _ _ .u8 (B 77) 76 false rfl rfl rfl rfl h76 ?_; go_frame)
    | ((with_reducible change wpList _ _ _ (Oper.mk (some 33) _ _ _ _ _ :: _) _ _); refine kEqlI _ _ _ _ .u8 (B 77) 76 false rfl rfl rfl rfl e76 ?_; go_frame)
    | ((with_reducible change wpList _ _ _ (Oper.mk (some 36) _ _ _ _ _ :: _) _ _); refine kEqlI _ _ _ _ .u8 (B 77) 77 true rfl rfl rfl rfl e77 ?_; go_frame)
    | ((with_reducible change wpList _ _ _ (Oper.mk (some 39) _ _ _ _ _ :: _) _ _); refine kConv8I _ 77 (by decide) rfl rfl rfl ?_; go_frame)
    | ((with_reducible change wpList _ _ _ (Oper.mk (some 40) _ _ _ _ _ :: _) _ _); refine kSubJ _ _ _ _ 77 74 3 (by decide) rfl rfl rfl rfl ?_; go_frame)
    | ((with_reducible change wpList _ _ _ (Oper.mk (some 42) _ _ _ _ _ :: _) _ _); refine kLenN _ _ _ v _ m rfl rfl rfl hv hml Tryd.underlying22 ?_; go_frame)
    | ((with_reducible change wpList _ _ _ (Oper.mk (some 44) _ _ _ _ _ :: _) _ _); refine kLssI _ _ _ _ .i64 (m : Int) 3 false rfl rfl rfl rfl h44 ?_; go_frame)
    | ((with_reducible change wpList _ _ _ (Oper.mk (some 47) _ _ _ _ _ :: _) _ _); refine kSliceLH _ _ _ v (77 :: x :: y :: t) 1 3 hv (by decide) (by rw [hlen]; omega) rfl rfl rfl rfl rfl ?_; intro q hQ; rw [hT] at hQ; go_frame)
    | ((with_reducible change wpList _ _ _ (Oper.mk (some 48) _ _ _ _ _ :: _) _ _); refine kLenN _ _ _ q _ 2 rfl rfl rfl hQ rfl Tryd.underlying22 ?_; go_frame))
  go_loopw [49, 8, 9] (fun i s g wr => ∃ k : Nat, k ≤ 2 ∧ i = .int .i64 k ∧ s = .int .i64 ((numL ([x, y].take k) : Nat) : Int) ∧ g = .int .i64 ((256 ^ k : Nat) : Int) ∧ wr = w) (fun i _ _ _ => 2 - (intOf i).toNat)
  case atStart => exact ⟨0, by omega, rfl, rfl, rfl, rfl⟩
  case round =>
    obtain ⟨k, hk, rfl, rfl, rfl, rfl⟩ := hrel
    by_cases hlt : k < 2
    · have hd2 : decide ((k : Int) < 2) = true := by simp; omega
      have hkl : k < [x, y].length := hlt
      have hnt := numL_take [x, y] k hkl
      obtain ⟨b, hb⟩ : ∃ b, [x, y][k] = b := ⟨_, rfl⟩
      have hcell : ([x, y].map VB)[k]? = some (VB b) := by rw [List.getElem?_map, List.getElem?_eq_getElem hkl, hb]; rfl
      rw [hb] at hnt
      have hbl := b.toNat_lt
      have hp : 256 ^ k ≤ 256 := by have h1 : k = 0 ∨ k = 1 := (by omega); rcases h1 with rfl | rfl <;> decide
      have hp2 : 256 ^ k * 256 = 256 ^ (k + 1) := (Nat.pow_succ ..).symm
      have hnl : numL ([x, y].take k) < 65536 := by
        have h1 := numL_lt ([x, y].take k)
        have h2 : 256 ^ ([x, y].take k).length ≤ 256 ^ 2 := Nat.pow_le_pow_right (by decide) (by rw [List.length_take]; exact Nat.le_trans (Nat.min_le_right _ _) (by simp))
        have e : (256 : Nat) ^ 2 = 65536 := by decide
        omega
      obtain ⟨p, hpe⟩ : ∃ p, 256 ^ k = p := ⟨_, rfl⟩
      obtain ⟨p2, hpe2⟩ : ∃ p2, 256 ^ (k + 1) = p2 := ⟨_, rfl⟩
      obtain ⟨n0, hn0⟩ : ∃ n0, numL ([x, y].take k) = n0 := ⟨_, rfl⟩
      obtain ⟨n1, hn1⟩ : ∃ n1, numL ([x, y].take (k + 1)) = n1 := ⟨_, rfl⟩
      obtain ⟨bp, hbp⟩ : ∃ bp, b.toNat * p = bp := ⟨_, rfl⟩
      rw [hpe] at hnt hp hp2 ⊢
      rw [hpe2] at hp2
      rw [hn0] at hnt hnl ⊢
      rw [hn1, hbp] at hnt
      have hbpl : bp ≤ 255 * 256 := by rw [← hbp]; exact Nat.mul_le_mul (by omega) hp
      go_wp2_with (first
        | ((with_reducible change wpList _ _ _ (Oper.mk (some 50) _ _ _ _ _ :: _) _ _); refine kLssI _ _ _ _ .i64 (k : Int) 2 true rfl rfl rfl rfl hd2 ?_; go_frame)
        | ((with_reducible change wpList _ _ _ (Oper.mk (some 51) _ _ _ _ _ :: _) _ _); refine kIndexAddrV _ _ _ _ .i64 q _ (k : Int) k (VB b) rfl rfl rfl hQ rfl Tryd.underlying22 info_b8P rfl hcell ?_; intro ad had; go_frame)
        | ((with_reducible change wpList _ _ _ (Oper.mk (some 52) _ _ _ _ _ :: _) _ _); refine kLoadCell _ _ ad (VB b) _ rfl rfl rfl had Tryd.underlying5 rfl ?_; clear had; go_frame)
        | ((with_reducible change wpList _ _ _ (Oper.mk (some 55) _ _ _ _ _ :: _) _ _); refine kConv8I _ b.toNat hbl rfl rfl rfl ?_; go_frame)
        | ((with_reducible change wpList _ _ _ (Oper.mk (some 57) _ _ _ _ _ :: _) _ _); refine kMulI64 _ _ _ _ b.toNat p bp ⟨hbp, by omega⟩ rfl rfl rfl rfl ?_; go_frame)
        | ((with_reducible change wpList _ _ _ (Oper.mk (some 58) _ _ _ _ _ :: _) _ _); refine kAddI _ _ _ _ (n0 : Int) (bp : Int) (n1 : Int) (by omega) rfl rfl rfl rfl ?_; go_frame)
        | ((with_reducible change wpList _ _ _ (Oper.mk (some 60) _ _ _ _ _ :: _) _ _); refine kMulI64 _ _ _ _ p 256 p2 ⟨hp2, by omega⟩ rfl rfl rfl rfl ?_; go_frame)
        | ((with_reducible change wpList _ _ _ (Oper.mk (some 61) _ _ _ _ _ :: _) _ _); refine kAddI _ _ _ _ (k : Int) 1 ((k + 1 : Nat) : Int) (by omega) rfl rfl rfl rfl ?_; go_frame))
      go_roundw
      case rel => exact ⟨k + 1, by omega, rfl, by rw [hn1], by rw [hpe2], trivial⟩
      case measure => simp [intOf]; omega
    · have hd2 : decide ((k : Int) < 2) = false := by simp; omega
      have hk1 : numL ([x, y].take k) = n := by rw [List.take_of_length_le (by show [x, y].length ≤ k; simp; omega)]; exact hnum
      rw [hk1]
      by_cases hs : t.length < n
      · rw [if_pos hs] at hR
        have hsh : decide ((m : Int) < ((3 + n : Nat) : Int)) = true := by simp; omega
        go_wp2_with (first
          | ((with_reducible change wpList _ _ _ (Oper.mk (some 50) _ _ _ _ _ :: _) _ _); refine kLssI _ _ _ _ .i64 (k : Int) 2 false rfl rfl rfl rfl hd2 ?_; go_frame)
          | ((with_reducible change wpList _ _ _ (Oper.mk (some 63) _ _ _ _ _ :: _) _ _); refine kLenN _ _ _ v _ m rfl rfl rfl hv hml Tryd.underlying22 ?_; go_frame)
          | ((with_reducible change wpList _ _ _ (Oper.mk (some 66) _ _ _ _ _ :: _) _ _); refine kAddI _ _ _ _ 3 (n : Int) ((3 + n : Nat) : Int) (by omega) rfl rfl rfl rfl ?_; go_frame)
          | ((with_reducible change wpList _ _ _ (Oper.mk (some 67) _ _ _ _ _ :: _) _ _); refine kLssI _ _ _ _ .i64 (m : Int) ((3 + n : Nat) : Int) true rfl rfl rfl rfl hsh ?_; go_frame))
        (try simp only [Exit.inBlock, Exit.then])
        refine ret4 rfl rfl ?_
        rw [← hR]
        exact ⟨rfl, Below.refl _ _⟩
      · rw [if_neg hs] at hR
        have hsh : decide ((m : Int) < ((3 + n : Nat) : Int)) = false := by simp; omega
        obtain ⟨D, hD⟩ : ∃ D, t.take n = D := ⟨_, rfl⟩
        have hdat : (((77 :: x :: y :: t) : List UInt8).take (3 + n)).drop 3 = D := by rw [Nat.add_comm, ← hD]; rfl
        have hDl : D.length ≤ 1000000 := by rw [← hD, List.length_take]; simp at hl; omega
        rw [hD] at hR
        clear hD
        go_wp2_with (first
          | ((with_reducible change wpList _ _ _ (Oper.mk (some 50) _ _ _ _ _ :: _) _ _); refine kLssI _ _ _ _ .i64 (k : Int) 2 false rfl rfl rfl rfl hd2 ?_; go_frame)
          | ((with_reducible change wpList _ _ _ (Oper.mk (some 63) _ _ _ _ _ :: _) _ _); refine kLenN _ _ _ v _ m rfl rfl rfl hv hml Tryd.underlying22 ?_; go_frame)
          | ((with_reducible change wpList _ _ _ (Oper.mk (some 66) _ _ _ _ _ :: _) _ _); refine kAddI _ _ _ _ 3 (n : Int) ((3 + n : Nat) : Int) (by omega) rfl rfl rfl rfl ?_; go_frame)
          | ((with_reducible change wpList _ _ _ (Oper.mk (some 67) _ _ _ _ _ :: _) _ _); refine kLssI _ _ _ _ .i64 (m : Int) ((3 + n : Nat) : Int) false rfl rfl rfl rfl hsh ?_; go_frame)
          | ((with_reducible change wpList _ _ _ (Oper.mk (some 69) _ _ _ _ _ :: _) _ _); refine kBuildSlice0 _ _ rfl rfl Tryd.underlying22 i hi ?_; intro w2 hR2 hz2 hB2; clear hz2; have hO2 : OwnB w2 wr.heap.size _ [] := own_empty (Nat.le_refl _) hR2; clear hR2; have hv2 := hv.below hB2; have hsz2 := hB2.size; go_frame)
          | ((with_reducible change wpList _ _ _ (Oper.mk (some 74) _ _ _ _ _ :: _) _ _); refine kAddI _ _ _ _ 3 (n : Int) ((3 + n : Nat) : Int) (by omega) rfl rfl rfl rfl ?_; go_frame)
          | ((with_reducible change wpList _ _ _ (Oper.mk (some 75) _ _ _ _ _ :: _) _ _); refine kSliceLH _ _ _ v (77 :: x :: y :: t) 3 (3 + n) hv2 (by omega) (by rw [hlen]; omega) rfl rfl rfl rfl rfl ?_; intro u hU; rw [hdat] at hU; go_frame)
          | ((with_reducible change wpList _ _ _ (Oper.mk (some 76) _ _ _ _ _ :: _) _ _); refine kAppB _ _ rfl rfl wr.heap.size _ _ [] D hO2 hU rfl rfl (by simp; omega) hsz2 ?_; intro v3 w3 hO3 hB3; rw [List.nil_append] at hO3; have hB4 := hB2.trans hB3; clear hO2 hU hB2 hB3 hv2; go_frame)
          | ((with_reducible change wpList _ _ _ (Oper.mk (some 79) _ _ _ _ _ :: _) _ _); refine kAddI _ _ _ _ 3 (n : Int) ((3 + n : Nat) : Int) (by omega) rfl rfl rfl rfl ?_; go_frame))
        (try simp only [Exit.inBlock, Exit.then])
        refine ret4 rfl rfl ?_
        rw [← hR]
        exact ⟨_, rfl, hO3, hB4⟩
theorem mNext_any {b : List UInt8} {v : Value} (w : World) (hv : IsVals w v (b.map VB)) (hl : b.length ≤ 1000000) : Calls Tryd.prog 26 #[v] w (NextPost w (nextS b)) := by
  match b, hv, hl with
  | [], hv, _ => exact mNext_nil w hv
  | c :: r, hv, hl =>
    by_cases h1 : 80 < c.toNat
    · by_cases h2 : c.toNat < 97
      · exact mNext_small h1 h2 w hv hl
      · exact mNext_top (by omega) w hv hl
    · by_cases h3 : c.toNat < 76
      · exact mNext_few h3 w hv hl
      · by_cases h4 : c.toNat = 76
        · have hc : c = 76 := UInt8.toNat_inj.1 h4
          match r, hv, hl with
          | [], hv, hl => exact mNext_76s hc (by simp) w hv hl
          | x :: t, hv, hl => exact mNext_76 hc w hv hl
        · by_cases h5 : c.toNat = 77
          · have hc : c = 77 := UInt8.toNat_inj.1 h5
            match r, hv, hl with
            | [], hv, hl => exact mNext_77s hc (by simp) w hv hl
            | [x], hv, hl => exact mNext_77s hc (by simp) w hv hl
            | x :: y :: t, hv, hl => exact mNext_77 hc w hv hl
          · exact mNext_mid (by omega) (by omega) w hv hl
end Go.Proofs.YtnaclalbeocpkaaDoor
