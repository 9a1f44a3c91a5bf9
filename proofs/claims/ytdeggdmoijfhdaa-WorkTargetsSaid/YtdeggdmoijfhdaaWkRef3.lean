/-
  Layer 12: the reference: a number's bytes, the highest first, and a number in four bytes.
-/
import Derived.Test.YtdeggdmoijfhdaaWkRef2
import Derived.Test.YtdeggdmoijfhdaaPcAll
namespace Go.Proofs.Ytdeggdmoijfhdaa
open Go Go.RowKit

/-- a number's bytes, the highest first -/
def bytesL (n : Nat) : List UInt8 := (beL n).map UInt8.ofNat
theorem bytesL_zero : bytesL 0 = [] := by unfold bytesL; rw [beL_zero]; rfl
theorem bytesL_len (n : Nat) : (bytesL n).length = byteN n := by unfold bytesL; rw [List.length_map, beL_len]
theorem bytesL_more {x c : Nat} (hc : c < 256) (h : ¬ (x = 0 ∧ c = 0)) : bytesL (256 * x + c) = bytesL x ++ [UInt8.ofNat c] := by
  unfold bytesL; rw [beL_add hc, if_neg h, List.map_append]; rfl
theorem vb_ofN {c : Nat} (hc : c < 256) : VB (UInt8.ofNat c) = .int .u8 (c : Int) := by
  show Value.int .u8 (((UInt8.ofNat c).toNat : Nat) : Int) = _
  rw [UInt8.toNat_ofNat']; congr 2; omega
theorem bytesL_at {n k : Nat} (h : k < byteN n) : ((bytesL n).map VB)[k]? = some (.int .u8 ((n / 256 ^ (byteN n - 1 - k) % 256 : Nat) : Int)) := by
  unfold bytesL
  rw [List.getElem?_map, List.getElem?_map, beL_at n k h]
  show some (VB (UInt8.ofNat _)) = _
  rw [vb_ofN (Nat.mod_lt _ (by decide))]
theorem byteN_mono {m n : Nat} (h : m ≤ n) : byteN m ≤ byteN n := (byteN_le m _).2 (Nat.lt_of_le_of_lt h (byteN_lt n))
theorem byteN_dval {l : List Nat} (h : Digs l) : byteN (dval l) ≤ 2 * l.length := by
  refine (byteN_le _ _).2 ?_
  have := dval_lt h
  unfold P16 at this
  rw [Nat.pow_mul]; exact this
theorem byteN_zero_iff {n : Nat} : byteN n = 0 ↔ n = 0 := ⟨fun h => by rcases Nat.eq_zero_or_pos n with h0 | h0; exact h0; have := byteN_pos h0; omega, fun h => by rw [h]; exact byteN_zero⟩
theorem preN_le (n k : Nat) : 256 * preN n k ≤ preN n (k + 1) := by rw [preN_step]; omega
theorem own_notNew {w : World} {b g : Nat} {v : Value} {l : List UInt8} (h : OwnB w b v l) (hg : w.heap.size ≤ g) : v.ownBlock ≠ some g := by
  rcases h.2 with ⟨rfl, -⟩ | ⟨g', cap, cur, rfl, -, hr, -⟩
  · simp [Value.ownBlock]
  · intro e
    simp only [Value.ownBlock, Option.some.injEq] at e
    have := (Array.getElem?_eq_some_iff.1 hr).1
    omega
section
variable {ops : Array Oper} {o : Oper} {a : Act} {S : World → Prop} {Q : Exit → Act → World → Prop} {rest : List Oper} {w : World}
theorem yIndexK (T E : TypeId) (x y : Operand) (b : Addr) (n c j : Nat) (ht : Try.prog.underlying T = some (.slice E)) (hs : (Try.prog.info? E).map (·.size) = some 1) (hj : j < n) (ho : o.op = .indexAddr T x y) (hg : Region.wanted o (yielded ops a.tmps) = true) (hx : a.eval x = .slice (some b) n c) (hy : a.eval y = .int .i64 (j : Int)) : YieldsIf Try.prog ops S o (.pointer (some (b.add j))) a :=
  yOf hg fun w _ => by
    have hrun : (Instr.indexAt T (.slice (some b) n c) (.int .i64 (j : Int))).run Try.prog w = .ok (.pointer (some (b.add j))) w := by
      cases hq : Try.prog.info? E with
      | none => simp [hq] at hs
      | some t =>
        have hs' : t.size = 1 := by simpa [hq] using hs
        have hc : (0 : Int) ≤ (j : Int) ∧ (j : Int) < (n : Int) := by omega
        simp [Instr.indexAt, asIntOf, run_underlying ht, hc, sizeOf, typeInfo, hq, hs']
        intro hle; omega
    unfold execOp
    simp only [ho, hx, hy, Sem.run_bind, hrun, Result.andThen_ok, Sem.run_pure]
theorem yLoadK (T : TypeId) (x : Operand) (b : Addr) (v : Value) (d : TypeDesc) (hr : ∀ w, S w → w.cell? b = some v) (hu : Try.prog.underlying T = some d) (hd : aggDesc d = false) (ho : o.op = .load T x) (hg : Region.wanted o (yielded ops a.tmps) = true) (hx : a.eval x = .pointer (some b)) : YieldsIf Try.prog ops S o v a :=
  yOf hg fun w hS => by
    have hl : (loadVar T b).run Try.prog w = .ok v w := by simp [loadVar, Sem.run_bind, run_isAgg hu, hd, load, Sem.run, hr w hS]
    unfold execOp
    simp only [ho, hx, Instr.loadAt, Instr.sureAddr, Sem.run_bind, Sem.run_pure, Result.andThen_ok, hl]
theorem yLenK (T : TypeId) (x : Operand) (E : TypeId) (ao : Option Addr) (n c : Nat) (ht : Try.prog.underlying T = some (.slice E)) (ho : o.op = .call { callee := .builtin .len, args := #[x], argTypes := #[T] }) (hg : Region.wanted o (yielded ops a.tmps) = true) (hx : a.eval x = .slice ao n c) : YieldsIf Try.prog ops S o (.int .i64 (n : Int)) a :=
  yOf hg fun w hS => by
    unfold execOp
    simp [ho, hx, resolve, invoke, builtin, Builtin.len_, run_underlying ht, goInt]
theorem kAppGw (s x : Operand) (base : Nat) (v y : Value) (xs news : List UInt8) (hown : OwnB w base v xs) (hy : IsVals w y (news.map VB)) (hlen : xs.length + news.length ≤ 1000000000) (hbase : base ≤ w.heap.size) (ho : o.op = .call { callee := .builtin .append, args := #[s, x], argTypes := #[76, 76] }) (hg : o.guard = none) (hs : a.eval s = v) (hx : a.eval x = y)
    (h : ∀ v' w', OwnB w' base v' (xs ++ news) → Below base w w' → w.grownBy w' v.ownBlock → wpList Try.prog ops Q rest (a.put o.dst v') w') : wpList Try.prog ops Q (o :: rest) a w := by
  obtain ⟨i, hi, hz, hsize, hby⟩ := b8Info
  refine kAppend s x _ _ ho hg base i _ Try.underlying76 hi hz hsize rfl v y (xs.map VB) (news.map VB) hs hown hx hy (vbs_one _) (by simp [maxLen]; omega) (by rw [hby]; simp; omega) hbase fun v' w' h1 h2 => ?_
  rw [← List.map_append] at h1
  exact h v' w' h1 (below_grown hown h2 hbase) h2
end
theorem vals_one8 {c g : Nat} {w : World} (hc : c < 256) (h : Row w g 5 #[.int .u8 (c : Int)]) : IsVals w (.slice (some ⟨g, 0, none⟩) 1 1) ([UInt8.ofNat c].map VB) := by
  rw [List.map_cons, List.map_nil, vb_ofN hc]; exact isVals_lit (l := [.int .u8 (c : Int)]) h
theorem info_u64W : (Try.prog.info? 22).map (·.size) = some 1 := by kernel_rfl
set_option maxRecDepth 100000 in
set_option maxHeartbeats 16000000 in
theorem qBytes_num {v : Value} {n k : Nat} (w : World) (h : Num w v n k) (hk : k ≤ 1000) : Calls Try.prog 44 #[v] w (fun e w' => ∃ u, e = .returned u ∧ OwnB w' w.heap.size u (bytesL n) ∧ Below w.heap.size w w') := by
  obtain ⟨i8, hi8, hz8, hs8, hby8⟩ := b8Info
  obtain ⟨l, dl, hv0, rfl, hlk⟩ := h
  have hbn := byteN_dval dl
  obtain ⟨ao, c, rfl, hc, hn, hj⟩ := id hv0
  obtain ⟨N, HN⟩ : ∃ N, l.length = N := ⟨_, rfl⟩
  have hv : IsVals w (.slice ao N c) (l.map VU) := by rw [← HN, ← List.length_map VU]; exact hv0
  rw [List.length_map, HN]
  clear hv0 hc hn
  go_enter Try.func44, Try.ntmps44
  go_wp2_with (first
    | ((with_reducible change wpList _ _ _ (Oper.mk (some 7) _ _ _ _ _ :: _) _ _); refine kBuildSlice0 _ _ rfl rfl Try.underlying76 i8 hi8 ?_; intro w1 hR1 hzz hB1; clear hzz; have hO1 : OwnB w1 w.heap.size _ [] := own_empty (Nat.le_refl _) hR1; clear hR1; go_frame)
    | ((with_reducible change wpList _ _ _ (Oper.mk (some 9) _ _ _ _ _ :: _) _ _); refine kLenN _ _ _ _ _ N rfl rfl rfl (hv.below hB1) (by rw [List.length_map, HN]) Try.underlying35 ?_; go_frame)
    | ((with_reducible change wpList _ _ _ (Oper.mk (some 10) _ _ _ _ _ :: _) _ _); refine kYw (ySubZ _ _ _ _ (N : Int) 1 ((N : Int) - 1) (by omega) rfl rfl rfl rfl) ?_; go_frame))
  go_loopw [4, 3] (fun i u wr => ∃ (j : Nat) (z : Int), j ≤ N ∧ Hid (z = (j : Int) - 1) ∧ i = .int .i64 z ∧ OwnB wr w.heap.size u (bytesL (dval (l.drop j))) ∧ Below w.heap.size w wr) (fun i _ _ => (intOf i + 1).toNat)
  case atStart => exact ⟨N, _, Nat.le_refl _, Lib.hid rfl, rfl, by rw [List.drop_of_length_le (by omega), show dval [] = 0 from rfl, bytesL_zero]; exact hO1, hB1⟩
  case round =>
    obtain ⟨j, z, hjN, Hz, rfl, hO, hB⟩ := hrel
    clear hO1 hB1
    have hz := Hz.out
    by_cases h0 : j = 0
    · subst h0
      have hd : decide (z ≥ 0) = false := by simp; omega
      go_wp2_with (first
        | ((with_reducible change wpList _ _ _ (Oper.mk (some 12) _ _ _ _ _ :: _) _ _); refine kYw (yGeqK _ _ _ _ .i64 z 0 false hd rfl rfl rfl rfl) ?_; go_frame))
      go_ret
      exact ⟨_, rfl, hO, hB⟩
    · obtain ⟨p, rfl⟩ : ∃ p, j = p + 1 := ⟨j - 1, by omega⟩
      obtain rfl : z = (p : Int) := by omega
      clear hz Hz
      have hd : decide ((p : Int) ≥ 0) = true := by simp
      have hx := dat_lt dl p
      have hD := dval_drop l p
      have hle : dval (l.drop p) ≤ dval l := by rw [← dval_div dl]; exact Nat.div_le_self _ _
      obtain ⟨x, Hx⟩ : ∃ v_ : Nat, Hid (dat l p = v_) := ⟨_, Lib.hid rfl⟩
      obtain ⟨D, HD⟩ : ∃ v_ : Nat, Hid (dval (l.drop (p + 1)) = v_) := ⟨_, Lib.hid rfl⟩
      obtain ⟨D2, HD2⟩ : ∃ v_ : Nat, Hid (dval (l.drop p) = v_) := ⟨_, Lib.hid rfl⟩
      obtain ⟨hh, Hhh⟩ : ∃ v_ : Nat, Hid (x / 256 = v_) := ⟨_, Lib.hid rfl⟩
      obtain ⟨lo, Hlo⟩ : ∃ v_ : Nat, Hid (x % 256 = v_) := ⟨_, Lib.hid rfl⟩
      rw [Hx.out, HD.out, HD2.out] at hD
      rw [HD2.out] at hle
      rw [HD.out] at hO
      rw [Hx.out] at hx
      have hhl : hh < 256 := by have := Hhh.out; omega
      have hll : lo < 256 := by rw [← Hlo.out]; exact Nat.mod_lt _ (by decide)
      have hsum : D2 = 256 * (256 * D + hh) + lo := by have := Hhh.out; have := Hlo.out; omega
      have f19 : Hid (x / 256 = hh ∧ 0 < 256 ∧ IntKind.u64.wrap (x / 256 : Nat) = (x / 256 : Nat)) := Lib.hid ⟨Hhh.out, by decide, wrap_u64N (by omega)⟩
      have f20 : Hid (IntKind.u8.wrap (hh : Int) = (hh : Int)) := Lib.hid (by rw [IntKind.wrap_u8]; omega)
      have f25 : Hid (x % 256 = lo ∧ 0 < 256) := Lib.hid ⟨Hlo.out, by decide⟩
      have f26 : Hid (IntKind.u8.wrap (lo : Int) = (lo : Int)) := Lib.hid (by rw [IntKind.wrap_u8]; omega)
      have hat : (l.map VU)[p]? = some (VU x) := by rw [List.getElem?_map, dat_at (by omega), Hx.out]; rfl
      obtain ⟨b, rfl, hcell0⟩ := hj p _ hat
      have hcell := (hB.cell (block_lt_of_cell hcell0)).trans hcell0
      have hpN : p < N := by omega
      have hbD : byteN D2 ≤ 2000 := by have := byteN_mono hle; omega
      replace hle := Lib.hid hle
      replace hsum := Lib.hid hsum
      clear hcell0 hat hD hx Hx HD Hhh Hlo
      go_wp2_with (first
        | ((with_reducible change wpList _ _ _ (Oper.mk (some 12) _ _ _ _ _ :: _) _ _); refine kYw (yGeqK _ _ _ _ .i64 (p : Int) 0 true hd rfl rfl rfl rfl) ?_; go_frame))
      refine region_mixD [(0, true), (1, true), (2, true), (3, true), (4, true), (5, true), (6, true), (7, true), (8, true), (9, true), (10, true), (11, true), (14, true), (12, false), (13, true)] (fun q => q.cell? (b.add p) = some (VU x)) (by kernel_rfl) (by kernel_rfl) rfl ?_
      intro z hBd hsd; clear hsd
      simp only [List.map_cons, List.map_nil]
      dsimp only [List.filterMap, List.getElem?_cons_zero, List.getElem?_cons_succ]
      have hS : z.cell? (b.add p) = some (VU x) := (hBd.cell (block_lt_of_cell hcell)).trans hcell
      have hBz := hB.trans (hBd.mono hB.size)
      have hOz := hO.below hBd
      clear hB hO hBd hcell
      refine dY _ hS (yMove _ (.slice (some b) N c) rfl rfl rfl) ?_; go_frame
      refine dY _ hS (yMove _ (.int .i64 (p : Int)) rfl rfl rfl) ?_; go_frame
      refine dY _ hS (yIndexK _ _ _ _ b N c p Try.underlying35 info_u64W hpN rfl rfl rfl rfl) ?_; go_frame
      refine dY _ hS (yLoadK _ _ _ (VU x) _ (fun _ h => h) Try.underlying22 rfl rfl rfl rfl) ?_; go_frame
      refine dY _ hS (yQuoN .u64 _ _ _ _ x 256 hh f19.out rfl rfl rfl rfl) ?_; go_frame
      refine dY _ hS (yConvK Try.underlying22 Try.underlying5 _ (hh : Int) (hh : Int) f20.out rfl rfl rfl) ?_; go_frame
      refine dY _ hS (yMove _ (.slice (some b) N c) rfl rfl rfl) ?_; go_frame
      refine dY _ hS (yMove _ (.int .i64 (p : Int)) rfl rfl rfl) ?_; go_frame
      refine dY _ hS (yIndexK _ _ _ _ b N c p Try.underlying35 info_u64W hpN rfl rfl rfl rfl) ?_; go_frame
      refine dY _ hS (yLoadK _ _ _ (VU x) _ (fun _ h => h) Try.underlying22 rfl rfl rfl rfl) ?_; go_frame
      refine dY _ hS (yRemN .u64 _ _ _ _ x 256 lo f25.out rfl rfl rfl rfl) ?_; go_frame
      refine dY _ hS (yConvK Try.underlying22 Try.underlying5 _ (lo : Int) (lo : Int) f26.out rfl rfl rfl) ?_; go_frame
      refine dY _ hS (yMove _ (.int .i64 0) rfl rfl rfl) ?_; go_frame
      refine dLoud ?_
      refine kBuildSlice2 _ _ _ _ (.int .u8 (hh : Int)) (.int .u8 (lo : Int)) rfl rfl Try.underlying76 i8 _ hi8 hz8 hs8 rfl rfl rfl rfl ?_
      intro w2 hR2 hzz hB2; clear hzz
      have hS2 : w2.cell? (b.add p) = some (VU x) := (hB2.cell (block_lt_of_cell hS)).trans hS
      obtain ⟨gB, HgB⟩ : ∃ v_, z.heap.size = v_ := ⟨_, rfl⟩
      have hne0 := own_notNew hOz (Nat.le_of_eq HgB)
      rw [HgB] at hR2
      have hBw := hBz.trans (hB2.mono hBz.size)
      have hO2 := hOz.below hB2
      rw [HgB]
      clear hBz hOz hB2 HgB hS
      refine mixOn ⟨_, (fun _ h => h), hS2, ?_⟩
      go_frame
      refine dY _ hS2 (yLenK _ _ _ (some ⟨gB, 0, none⟩) 2 2 Try.underlying76 rfl rfl rfl) ?_; go_frame
      refine dDone ?_
      clear hS2
      obtain ⟨wo, hwo⟩ : ∃ wo : World, wo = wr := ⟨_, rfl⟩
      subst hwo
      go_wp2
      go_loopw [29, 3] (fun i u wq => ∃ k t : Nat, k ≤ 2 ∧ Hid (t = if k = 0 then D else if k = 1 then 256 * D + hh else 256 * (256 * D + hh) + lo) ∧ i = .int .i64 (k : Int) ∧ OwnB wq w.heap.size u (bytesL t) ∧ Below w.heap.size w wq ∧ (k < 2 → Row wq gB 5 #[.int .u8 (hh : Int), .int .u8 (lo : Int)]) ∧ (k = 0 → u.ownBlock ≠ some gB)) (fun i _ _ => 2 - (intOf i).toNat)
      case atStart => exact ⟨0, D, by omega, Lib.hid rfl, rfl, hO2, hBw, fun _ => hR2, fun _ => hne0⟩
      case round =>
        obtain ⟨k, t, hk2, Ht, rfl, hO, hB, hR, hne⟩ := hrel
        clear hO2 hBw hR2 hne0
        by_cases hlt : k < 2
        · have hd30 : decide ((k : Int) < 2) = true := by simp; omega
          have hR := hR hlt
          obtain ⟨c1, Hc1⟩ : ∃ c1, Hid (c1 = if k = 0 then hh else lo) := ⟨_, Lib.hid rfl⟩
          obtain ⟨t1, Ht1⟩ : ∃ t1, Hid (t1 = 256 * t + c1) := ⟨_, Lib.hid rfl⟩
          have hc1 : c1 < 256 := by rw [Hc1.out]; split <;> assumption
          have hV : IsVals wr (.slice (some ⟨gB, 0, none⟩) 2 2) [.int .u8 (hh : Int), .int .u8 (lo : Int)] := isVals_lit (l := [.int .u8 (hh : Int), .int .u8 (lo : Int)]) hR
          have hatk : [Value.int .u8 (hh : Int), .int .u8 (lo : Int)][k]? = some (.int .u8 (c1 : Int)) := by
            have := Hc1.out
            match k, hlt with
            | 0, _ => simp at this; simp [this]
            | 1, _ => simp at this; simp [this]
          have ht1 : Hid (t1 = if k + 1 = 0 then D else if k + 1 = 1 then 256 * D + hh else 256 * (256 * D + hh) + lo) := Lib.hid (by
            have h1 := Ht1.out; have h2 := Hc1.out; have h3 := Ht.out
            match k, hlt with
            | 0, _ => simp at h2 h3 ⊢; omega
            | 1, _ => simp at h2 h3 ⊢; omega)
          have htle : t ≤ D2 := by
            have h3 := Ht.out; have := hsum.out
            match k, hlt with
            | 0, _ => simp at h3; omega
            | 1, _ => simp at h3; omega
          have hbt := byteN_mono htle
          have hlb := bytesL_len t
          have hgBlt := hR.lt
          obtain ⟨Lb, HLb⟩ : ∃ v_ : Nat, Hid (byteN t = v_) := ⟨_, Lib.hid rfl⟩
          rw [HLb.out] at hbt hlb
          clear Ht Hc1 htle
          by_cases hpos : 0 < t
          · have d35 : decide ((Lb : Int) > 0) = true := by have := HLb.out; have := byteN_pos hpos; simp; omega
            go_wp2_with (first
              | ((with_reducible change wpList _ _ _ (Oper.mk (some 30) _ _ _ _ _ :: _) _ _); refine kYw (yLssK _ _ _ _ .i64 (k : Int) 2 true hd30 rfl rfl rfl rfl) ?_; go_frame)
              | ((with_reducible change wpList _ _ _ (Oper.mk (some 31) _ _ _ _ _ :: _) _ _); refine kIndexAddrV _ _ _ _ .i64 _ _ (k : Int) k (.int .u8 (c1 : Int)) rfl rfl rfl hV rfl Try.underlying76 info_b8P rfl hatk ?_; intro ba hba; go_frame)
              | ((with_reducible change wpList _ _ _ (Oper.mk (some 32) _ _ _ _ _ :: _) _ _); refine kLoadCell _ _ _ _ _ rfl rfl rfl hba Try.underlying5 rfl ?_; clear hba; go_frame)
              | ((with_reducible change wpList _ _ _ (Oper.mk (some 34) _ _ _ _ _ :: _) _ _); refine kLenN _ _ _ _ _ Lb rfl rfl rfl hO.vals (by rw [List.length_map, hlb]) Try.underlying76 ?_; go_frame)
              | ((with_reducible change wpList _ _ _ (Oper.mk (some 35) _ _ _ _ _ :: _) _ _); refine kYw (yGtrK _ _ _ _ .i64 (Lb : Int) 0 true d35 rfl rfl rfl rfl) ?_; go_frame)
              | ((with_reducible change wpList _ _ _ (Oper.mk (some 42) _ _ _ _ _ :: _) _ _); refine kBuildSlice1 _ _ _ (.int .u8 (c1 : Int)) rfl rfl Try.underlying76 i8 _ hi8 hz8 hs8 rfl rfl ?_; intro w5 hR5 hzz hB5; clear hzz; have hV5 := vals_one8 hc1 hR5; have hO5 := hO.below hB5; have hB6 := hB.trans (hB5.mono hB.size); have hR6 := hR.below hB5 hgBlt; clear hO hB hR hR5 hB5 hV; go_frame)
              | ((with_reducible change wpList _ _ _ (Oper.mk (some 43) _ _ _ _ _ :: _) _ _); refine kAppGw _ _ w.heap.size _ _ (bytesL t) [UInt8.ofNat c1] hO5 hV5 (by rw [hlb]; simp; omega) hB6.size rfl rfl rfl rfl ?_; intro v6 w6 hO6 hBq hgr; have hB7 := hB6.trans hBq; clear hO5 hV5 hBq; go_frame)
              | ((with_reducible change wpList _ _ _ (Oper.mk (some 44) _ _ _ _ _ :: _) _ _); refine kYw (yAddZ _ _ _ _ (k : Int) 1 ((k + 1 : Nat) : Int) (by omega) rfl rfl rfl rfl) ?_; go_frame))
            have hO7 : OwnB w6 w.heap.size v6 (bytesL t1) := by rw [Ht1.out, bytesL_more hc1 (by omega)]; exact hO6
            go_roundw
            case rel => exact ⟨k + 1, t1, by omega, ht1, rfl, hO7, hB7, fun h => (hgr.block gB hR6.lt (fun e => hne (by omega) e.symm)).trans hR6, fun h => absurd h (by omega)⟩
            case measure => simp [intOf]; omega
          have ht0 : t = 0 := by omega
          have d35 : decide ((Lb : Int) > 0) = false := by have := HLb.out; have := byteN_zero_iff.2 ht0; simp; omega
          by_cases hcp : 0 < c1
          · have d38 : decide ((c1 : Int) > 0) = true := by simp; omega
            go_wp2_with (first
              | ((with_reducible change wpList _ _ _ (Oper.mk (some 30) _ _ _ _ _ :: _) _ _); refine kYw (yLssK _ _ _ _ .i64 (k : Int) 2 true hd30 rfl rfl rfl rfl) ?_; go_frame)
              | ((with_reducible change wpList _ _ _ (Oper.mk (some 31) _ _ _ _ _ :: _) _ _); refine kIndexAddrV _ _ _ _ .i64 _ _ (k : Int) k (.int .u8 (c1 : Int)) rfl rfl rfl hV rfl Try.underlying76 info_b8P rfl hatk ?_; intro ba hba; go_frame)
              | ((with_reducible change wpList _ _ _ (Oper.mk (some 32) _ _ _ _ _ :: _) _ _); refine kLoadCell _ _ _ _ _ rfl rfl rfl hba Try.underlying5 rfl ?_; clear hba; go_frame)
              | ((with_reducible change wpList _ _ _ (Oper.mk (some 34) _ _ _ _ _ :: _) _ _); refine kLenN _ _ _ _ _ Lb rfl rfl rfl hO.vals (by rw [List.length_map, hlb]) Try.underlying76 ?_; go_frame)
              | ((with_reducible change wpList _ _ _ (Oper.mk (some 35) _ _ _ _ _ :: _) _ _); refine kYw (yGtrK _ _ _ _ .i64 (Lb : Int) 0 false d35 rfl rfl rfl rfl) ?_; go_frame)
              | ((with_reducible change wpList _ _ _ (Oper.mk (some 38) _ _ _ _ _ :: _) _ _); refine kYw (yGtrK _ _ _ _ .u8 (c1 : Int) 0 true d38 rfl rfl rfl rfl) ?_; go_frame)
              | ((with_reducible change wpList _ _ _ (Oper.mk (some 42) _ _ _ _ _ :: _) _ _); refine kBuildSlice1 _ _ _ (.int .u8 (c1 : Int)) rfl rfl Try.underlying76 i8 _ hi8 hz8 hs8 rfl rfl ?_; intro w5 hR5 hzz hB5; clear hzz; have hV5 := vals_one8 hc1 hR5; have hO5 := hO.below hB5; have hB6 := hB.trans (hB5.mono hB.size); have hR6 := hR.below hB5 hgBlt; clear hO hB hR hR5 hB5 hV; go_frame)
              | ((with_reducible change wpList _ _ _ (Oper.mk (some 43) _ _ _ _ _ :: _) _ _); refine kAppGw _ _ w.heap.size _ _ (bytesL t) [UInt8.ofNat c1] hO5 hV5 (by rw [hlb]; simp; omega) hB6.size rfl rfl rfl rfl ?_; intro v6 w6 hO6 hBq hgr; have hB7 := hB6.trans hBq; clear hO5 hV5 hBq; go_frame)
              | ((with_reducible change wpList _ _ _ (Oper.mk (some 44) _ _ _ _ _ :: _) _ _); refine kYw (yAddZ _ _ _ _ (k : Int) 1 ((k + 1 : Nat) : Int) (by omega) rfl rfl rfl rfl) ?_; go_frame))
            have hO7 : OwnB w6 w.heap.size v6 (bytesL t1) := by rw [Ht1.out, bytesL_more hc1 (by omega)]; exact hO6
            go_roundw
            case rel => exact ⟨k + 1, t1, by omega, ht1, rfl, hO7, hB7, fun h => (hgr.block gB hR6.lt (fun e => hne (by omega) e.symm)).trans hR6, fun h => absurd h (by omega)⟩
            case measure => simp [intOf]; omega
          · have d38 : decide ((c1 : Int) > 0) = false := by simp; omega
            go_wp2_with (first
              | ((with_reducible change wpList _ _ _ (Oper.mk (some 30) _ _ _ _ _ :: _) _ _); refine kYw (yLssK _ _ _ _ .i64 (k : Int) 2 true hd30 rfl rfl rfl rfl) ?_; go_frame)
              | ((with_reducible change wpList _ _ _ (Oper.mk (some 31) _ _ _ _ _ :: _) _ _); refine kIndexAddrV _ _ _ _ .i64 _ _ (k : Int) k (.int .u8 (c1 : Int)) rfl rfl rfl hV rfl Try.underlying76 info_b8P rfl hatk ?_; intro ba hba; go_frame)
              | ((with_reducible change wpList _ _ _ (Oper.mk (some 32) _ _ _ _ _ :: _) _ _); refine kLoadCell _ _ _ _ _ rfl rfl rfl hba Try.underlying5 rfl ?_; clear hba; go_frame)
              | ((with_reducible change wpList _ _ _ (Oper.mk (some 34) _ _ _ _ _ :: _) _ _); refine kLenN _ _ _ _ _ Lb rfl rfl rfl hO.vals (by rw [List.length_map, hlb]) Try.underlying76 ?_; go_frame)
              | ((with_reducible change wpList _ _ _ (Oper.mk (some 35) _ _ _ _ _ :: _) _ _); refine kYw (yGtrK _ _ _ _ .i64 (Lb : Int) 0 false d35 rfl rfl rfl rfl) ?_; go_frame)
              | ((with_reducible change wpList _ _ _ (Oper.mk (some 38) _ _ _ _ _ :: _) _ _); refine kYw (yGtrK _ _ _ _ .u8 (c1 : Int) 0 false d38 rfl rfl rfl rfl) ?_; go_frame)
              | ((with_reducible change wpList _ _ _ (Oper.mk (some 44) _ _ _ _ _ :: _) _ _); refine kYw (yAddZ _ _ _ _ (k : Int) 1 ((k + 1 : Nat) : Int) (by omega) rfl rfl rfl rfl) ?_; go_frame))
            have hO7 := hO
            rw [show t = t1 by have := Ht1.out; omega] at hO7
            go_roundw
            case rel => exact ⟨k + 1, t1, by omega, ht1, rfl, hO7, hB, fun _ => hR, fun h => absurd h (by omega)⟩
            case measure => simp [intOf]; omega
        · have hd30 : decide ((k : Int) < 2) = false := by simp; omega
          have hk : k = 2 := by omega
          have ht : t = D2 := by have h3 := Ht.out; have := hsum.out; subst hk; simp at h3; omega
          clear Ht hne hR
          go_wp2_with (first
            | ((with_reducible change wpList _ _ _ (Oper.mk (some 30) _ _ _ _ _ :: _) _ _); refine kYw (yLssK _ _ _ _ .i64 (k : Int) 2 false hd30 rfl rfl rfl rfl) ?_; go_frame)
            | ((with_reducible change wpList _ _ _ (Oper.mk (some 14) _ _ _ _ _ :: _) _ _); refine kYw (ySubZ _ _ _ _ (p : Int) 1 ((p : Int) - 1) (by omega) rfl rfl rfl rfl) ?_; go_frame))
          go_roundw
          case rel => exact ⟨p, _, by omega, Lib.hid rfl, rfl, by rw [HD2.out, ← ht]; exact hO, hB⟩
          case measure => first | (simp [intOf]; done) | (simp [intOf]; omega)
set_option maxRecDepth 100000 in
set_option maxHeartbeats 16000000 in
theorem qCompact_num {v : Value} {n k r : Nat} (w : World) (h : Num w v n k) (hk : k ≤ 1000) (hn : n < M256) (hr : compactN n = r) : Calls Try.prog 19 #[v] w (fun e w' => e = .returned (.int .u32 (r : Int)) ∧ Below w.heap.size w w') := by
  obtain ⟨L, HL⟩ : ∃ v_ : Nat, Hid (byteN n = v_) := ⟨_, Lib.hid rfl⟩
  have hL : L ≤ 32 := by rw [← HL.out]; exact byteN_max hn
  have hlen : ((bytesL n).map VB).length = L := by rw [List.length_map, bytesL_len, HL.out]
  have f11 : Hid (IntKind.u32.wrap (L : Int) = (L : Int)) := Lib.hid (wrap_u32N (by omega))
  have htop := topN_lt n
  have hp2 := preN_le n 2
  have hp1 := preN_le n 1
  have hp0 := preN_le n 0
  rw [show preN n (2 + 1) = topN n from preN_three n] at hp2
  go_enter Try.func19, Try.ntmps19
  go_wp2_with (first
    | (go_at_call 44; refine (qBytes_num _ h hk).mono ?_; rintro e w1 ⟨u, rfl, hO, hB⟩; go_frame)
    | ((with_reducible change wpList _ _ _ (Oper.mk (some 10) _ _ _ _ _ :: _) _ _); refine kLenN _ _ _ u _ L rfl rfl rfl hO.vals hlen Try.underlying76 ?_; go_frame)
    | ((with_reducible change wpList _ _ _ (Oper.mk (some 11) _ _ _ _ _ :: _) _ _); refine kYw (yConvK Try.underlying3 Try.underlying28 _ (L : Int) (L : Int) f11.out rfl rfl rfl) ?_; go_frame))
  have hV := hO.vals
  clear h hO f11
  go_loopw [6, 5] (fun i m wr => ∃ j q : Nat, j ≤ 3 ∧ Hid (preN n j = q) ∧ i = .int .i64 (j : Int) ∧ m = .int .u32 (q : Int) ∧ wr = w1) (fun i _ _ => 3 - (intOf i).toNat)
  case atStart => exact ⟨0, 0, by omega, Lib.hid (preN_zero n), rfl, rfl, rfl⟩
  case round =>
    obtain ⟨j, q, hj, Hq, rfl, rfl, rfl⟩ := hrel
    by_cases hlt : j < 3
    · have hd : decide ((j : Int) < 3) = true := by simp; omega
      have hq := Hq.out
      have hstep := preN_step n j
      have hnx : preN n (j + 1) < 16777216 := by
        match j, hlt with
        | 0, _ => simp at hp0 hp1 ⊢; omega
        | 1, _ => simp at hp1 ⊢; omega
        | 2, _ => rw [show preN n (2 + 1) = topN n from preN_three n]; exact htop
      obtain ⟨q1, Hq1⟩ : ∃ v_ : Nat, Hid (256 * q = v_) := ⟨_, Lib.hid rfl⟩
      obtain ⟨q2, Hq2⟩ : ∃ v_ : Nat, Hid (preN n (j + 1) = v_) := ⟨_, Lib.hid rfl⟩
      rw [Hq2.out] at hnx hstep
      rw [hq, Hq1.out, HL.out] at hstep
      have f17 : Hid (256 * q = q1 ∧ q1 < 4294967296) := Lib.hid ⟨Hq1.out, by omega⟩
      by_cases hjl : j < L
      · have hd21 : decide ((j : Int) < (L : Int)) = true := by simp; omega
        rw [if_pos hjl] at hstep
        obtain ⟨c, Hc⟩ : ∃ v_ : Nat, Hid (n / 256 ^ (L - 1 - j) % 256 = v_) := ⟨_, Lib.hid rfl⟩
        rw [Hc.out] at hstep
        have hat : ((bytesL n).map VB)[j]? = some (.int .u8 (c : Int)) := by rw [bytesL_at (by rw [HL.out]; exact hjl), HL.out, Hc.out]
        have hc : c < 256 := by rw [← Hc.out]; exact Nat.mod_lt _ (by decide)
        have f27 : Hid (IntKind.u32.wrap (c : Int) = (c : Int)) := Lib.hid (wrap_u32N (by omega))
        have f28 : Hid (q1 + c = q2 ∧ q2 < 4294967296) := Lib.hid ⟨hstep.symm, by omega⟩
        clear hq hstep Hc
        go_wp2_with (first
          | ((with_reducible change wpList _ _ _ (Oper.mk (some 13) _ _ _ _ _ :: _) _ _); refine kYw (yLssK _ _ _ _ .i64 (j : Int) 3 true hd rfl rfl rfl rfl) ?_; go_frame)
          | ((with_reducible change wpList _ _ _ (Oper.mk (some 17) _ _ _ _ _ :: _) _ _); refine kYw (yMulWk _ _ _ _ 256 q q1 f17.out rfl rfl rfl rfl) ?_; go_frame)
          | ((with_reducible change wpList _ _ _ (Oper.mk (some 20) _ _ _ _ _ :: _) _ _); refine kLenN _ _ _ u _ L rfl rfl rfl hV hlen Try.underlying76 ?_; go_frame)
          | ((with_reducible change wpList _ _ _ (Oper.mk (some 21) _ _ _ _ _ :: _) _ _); refine kYw (yLssK _ _ _ _ .i64 (j : Int) (L : Int) true hd21 rfl rfl rfl rfl) ?_; go_frame)
          | ((with_reducible change wpList _ _ _ (Oper.mk (some 25) _ _ _ _ _ :: _) _ _); refine kIndexAddrV _ _ _ _ .i64 _ _ (j : Int) j (.int .u8 (c : Int)) rfl rfl rfl hV rfl Try.underlying76 info_b8P rfl hat ?_; intro ba hba; go_frame)
          | ((with_reducible change wpList _ _ _ (Oper.mk (some 26) _ _ _ _ _ :: _) _ _); refine kLoadCell _ _ _ _ _ rfl rfl rfl hba Try.underlying5 rfl ?_; clear hba; go_frame)
          | ((with_reducible change wpList _ _ _ (Oper.mk (some 27) _ _ _ _ _ :: _) _ _); refine kYw (yConvK Try.underlying5 Try.underlying28 _ (c : Int) (c : Int) f27.out rfl rfl rfl) ?_; go_frame)
          | ((with_reducible change wpList _ _ _ (Oper.mk (some 28) _ _ _ _ _ :: _) _ _); refine kYw (yAddWk _ _ _ _ q1 c q2 f28.out rfl rfl rfl rfl) ?_; go_frame)
          | ((with_reducible change wpList _ _ _ (Oper.mk (some 15) _ _ _ _ _ :: _) _ _); refine kYw (yAddZ _ _ _ _ (j : Int) 1 ((j + 1 : Nat) : Int) (by omega) rfl rfl rfl rfl) ?_; go_frame))
        go_roundw
        case rel => exact ⟨j + 1, q2, by omega, Hq2, rfl, rfl, by first | rfl | trivial⟩
        case measure => simp [intOf]; omega
      · have hd21 : decide ((j : Int) < (L : Int)) = false := by simp; omega
        rw [if_neg hjl, Nat.add_zero] at hstep
        replace Hq2 := Lib.hid (Hq2.out.trans hstep)
        clear hq hstep
        go_wp2_with (first
          | ((with_reducible change wpList _ _ _ (Oper.mk (some 13) _ _ _ _ _ :: _) _ _); refine kYw (yLssK _ _ _ _ .i64 (j : Int) 3 true hd rfl rfl rfl rfl) ?_; go_frame)
          | ((with_reducible change wpList _ _ _ (Oper.mk (some 17) _ _ _ _ _ :: _) _ _); refine kYw (yMulWk _ _ _ _ 256 q q1 f17.out rfl rfl rfl rfl) ?_; go_frame)
          | ((with_reducible change wpList _ _ _ (Oper.mk (some 20) _ _ _ _ _ :: _) _ _); refine kLenN _ _ _ u _ L rfl rfl rfl hV hlen Try.underlying76 ?_; go_frame)
          | ((with_reducible change wpList _ _ _ (Oper.mk (some 21) _ _ _ _ _ :: _) _ _); refine kYw (yLssK _ _ _ _ .i64 (j : Int) (L : Int) false hd21 rfl rfl rfl rfl) ?_; go_frame)
          | ((with_reducible change wpList _ _ _ (Oper.mk (some 15) _ _ _ _ _ :: _) _ _); refine kYw (yAddZ _ _ _ _ (j : Int) 1 ((j + 1 : Nat) : Int) (by omega) rfl rfl rfl rfl) ?_; go_frame))
        go_roundw
        case rel => exact ⟨j + 1, _, by omega, Hq2, rfl, rfl, by first | rfl | trivial⟩
        case measure => simp [intOf]; omega
    · have hd : decide ((j : Int) < 3) = false := by simp; omega
      have hj3 : j = 3 := by omega
      have hq := Hq.out
      rw [hj3, preN_three] at hq
      rw [hq] at htop
      unfold compactN at hr
      rw [hq, HL.out] at hr
      clear hp0 hp1 hp2 Hq
      by_cases hs : q < 8388608
      · have d30 : decide ((q : Int) ≥ 8388608) = false := by simp; omega
        rw [if_pos hs] at hr
        obtain ⟨m, Hm⟩ : ∃ v_ : Nat, Hid (16777216 * L = v_) := ⟨_, Lib.hid rfl⟩
        have f37 : Hid (16777216 * L = m ∧ m < 4294967296) := Lib.hid ⟨Hm.out, by have := Hm.out; omega⟩
        have f38 : Hid (q + m = r ∧ r < 4294967296) := Lib.hid ⟨by rw [← Hm.out, hr], by omega⟩
        clear hq hr Hm
        go_wp2_with (first
          | ((with_reducible change wpList _ _ _ (Oper.mk (some 13) _ _ _ _ _ :: _) _ _); refine kYw (yLssK _ _ _ _ .i64 (j : Int) 3 false hd rfl rfl rfl rfl) ?_; go_frame)
          | ((with_reducible change wpList _ _ _ (Oper.mk (some 30) _ _ _ _ _ :: _) _ _); refine kYw (yGeqK _ _ _ _ .u32 (q : Int) 8388608 false d30 rfl rfl rfl rfl) ?_; go_frame)
          | ((with_reducible change wpList _ _ _ (Oper.mk (some 37) _ _ _ _ _ :: _) _ _); refine kYw (yMulWk _ _ _ _ 16777216 L m f37.out rfl rfl rfl rfl) ?_; go_frame)
          | ((with_reducible change wpList _ _ _ (Oper.mk (some 38) _ _ _ _ _ :: _) _ _); refine kYw (yAddWk _ _ _ _ q m r f38.out rfl rfl rfl rfl) ?_; go_frame))
        go_ret
        exact ⟨rfl, hB⟩
      · have d30 : decide ((q : Int) ≥ 8388608) = true := by simp; omega
        rw [if_neg hs] at hr
        obtain ⟨q3, Hq3⟩ : ∃ v_ : Nat, Hid (q / 256 = v_) := ⟨_, Lib.hid rfl⟩
        obtain ⟨L2, HL2⟩ : ∃ v_ : Nat, Hid (L + 1 = v_) := ⟨_, Lib.hid rfl⟩
        obtain ⟨m, Hm⟩ : ∃ v_ : Nat, Hid (16777216 * L2 = v_) := ⟨_, Lib.hid rfl⟩
        have f32 : Hid (q / 256 = q3 ∧ 0 < 256 ∧ IntKind.u32.wrap (q / 256 : Nat) = (q / 256 : Nat)) := Lib.hid ⟨Hq3.out, by decide, wrap_u32N (by omega)⟩
        have f34 : Hid (L + 1 = L2 ∧ L2 < 4294967296) := Lib.hid ⟨HL2.out, by have := HL2.out; omega⟩
        have f37 : Hid (16777216 * L2 = m ∧ m < 4294967296) := Lib.hid ⟨Hm.out, by have := Hm.out; have := HL2.out; omega⟩
        have f38 : Hid (q3 + m = r ∧ r < 4294967296) := Lib.hid ⟨by rw [← Hm.out, ← HL2.out, ← Hq3.out, hr], by have := Hm.out; have := HL2.out; have := Hq3.out; omega⟩
        clear hq hr Hm Hq3 HL2
        go_wp2_with (first
          | ((with_reducible change wpList _ _ _ (Oper.mk (some 13) _ _ _ _ _ :: _) _ _); refine kYw (yLssK _ _ _ _ .i64 (j : Int) 3 false hd rfl rfl rfl rfl) ?_; go_frame)
          | ((with_reducible change wpList _ _ _ (Oper.mk (some 30) _ _ _ _ _ :: _) _ _); refine kYw (yGeqK _ _ _ _ .u32 (q : Int) 8388608 true d30 rfl rfl rfl rfl) ?_; go_frame)
          | ((with_reducible change wpList _ _ _ (Oper.mk (some 32) _ _ _ _ _ :: _) _ _); refine kYw (yQuoN .u32 _ _ _ _ q 256 q3 f32.out rfl rfl rfl rfl) ?_; go_frame)
          | ((with_reducible change wpList _ _ _ (Oper.mk (some 34) _ _ _ _ _ :: _) _ _); refine kYw (yAddWk _ _ _ _ L 1 L2 f34.out rfl rfl rfl rfl) ?_; go_frame)
          | ((with_reducible change wpList _ _ _ (Oper.mk (some 37) _ _ _ _ _ :: _) _ _); refine kYw (yMulWk _ _ _ _ 16777216 L2 m f37.out rfl rfl rfl rfl) ?_; go_frame)
          | ((with_reducible change wpList _ _ _ (Oper.mk (some 38) _ _ _ _ _ :: _) _ _); refine kYw (yAddWk _ _ _ _ q3 m r f38.out rfl rfl rfl rfl) ?_; go_frame))
        go_ret
        exact ⟨rfl, hB⟩
end Go.Proofs.Ytdeggdmoijfhdaa
