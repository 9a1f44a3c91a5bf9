/-
  The walks of the reference's Mod, Add, Sub, Mul and Of of layer 3, over the prime's own contract.
-/
import Derived.Test.YtajpdmcbdekpbaaDoorFRef
namespace Go.Proofs.YtajpdmcbdekpbaaDoor
open Go Go.RowKit

/-! ### plain -/
theorem mod_round {m lo hi : Nat} (hm : Modu m) (hhi : 0 < hi) : (lo + hi * (M256 - m)) % m = (lo + M256 * hi) % m ∧ lo + hi * (M256 - m) < lo + M256 * hi := by
  have h1 := hm.lt; have h2 := hm.gt
  have e : M256 * hi = hi * (M256 - m) + m * hi := by rw [Nat.mul_comm m hi, ← Nat.mul_add, Nat.sub_add_cancel (by omega), Nat.mul_comm]
  refine ⟨?_, ?_⟩
  · rw [e, ← Nat.add_assoc, Nat.add_mul_mod_self_left]
  · have : 0 < m * hi := Nat.mul_pos hm.pos hhi
    omega
theorem cmpI_ge {x y : Nat} (h : y ≤ x) : decide (cmpI x y ≥ 0) = true := by
  unfold cmpI; rw [if_neg (by omega)]; split <;> simp
theorem cmpI_lt {x y : Nat} (h : x < y) : decide (cmpI x y ≥ 0) = false := by
  unfold cmpI; rw [if_pos h]; rfl
theorem drop_pos {l : List Nat} (h : Tr l) (hl : 16 < l.length) : 0 < dval (l.drop 16) := by
  rcases Nat.eq_zero_or_pos (dval (l.drop 16)) with h0 | h0
  · exfalso
    have e := dval_split l (l.length - 1) (by omega)
    rcases h with h | h
    · subst h; simp at hl
    · have h2 : dval ((l.drop 16).drop (l.length - 17)) = 0 := by
        have := dval_split (l.drop 16) (l.length - 17) (by simp; omega)
        have hp := P16_pos (l.length - 17)
        rw [h0] at this
        rcases Nat.eq_zero_or_pos (dval ((l.drop 16).drop (l.length - 17))) with h3 | h3
        · exact h3
        · have := Nat.mul_pos hp h3; omega
      rw [List.drop_drop, show 16 + (l.length - 17) = l.length - 1 by omega, dval_drop l (l.length - 1)] at h2
      omega
  · exact h0

section
variable {P : Program} {ops : Array Oper} {Q : Exit → Act → World → Prop} {rest : List Oper} {o : Oper} {a : Act} {w : World}
theorem kGtrI (T T2 : TypeId) (x y : Operand) (k : IntKind) (m n : Int) (b : Bool) (ho : o.op = .binOp .gtr T x y T2) (hg : Region.wanted o (yielded ops a.tmps) = true) (hx : a.eval x = .int k m) (hy : a.eval y = .int k n) (hb : decide (m > n) = b) (h : wpList P ops Q rest (a.put o.dst (.bool b)) w) : wpList P ops Q (o :: rest) a w := by
  subst hb
  refine kPure _ hg ?_ h
  unfold execOp
  simp only [ho, hx, hy]
  simp [eqGuard, binOp, Op.intCmp]
theorem kGeqI (T T2 : TypeId) (x y : Operand) (k : IntKind) (m n : Int) (b : Bool) (ho : o.op = .binOp .geq T x y T2) (hg : Region.wanted o (yielded ops a.tmps) = true) (hx : a.eval x = .int k m) (hy : a.eval y = .int k n) (hb : decide (m ≥ n) = b) (h : wpList P ops Q rest (a.put o.dst (.bool b)) w) : wpList P ops Q (o :: rest) a w := by
  subst hb
  refine kPure _ hg ?_ h
  unfold execOp
  simp only [ho, hx, hy]
  simp [eqGuard, binOp, Op.intCmp]
theorem kLssI (T T2 : TypeId) (x y : Operand) (k : IntKind) (m n : Int) (b : Bool) (ho : o.op = .binOp .lss T x y T2) (hg : Region.wanted o (yielded ops a.tmps) = true) (hx : a.eval x = .int k m) (hy : a.eval y = .int k n) (hb : decide (m < n) = b) (h : wpList P ops Q rest (a.put o.dst (.bool b)) w) : wpList P ops Q (o :: rest) a w := by
  subst hb
  refine kPure _ hg ?_ h
  unfold execOp
  simp only [ho, hx, hy]
  simp [eqGuard, binOp, Op.intCmp]
end

set_option maxRecDepth 100000 in
set_option maxHeartbeats 8000000 in
theorem rMod_num {b : Bool} {m : Nat} (hm : Modu m) (hP : ∀ w, Calls Tryd.prog 18 #[.bool b] w (NumPost w m 16)) {v : Value} {n k : Nat} {w : World} (h : Num w v n k) (hk : k ≤ 100) :
    Calls Tryd.prog 31 #[v, .bool b] w (NumTPost w (n % m)) := by
  have hbl : n < P16 100 := Nat.lt_of_lt_of_le h.lt (Nat.pow_le_pow_right (by decide) hk)
  obtain ⟨gp, Hgp⟩ : ∃ g, Hid (g = M256 - m) := ⟨_, Lib.hid rfl⟩
  have hgl : gp < P16 17 := by rw [Hgp.out]; exact Nat.lt_of_le_of_lt (Nat.sub_le _ _) (by decide)
  have hsub : m ≤ 2 ^ 256 := by have := hm.lt; have e : M256 = 2 ^ 256 := by decide
                                omega
  have hgv : 2 ^ 256 - m = gp := by rw [Hgp.out]; congr 1
  have Hsub := Lib.hid hsub
  have Hgv := Lib.hid hgv
  clear hsub hgv
  go_enter Tryd.func31, Tryd.ntmps31
  go_wp2_with (first
    | (go_at_call 18; refine (hP _).mono ?_; rintro e w1 ⟨v5, rfl, N5, hB1⟩; go_frame)
    | (go_at_call 47; refine (dPower_num 256 (by decide) _).mono ?_; rintro e w2 ⟨v9, rfl, N9, hB2⟩; go_frame)
    | (go_at_call 41; refine (dSub_num N9 (N5.below hB2) (by decide) Hsub.out).mono ?_; rintro e w3 ⟨v11, rfl, N11, hB3⟩; rw [Hgv.out] at N11; go_frame)
    | (go_at_call 46; (with_reducible change Calls _ _ #[v11] _ _); refine (rtrim_num N11 (by decide)).mono ?_; rintro e w4 ⟨v12, rfl, N12, rfl⟩; go_frame)
    | (go_at_call 46; (with_reducible change Calls _ _ #[v] _ _); refine (rtrim_num (((h.below hB1).below hB2).below hB3) (by omega)).mono ?_; rintro e w5 ⟨v14, rfl, N14, rfl⟩; go_frame))
  have hB03 : Below w.heap.size w w3 := (hB1.trans (hB2.mono hB1.size)).trans (hB3.mono (Nat.le_trans hB1.size hB2.size))
  have N5' := (N5.below hB2).below hB3
  clear N5 N9 N11 hB1 hB2 hB3
  go_loopg [0] n (fun V d wr => NumT wr d V ∧ V ≤ n ∧ Hid (V % m = n % m) ∧ Num wr v5 m 16 ∧ NumT wr v12 gp ∧ Below w.heap.size w wr)
  case atStart => exact ⟨N14, Nat.le_refl _, Lib.hid rfl, N5', N12, hB03⟩
  case round =>
    obtain ⟨NV, hV, Hmod, P5, P12, hB⟩ := hrel
    clear N5' N12 N14 hB03
    have NV0 := NV
    obtain ⟨l, dl, hd, hval, htr⟩ := NV
    have hl100 : l.length ≤ 100 := tr_len htr (by omega)
    have Hval := Lib.hid hval
    clear hval
    have hml : (l.map VU).length = l.length := by simp
    by_cases hlen : l.length ≤ 16
    · have hlt : gk < M256 := by
        rw [← Hval.out, ← P16_16]; exact Nat.lt_of_lt_of_le (dval_lt dl) (Nat.pow_le_pow_right (by decide) hlen)
      have D := Lib.hid (show decide ((l.length : Int) > 16) = false from decide_eq_false (by omega))
      clear hlen hl100
      go_wp2_with (first
        | ((with_reducible change wpList _ _ _ (Oper.mk (some 16) _ _ _ _ _ :: _) _ _); refine kLenN _ _ _ _ _ l.length rfl rfl rfl hd hml Tryd.underlying35 ?_; go_frame)
        | ((with_reducible change wpList _ _ _ (Oper.mk (some 17) _ _ _ _ _ :: _) _ _); refine kGtrI _ _ _ _ .i64 _ _ false rfl rfl rfl rfl D.out ?_; go_frame))
      clear hd hml D dl htr Hval hV
      go_loopg [0] gk (fun V d w2 => NumT w2 d V ∧ V < M256 ∧ Hid (V % m = n % m) ∧ Num w2 v5 m 16 ∧ Below w.heap.size w w2)
      case atStart => exact ⟨NV0, hlt, Hmod, P5, hB⟩
      case round =>
        clear NV0 Hmod P5 hB P12 hlt
        obtain ⟨NV, hlt, Hmod, P5, hB⟩ := hrel
        have NK := NV.num (k := 16) (by rw [P16_16]; exact hlt)
        by_cases hge : m ≤ gk
        · have D := Lib.hid (cmpI_ge hge)
          have Hge := Lib.hid hge
          clear hge
          go_wp2_with (first
            | (go_at_call 28; refine (dCompare_num NK P5 (by decide) (by decide)).mono ?_; rintro e w6 ⟨rfl, rfl⟩; go_frame)
            | ((with_reducible change wpList _ _ _ (Oper.mk (some 29) _ _ _ _ _ :: _) _ _); refine kGeqI _ _ _ _ .i64 _ _ true rfl rfl rfl rfl D.out ?_; go_frame)
            | (go_at_call 41; refine (dSub_num NK P5 (by decide) Hge.out).mono ?_; rintro e w7 ⟨v32, rfl, N32, hB7⟩; go_frame)
            | (go_at_call 46; refine (rtrim_num N32 (by decide)).mono ?_; rintro e w8 ⟨v33, rfl, N33, rfl⟩; go_frame))
          have hge := Hge.out
          have hmp := hm.pos
          go_roundg (gk - m)
          case rel => exact ⟨N33, by omega, Lib.hid (by rw [← Hmod.out, Nat.mod_eq_sub_mod hge]), P5.below hB7, hB.trans (hB7.mono hB.size)⟩
          case measure => omega
        · have D := Lib.hid (cmpI_lt (show gk < m by omega))
          have HE := Lib.hid (show gk = n % m by rw [← Hmod.out, Nat.mod_eq_of_lt (by omega)])
          clear hge
          go_wp2_with (first
            | (go_at_call 28; refine (dCompare_num NK P5 (by decide) (by decide)).mono ?_; rintro e w6 ⟨rfl, rfl⟩; go_frame)
            | ((with_reducible change wpList _ _ _ (Oper.mk (some 29) _ _ _ _ _ :: _) _ _); refine kGeqI _ _ _ _ .i64 _ _ false rfl rfl rfl rfl D.out ?_; go_frame))
          go_ret
          exact ⟨_, rfl, HE.out ▸ NV, hB⟩
    · have D := Lib.hid (show decide ((l.length : Int) > 16) = true from decide_eq_true (by omega))
      have hsplit := dval_split l 16 (by omega)
      rw [P16_16, Hval.out] at hsplit
      obtain ⟨q1, q2⟩ := mod_round (lo := dval (l.take 16)) hm (drop_pos htr (by omega))
      rw [← Hgp.out, ← hsplit] at q1 q2
      have Hq1 := Lib.hid q1
      have Hq2 := Lib.hid q2
      have hl16 : 16 ≤ l.length := by omega
      clear q1 q2 hsplit hlen
      go_wp2_with (first
        | ((with_reducible change wpList _ _ _ (Oper.mk (some 16) _ _ _ _ _ :: _) _ _); refine kLenN _ _ _ _ _ l.length rfl rfl rfl hd hml Tryd.underlying35 ?_; go_frame)
        | ((with_reducible change wpList _ _ _ (Oper.mk (some 17) _ _ _ _ _ :: _) _ _); refine kGtrI _ _ _ _ .i64 _ _ true rfl rfl rfl rfl D.out ?_; go_frame))
      refine region_mixP [(0, true), (1, true), (2, true), (3, true), (4, true), (5, false), (6, false), (7, false)] (fun w' => Below wr.heap.size wr w') (by kernel_rfl) (by kernel_rfl) rfl ?_
      intro wd hBd hsd
      simp only [List.length_cons, List.length_nil, List.drop_succ_cons, List.drop_zero, List.map_cons, List.map_nil]
      dsimp only [List.filterMap, List.getElem?_cons_zero, List.getElem?_cons_succ]
      refine mixMove _ u0 hBd rfl rfl rfl ?_; go_frame
      refine mixSliceTo _ _ _ _ _ _ _ _ 16 hBd rfl rfl rfl rfl Tryd.underlying35 info_w64 (fun _ h => IsVals.below hd h) rfl (by rw [hml]; exact hl16) ?_; go_frame
      refine mixMove _ u0 hBd rfl rfl rfl ?_; go_frame
      refine mixSliceFrom _ _ _ _ _ _ _ _ 16 hBd rfl rfl rfl rfl Tryd.underlying35 info_w64 (fun _ h => IsVals.below hd h) rfl (by rw [hml]; exact hl16) ?_; go_frame
      refine mixMove _ v12 hBd rfl rfl rfl ?_; go_frame
      have hdd := hd.below hBd
      have NHI : Num wd (fromV u0 16) (dval (l.drop 16)) 84 := ⟨l.drop 16, dl.drop 16, by unfold Dig; rw [List.map_drop]; exact isVals_from hdd (by rw [hml]; exact hl16), rfl, by simp; omega⟩
      have NLO : Num wd (toV u0 16) (dval (l.take 16)) 16 := ⟨l.take 16, dl.take 16, by unfold Dig; rw [List.map_take]; exact isVals_to hdd (by rw [hml]; exact hl16), rfl, by simp; omega⟩
      have NG : Num wd v12 gp 17 := (P12.below hBd).num hgl
      refine mixLoud ?_
      refine kCall2 43 _ _ _ _ _ rfl rfl (by kernel_rfl) rfl rfl ?_
      refine (dMul_num NHI NG (by decide) (by decide)).mono ?_
      rintro e w6 ⟨v23, rfl, N23, hB6⟩
      have hBd6 := hBd.trans (hB6.mono hBd.size)
      refine ⟨_, rfl, mixOn ⟨hBd6, ?_⟩⟩
      go_frame
      refine mixLoud ?_
      refine kCall2 40 _ _ _ _ _ rfl rfl (by kernel_rfl) rfl rfl ?_
      refine (dAdd_num (NLO.below hB6) N23 (by decide) (by decide)).mono ?_
      rintro e w7 ⟨v24, rfl, N24, hB7⟩
      have hBd7 := hBd6.trans (hB7.mono hBd6.size)
      refine ⟨_, rfl, mixOn ⟨hBd7, ?_⟩⟩
      go_frame
      refine mixLoud ?_
      refine kCall1 46 _ _ _ rfl rfl (by kernel_rfl) rfl ?_
      refine (rtrim_num N24 (by decide)).mono ?_
      rintro e w8 ⟨v25, rfl, N25, rfl⟩
      refine ⟨_, rfl, mixOn ⟨hBd7, ?_⟩⟩
      go_frame
      refine mixEnd ?_
      refine kAssignV _ _ rfl rfl rfl ?_; go_frame
      clear N23 N24 NHI NLO NG hdd hd hml htr dl D
      go_wp2
      have q2 := Hq2.out
      go_roundg (dval (l.take 16) + dval (l.drop 16) * gp)
      case rel => exact ⟨N25, by omega, Lib.hid (by rw [Hq1.out]; exact Hmod.out), P5.below hBd7, P12.below hBd7, hB.trans (hBd7.mono hB.size)⟩
      case measure => exact q2
end Go.Proofs.YtajpdmcbdekpbaaDoor
