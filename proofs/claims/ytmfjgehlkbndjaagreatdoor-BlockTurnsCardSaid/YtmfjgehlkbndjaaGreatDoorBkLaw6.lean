/-
  Layer 11: the walk of BlockTurns.
-/
import Derived.Test.YtmfjgehlkbndjaaGreatDoorBkC
import Derived.Test.YtmfjgehlkbndjaaGreatDoorBkTurn
import Derived.Test.YtmfjgehlkbndjaaGreatDoorBkByte
import Derived.Test.YtmfjgehlkbndjaaGreatDoorBkTree
namespace Go.Proofs.YtmfjgehlkbndjaaGreatDoor
open Go Go.RowKit Go.Shelf

theorem own_shape {w : World} {b n : Nat} {v : Value} {L : List (List UInt8)} (h : OwnHs w b v L) (hn : L.length = n) (h0 : 0 < n) : ∃ g cap, v = .slice (some ⟨g, 0, none⟩) n cap ∧ b ≤ g := by
  obtain ⟨g, cap, cur, e, hb, _⟩ := OwnR.row h (by intro e; rw [List.map_eq_nil_iff] at e; subst e; simp at hn; omega)
  rw [List.length_map, hn] at e
  exact ⟨g, cap, e, hb⟩
theorem own_rowT {w : World} {b g n cap : Nat} {L : List (List UInt8)} (h : OwnHs w b (.slice (some ⟨g, 0, none⟩) n cap) L) (hn : L.length = n) (h0 : 0 < n) : ∃ cur, Row w g 24 cur ∧ cur.size = cap * 32 ∧ n ≤ cap := by
  obtain ⟨g', cap', cur, e, hb, hr, hs, hc, _⟩ := OwnR.row h (by intro e; rw [List.map_eq_nil_iff] at e; subst e; simp at hn; omega)
  rw [List.length_map, hn] at e
  rw [List.length_map, hn] at hc
  simp only [Value.slice.injEq, Option.some.injEq, Addr.mk.injEq, and_true, true_and] at e
  obtain ⟨rfl, rfl⟩ := e
  exact ⟨cur, hr, hs, hc⟩
theorem own_neT {w : World} {b g g' n cap : Nat} {L : List (List UInt8)} {T : TypeId} {cs : Array Value} (hn : L.length = n) (h2 : 2 ≤ n) (h : OwnHs w b (.slice (some ⟨g, 0, none⟩) n cap) L) (hR : Row w g' T cs) (hs : cs.size = 32 ∨ cs.size = 68) : g' ≠ g := by
  rintro rfl
  obtain ⟨cur, hr, hz, hc⟩ := own_rowT h hn (by omega)
  have h1 : some (Obj.cells cs T (0, 0)) = some (.cells cur 24 (0, 0)) := hR.symm.trans hr
  injection h1 with h1
  injection h1 with h1
  subst h1
  omega
theorem own_cells {w : World} {b g n cap k : Nat} {L : List (List UInt8)} {x : List UInt8} (hn : L.length = n) (h : OwnHs w b (.slice (some ⟨g, 0, none⟩) n cap) L) (hk : L[k]? = some x) : ∀ (j : Nat) (u : Value), (hashR x)[j]? = some u → w.cell? ((⟨g, k * 32, none⟩ : Addr).add j) = some u := by
  subst hn
  intro j u hu
  have hj : j < 32 := by
    have := (List.getElem?_eq_some_iff.1 hu).1
    rwa [hashR_len] at this
  rw [add_none, own_byte h hk hj, ← hu]
  unfold hashR
  rw [List.getElem?_map, List.getElem?_range hj]; rfl
theorem own_cell {w : World} {b g n cap k i : Nat} {L : List (List UInt8)} {x : List UInt8} {cur : Array Value} (hn : L.length = n) (h : OwnHs w b (.slice (some ⟨g, 0, none⟩) n cap) L) (hr : Row w g 24 cur) (hk : L[k]? = some x) (hi : i < 32) : cur[k * 32 + i]? = some (VB (at8 x i)) := by
  subst hn
  rw [← hr.cell, own_byte h hk hi]
theorem at8_set {x : List UInt8} {i : Nat} {c : UInt8} (h : i < x.length) : at8 (x.set i c) i = c := by
  unfold at8; simp [h]
theorem set_back {x : List UInt8} {i : Nat} {c d : UInt8} (h : at8 x i = c) : (x.set i d).set i c = x := by
  rw [List.set_set]
  subst h
  by_cases hi : i < x.length
  · unfold at8
    simp [hi]
  · rw [List.set_eq_of_length_le (by omega)]
theorem headC_non (h : HeadP) (m : Nat) : (headC h).setIfInBounds 67 (.int .u32 (m : Int)) = headC { h with nonce := m } := by kernel_rfl
def headNext (h : HeadP) : HeadP := { h with nonce := (h.nonce + 1) % 4294967296 }
theorem headNext_is {h : HeadP} (hh : h.Is) : (headNext h).Is := by
  obtain ⟨h1, h2, h3, h4, h5, h6⟩ := hh
  exact ⟨h1, h2, h3, h4, h5, Nat.mod_lt _ (by decide)⟩
section
variable {P : Program} {ops : Array Oper} {Q : Exit → Act → World → Prop} {rest : List Oper} {o : Oper} {a : Act} {w : World} {S : World → Prop} {L : Act → World → Prop}
theorem kStoreHsN {base g cap k n : Nat} {L : List (List UInt8)} {l : List UInt8} (x y : Operand) (hn : L.length = n) (hO : OwnHs w base (.slice (some ⟨g, 0, none⟩) n cap) L) (hk : k < n) (ho : o.op = .store 24 x y) (hg : Region.wanted o (yielded ops a.tmps) = true) (hx : a.eval x = .pointer (some ⟨g, k * 32, none⟩)) (hy : a.eval y = HV l)
    (h : ∀ w1, OwnHs w1 base (.slice (some ⟨g, 0, none⟩) n cap) (L.set k l) → Wrote g w w1 → wpList Tryz.prog ops Q rest (a.put o.dst undef) w1) : wpList Tryz.prog ops Q (o :: rest) a w := by
  subst hn
  exact kStoreHs x y hO hk ho hg hx hy fun w1 h1 h2 _ => h w1 (by rw [List.length_set] at h1; exact h1) h2
theorem kStoreHs1N {base g cap k i n : Nat} {L : List (List UInt8)} {l : List UInt8} {c : UInt8} (x y : Operand) (hn : L.length = n) (hO : OwnHs w base (.slice (some ⟨g, 0, none⟩) n cap) L) (hk : L[k]? = some l) (hl : l.length = 32) (hi : i < 32) (ho : o.op = .store 5 x y) (hg : Region.wanted o (yielded ops a.tmps) = true) (hx : a.eval x = .pointer (some ⟨g, k * 32 + i, none⟩)) (hy : a.eval y = VB c)
    (h : ∀ w1, OwnHs w1 base (.slice (some ⟨g, 0, none⟩) n cap) (L.set k (l.set i c)) → Wrote g w w1 → wpList Tryz.prog ops Q rest (a.put o.dst undef) w1) : wpList Tryz.prog ops Q (o :: rest) a w := by
  subst hn
  exact kStoreHs1 x y hO hk hl hi ho hg hx hy fun w1 h1 h2 _ => h w1 (by rw [List.length_set] at h1; exact h1) h2
theorem yIdxArr {T E : TypeId} {len : Nat} (ht : P.underlying T = some (.array len E)) (hi : (P.info? E).map (·.size) = some 1) (x y : Operand) (g off k off' : Nat) (hk : k < len) (he : off + k = off') (ho : o.op = .indexAddr T x y) (hg : Region.wanted o (yielded ops a.tmps) = true) (hx : a.eval x = .pointer (some ⟨g, off, none⟩)) (hy : a.eval y = .int .i64 (k : Int)) : YieldsIf P ops S o (.pointer (some ⟨g, off', none⟩)) a :=
  yOf hg fun w _ => by
    subst he
    have hrun : (Instr.indexAt T (.pointer (some ⟨g, off, none⟩)) (.int .i64 (k : Int))).run P w = .ok (.pointer (some ⟨g, off + k, none⟩)) w := by
      cases hq : P.info? E with
      | none => simp [hq] at hi
      | some t =>
        have hs' : t.size = 1 := by simpa [hq] using hi
        simp [Instr.indexAt, Instr.sureAddr, asIntOf, run_underlying ht, sizeOf, typeInfo, hq, hs', hk, add_none]
    unfold execOp
    simp only [ho, hx, hy, Sem.run_bind, hrun, Result.andThen_ok, Sem.run_pure]
/-- two that may come in either order and leave the world alone -/
theorem tTwoL {k k' : Nat} {t : PT} {o' : Oper} {d d' : Tmp} (v v' : Value) (hS : S w) (h0 : ops.toList[k]? = some o) (h0' : ops.toList[k']? = some o') (hd : o.dst = some d) (hd' : o'.dst = some d') (hne : d ≠ d')
    (hy : YieldsIf P ops (fun x => x = w) o v a) (hy' : YieldsIf P ops (fun x => x = w) o' v' a) (hz' : YieldsIf P ops (fun x => x = w) o' v' (a.put o.dst v)) (hz : YieldsIf P ops (fun x => x = w) o v (a.put o'.dst v'))
    (h : wpPT P ops Q L t S ((a.put o.dst v).put o'.dst v') w) : wpPT P ops Q L (.two k (.one k' t) k' (.one k t)) S a w := by
  have e : (a.put o'.dst v').put o.dst v = (a.put o.dst v).put o'.dst v' := by
    rw [hd, hd']
    simp only [Act.put]
    rw [Array.setIfInBounds_comm _ _ (Ne.symm hne)]
  exact ⟨⟨o, by rw [← Array.getElem?_toList]; exact h0, kY hy (mixOn ⟨S, fun _ h => h, hS, o', by rw [← Array.getElem?_toList]; exact h0', kY hz' (mixOn ⟨S, fun _ h => h, hS, h⟩)⟩)⟩,
    o', by rw [← Array.getElem?_toList]; exact h0', kY hy' (mixOn ⟨S, fun _ h => h, hS, o, by rw [← Array.getElem?_toList]; exact h0, kY hz (mixOn ⟨S, fun _ h => h, hS, by rw [e]; exact h⟩)⟩)⟩
end
set_option maxRecDepth 100000 in
set_option maxHeartbeats 8000000 in
theorem blockTurns_walk {l : List (List UInt8)} {v : Value} {a1 : Int} {h : HeadP} (W0 : World) (hK : Keys W0) (hv : HashesOf W0 v l) (h32 : ∀ x ∈ l, x.length = 32) (hh : h.Is) : Calls Tryz.prog 8 #[v, .int .i64 a1, .agg (headC h)] W0 (BoolPost W0 true) := by
  obtain ⟨ih0, hih0⟩ : ∃ i, Tryz.prog.info? 24 = some i := by
    obtain ⟨j, z, e1, _⟩ := rowInfo hashInfo0; exact ⟨j, e1⟩
  obtain ⟨n, hn⟩ : ∃ n, l.length = n := ⟨_, rfl⟩
  by_cases h1 : n < 2
  · have d1 : decide ((n : Int) < 2) = true := by simp; omega
    have hB00 := Below.refl W0.heap.size W0
    go_enter Tryz.func8, Tryz.ntmps8
    go_wp2_with (first
      | ((with_reducible change wpList _ _ _ (Oper.mk (some 5) _ _ _ _ _ :: _) _ _); refine kBoxL _ _ _ rfl rfl rfl ?_; intro y1 hV5 hzq hBq; clear hzq; have hB_1 := hB00.trans (hBq.mono hB00.size); clear hB00 hBq; go_frame)
      | (go_at_call 12; refine (blockAlive_any _ (hK.below hB_1)).mono ?_; rintro e y2 ⟨rfl, hBq⟩; have hV5_2 := hV5.below hBq hV5.lt; have hB_3 := hB_1.trans (hBq.mono hB_1.size); clear hV5 hB_1 hBq; go_frame)
      | ((with_reducible change wpList _ _ _ (Oper.mk (some 23) _ _ _ _ _ :: _) _ _); refine kY (yNotC _ _ true rfl rfl rfl) ?_; go_frame)
      | ((with_reducible change wpList _ _ _ (Oper.mk (some 25) _ _ _ _ _ :: _) _ _); refine kY (yLenHs _ v l n (fun _ e => by cases e; exact hv.below hB_3) hn rfl rfl rfl) ?_; go_frame)
      | ((with_reducible change wpList _ _ _ (Oper.mk (some 26) _ _ _ _ _ :: _) _ _); refine kY (yLssI _ _ _ _ .i64 (n : Int) 2 true rfl rfl rfl rfl d1) ?_; go_frame))
    (try simp only [Exit.inBlock, Exit.then])
    refine retBT rfl rfl ?_
    exact ⟨rfl, hB_3⟩
  have d1 : decide ((n : Int) < 2) = false := by simp; omega
  by_cases h2 : 60 < n
  · have d2 : decide ((n : Int) > 60) = true := by simp; omega
    have hB00 := Below.refl W0.heap.size W0
    go_enter Tryz.func8, Tryz.ntmps8
    go_wp2_with (first
      | ((with_reducible change wpList _ _ _ (Oper.mk (some 5) _ _ _ _ _ :: _) _ _); refine kBoxL _ _ _ rfl rfl rfl ?_; intro y1 hV5 hzq hBq; clear hzq; have hB_1 := hB00.trans (hBq.mono hB00.size); clear hB00 hBq; go_frame)
      | (go_at_call 12; refine (blockAlive_any _ (hK.below hB_1)).mono ?_; rintro e y2 ⟨rfl, hBq⟩; have hV5_2 := hV5.below hBq hV5.lt; have hB_3 := hB_1.trans (hBq.mono hB_1.size); clear hV5 hB_1 hBq; go_frame)
      | ((with_reducible change wpList _ _ _ (Oper.mk (some 23) _ _ _ _ _ :: _) _ _); refine kY (yNotC _ _ true rfl rfl rfl) ?_; go_frame)
      | ((with_reducible change wpList _ _ _ (Oper.mk (some 25) _ _ _ _ _ :: _) _ _); refine kY (yLenHs _ v l n (fun _ e => by cases e; exact hv.below hB_3) hn rfl rfl rfl) ?_; go_frame)
      | ((with_reducible change wpList _ _ _ (Oper.mk (some 26) _ _ _ _ _ :: _) _ _); refine kY (yLssI _ _ _ _ .i64 (n : Int) 2 false rfl rfl rfl rfl d1) ?_; go_frame)
      | ((with_reducible change wpList _ _ _ (Oper.mk (some 29) _ _ _ _ _ :: _) _ _); refine kY (yLenHs _ v l n (fun _ e => by cases e; exact hv.below hB_3) hn rfl rfl rfl) ?_; go_frame)
      | ((with_reducible change wpList _ _ _ (Oper.mk (some 30) _ _ _ _ _ :: _) _ _); refine kY (yGtrI _ _ _ _ .i64 (n : Int) 60 true rfl rfl rfl rfl d2) ?_; go_frame))
    (try simp only [Exit.inBlock, Exit.then])
    refine retBT rfl rfl ?_
    exact ⟨rfl, hB_3⟩
  have d2 : decide ((n : Int) > 60) = false := by simp; omega
  have hle : l.length ≤ 1000 := by omega
  obtain ⟨m1, hm1z⟩ : ∃ m1 : Int, (if ((n - 2 : Nat) : Int) < a1 then ((n - 2 : Nat) : Int) else a1) = m1 := ⟨_, rfl⟩
  obtain ⟨k, hkz, hk1⟩ : ∃ k : Nat, (if m1 > 0 then m1 else 0) = (k : Int) ∧ k + 1 < n := by
    refine ⟨m1.toNat, ?_, ?_⟩
    · split <;> omega
    · have : m1 ≤ ((n - 2 : Nat) : Int) := by rw [← hm1z]; split <;> omega
      omega
  have hB00 := Below.refl W0.heap.size W0
  go_enter Tryz.func8, Tryz.ntmps8
  go_wp2_with (first
    | ((with_reducible change wpList _ _ _ (Oper.mk (some 5) _ _ _ _ _ :: _) _ _); refine kBoxL _ _ _ rfl rfl rfl ?_; intro y1 hV5 hzq hBq; clear hzq; have hB_1 := hB00.trans (hBq.mono hB00.size); clear hB00 hBq; go_frame)
    | (go_at_call 12; refine (blockAlive_any _ (hK.below hB_1)).mono ?_; rintro e y2 ⟨rfl, hBq⟩; have hV5_2 := hV5.below hBq hV5.lt; have hB_3 := hB_1.trans (hBq.mono hB_1.size); clear hV5 hB_1 hBq; go_frame)
    | ((with_reducible change wpList _ _ _ (Oper.mk (some 23) _ _ _ _ _ :: _) _ _); refine kY (yNotC _ _ true rfl rfl rfl) ?_; go_frame)
    | ((with_reducible change wpList _ _ _ (Oper.mk (some 25) _ _ _ _ _ :: _) _ _); refine kY (yLenHs _ v l n (fun _ e => by cases e; exact hv.below hB_3) hn rfl rfl rfl) ?_; go_frame)
    | ((with_reducible change wpList _ _ _ (Oper.mk (some 26) _ _ _ _ _ :: _) _ _); refine kY (yLssI _ _ _ _ .i64 (n : Int) 2 false rfl rfl rfl rfl d1) ?_; go_frame)
    | ((with_reducible change wpList _ _ _ (Oper.mk (some 29) _ _ _ _ _ :: _) _ _); refine kY (yLenHs _ v l n (fun _ e => by cases e; exact hv.below hB_3) hn rfl rfl rfl) ?_; go_frame)
    | ((with_reducible change wpList _ _ _ (Oper.mk (some 30) _ _ _ _ _ :: _) _ _); refine kY (yGtrI _ _ _ _ .i64 (n : Int) 60 false rfl rfl rfl rfl d2) ?_; go_frame)
    | (go_at_call 11; refine (blRoot_any (l := l) _ (hv.below hB_3) h32 hle (hK.below hB_3)).mono ?_; rintro e y3 ⟨rfl, hBq⟩; have hV5_4 := hV5_2.below hBq hV5_2.lt; have hB_5 := hB_3.trans (hBq.mono hB_3.size); clear hV5_2 hB_3 hBq; go_frame)
    | ((with_reducible change wpList _ _ _ (Oper.mk (some 7) _ _ _ _ _ :: _) _ _); refine kAllocL _ _ rfl rfl zero_Hash ?_; intro y4 hV7 hzq hBq; clear hzq; have hP := hBq; clear hBq; go_frame)
    | ((with_reducible change wpList _ _ _ (Oper.mk none (Op.store _ (Operand.tmp 7) _) _ _ _ _ :: _) _ _); refine kStoreHash _ _ _ (rootL l).1 _ hV7 (by first | exact tab_size _ _ | rfl) rfl rfl rfl rfl ?_; intro y5 hT7 hWq; have hPn := hP.trans (hWq.below (Nat.le_refl _)); clear hP; have hP := hPn; clear hPn; clear hWq hV7; have hV5_6 := hV5_4.below hP hV5_4.lt; have hB_7 := hB_5.trans (hP.mono hB_5.size); clear hV5_4 hB_5 hP; go_frame)
    | ((with_reducible change wpList _ _ _ (Oper.mk (some 39) _ _ _ _ _ :: _) _ _); refine kY (yLenHs _ v l n (fun _ e => by cases e; exact hv.below hB_7) hn rfl rfl rfl) ?_; go_frame)
    | ((with_reducible change wpList _ _ _ (Oper.mk (some 40) _ _ _ _ _ :: _) _ _); refine kY (ySubI _ _ _ _ (n : Int) 2 ((n - 2 : Nat) : Int) (by omega) rfl rfl rfl rfl) ?_; go_frame)
    | ((with_reducible change wpList _ _ _ (Oper.mk (some 41) _ _ _ _ _ :: _) _ _); refine kMinZ _ _ a1 ((n - 2 : Nat) : Int) m1 hm1z rfl rfl rfl rfl ?_; go_frame)
    | ((with_reducible change wpList _ _ _ (Oper.mk (some 42) _ _ _ _ _ :: _) _ _); refine kMaxZ _ _ 0 m1 (k : Int) hkz rfl rfl rfl rfl ?_; go_frame)
    | ((with_reducible change wpList _ _ _ (Oper.mk (some 43) _ _ _ _ _ :: _) _ _); refine kBuildSlice0 _ _ rfl rfl Tryz.underlying46 ih0 hih0 ?_; intro y6 hRe hze hA; clear hze; have hgeB : Hid (W0.heap.size ≤ y5.heap.size) := hB_7.size; have hO43 : OwnHs y6 y5.heap.size (.slice (some ⟨y5.heap.size, 0, none⟩) 0 0) [] := ownR_empty (Nat.le_refl _) hRe; clear hRe; go_frame)
    | ((with_reducible change wpList _ _ _ (Oper.mk (some 45) _ _ _ _ _ :: _) _ _); refine kAppHs _ _ rfl rfl y5.heap.size _ _ [] l rfl hO43 rfl ((hv.below hB_7).below hA) (by simp; omega) hA.size ?_; intro u45 y7 hO45 hA2 hgr; have hBq := hA.trans hA2; have hO45 : OwnHs y7 y5.heap.size u45 l := hO45; clear hO43 hA hA2 hgr; have hV5_8 := hV5_6.below hBq hV5_6.lt; have hT7_9 := hT7.below hBq hT7.lt; have hB_10 := hB_7.trans (hBq.mono hB_7.size); clear hV5_6 hT7 hB_7 hBq; go_frame))
  clear d1 d2 hm1z hkz
  obtain ⟨g, cap, hu, hbg⟩ := own_shape hO45 hn (by omega)
  subst hu
  have hgW : Hid (W0.heap.size ≤ g) := Nat.le_trans hgeB.out hbg
  clear hgeB hbg
  have h2n : 2 ≤ n := by omega
  have hkn : k < n := by omega
  obtain ⟨a, hla⟩ : ∃ a, Hid (l[k]? = some a) := ⟨_, List.getElem?_eq_getElem (by omega)⟩
  obtain ⟨b, hlb⟩ : ∃ b, Hid (l[k + 1]? = some b) := ⟨_, List.getElem?_eq_getElem (by omega)⟩
  refine region_tree (.q 0 (.q 1 (.q 2 (.q 3 (.q 4 (.q 5 (.q 6 (.q 7 (.q 8 (.q 10 (.q 11 (.q 12 (.two 9 (.one 13 (.q 14 (.one 15 (.q 16 (.one 17 .fin))))) 13 (.one 9 (.q 14 (.one 15 (.q 16 (.one 17 .fin))))))))))))))))))  (fun _ => True) (by kernel_rfl) (by kernel_rfl) ?_
  intro z0 hBd hsd
  clear hsd
  have hV5_11 := hV5_8.below hBd hV5_8.lt
  have hT7_12 := hT7_9.below hBd hT7_9.lt
  have hO45_13 := hO45.below hBd
  have hB_14 := hB_10.trans (hBd.mono hB_10.size)
  clear hV5_8 hT7_9 hO45 hB_10 hBd
  have hca := own_cells hn hO45_13 hla.out
  have hcb := own_cells hn hO45_13 hlb.out
  have hS : (fun _ : World => True) z0 := trivial
  refine tY ((.slice (some ⟨g, 0, none⟩) n cap)) hS rfl (yMove _ ((.slice (some ⟨g, 0, none⟩) n cap)) rfl rfl rfl) ?_; go_frame
  refine tY (.int .i64 (k : Int)) hS rfl (yMove _ (.int .i64 (k : Int)) rfl rfl rfl) ?_; go_frame
  refine tY ((.slice (some ⟨g, 0, none⟩) n cap)) hS rfl (yMove _ ((.slice (some ⟨g, 0, none⟩) n cap)) rfl rfl rfl) ?_; go_frame
  refine tY (.int .i64 (k : Int)) hS rfl (yMove _ (.int .i64 (k : Int)) rfl rfl rfl) ?_; go_frame
  refine tY (.int .i64 ((k + 1 : Nat) : Int)) hS rfl (yAddI _ _ _ _ (k : Int) 1 ((k + 1 : Nat) : Int) (by omega) rfl rfl rfl rfl) ?_; go_frame
  refine tY ((.slice (some ⟨g, 0, none⟩) n cap)) hS rfl (yMove _ ((.slice (some ⟨g, 0, none⟩) n cap)) rfl rfl rfl) ?_; go_frame
  refine tY (.int .i64 (k : Int)) hS rfl (yMove _ (.int .i64 (k : Int)) rfl rfl rfl) ?_; go_frame
  refine tY (.int .i64 ((k + 1 : Nat) : Int)) hS rfl (yAddI _ _ _ _ (k : Int) 1 ((k + 1 : Nat) : Int) (by omega) rfl rfl rfl rfl) ?_; go_frame
  refine tY (.pointer (some ⟨g, (k + 1) * 32, none⟩)) hS rfl (yIndexAt _ _ _ _ (k + 1) ⟨g, (k + 1) * 32, none⟩ (run_indexH hk1) rfl rfl rfl rfl) ?_; go_frame
  refine tY ((.slice (some ⟨g, 0, none⟩) n cap)) hS rfl (yMove _ ((.slice (some ⟨g, 0, none⟩) n cap)) rfl rfl rfl) ?_; go_frame
  refine tY (.int .i64 (k : Int)) hS rfl (yMove _ (.int .i64 (k : Int)) rfl rfl rfl) ?_; go_frame
  refine tY (.pointer (some ⟨g, k * 32, none⟩)) hS rfl (yIndexAt _ _ _ _ k ⟨g, k * 32, none⟩ (run_indexH hkn) rfl rfl rfl rfl) ?_; go_frame
  refine tTwoL (HV b) (HV a) hS rfl rfl rfl rfl (by decide) (yLoadHsAt _ ⟨g, (k + 1) * 32, none⟩ b (fun _ e => by cases e; exact hcb) rfl rfl rfl) (yLoadHsAt _ ⟨g, k * 32, none⟩ a (fun _ e => by cases e; exact hca) rfl rfl rfl) (yLoadHsAt _ ⟨g, k * 32, none⟩ a (fun _ e => by cases e; exact hca) rfl rfl rfl) (yLoadHsAt _ ⟨g, (k + 1) * 32, none⟩ b (fun _ e => by cases e; exact hcb) rfl rfl rfl) ?_
  go_frame
  clear hca hcb
  refine tY (.pointer (some ⟨g, k * 32, none⟩)) hS rfl (yIndexAt _ _ _ _ k ⟨g, k * 32, none⟩ (run_indexH hkn) rfl rfl rfl rfl) ?_; go_frame
  refine tOne rfl ?_
  refine kStoreHsN _ _ hn hO45_13 hkn rfl rfl rfl rfl ?_
  intro z1 hOs1 hW1
  have hV5_15 := hW1.row hV5_11 (own_neT hn h2n hO45_13 hV5_11 (.inr (headC_size _)))
  clear hV5_11
  have hT7_16 := hW1.row hT7_12 (own_neT hn h2n hO45_13 hT7_12 (.inl (tab_size _ _)))
  clear hT7_12
  have hB_17 := hB_14.trans (hW1.below hgW.out)
  clear hB_14 hW1 hO45_13
  have hnS : (l.set k b).length = n := by rw [List.length_set]; exact hn
  clear hS
  have hS : (fun _ : World => True) z1 := trivial
  refine mixOn ⟨_, (fun _ h => h), hS, ?_⟩
  go_frame
  refine tY (.pointer (some ⟨g, (k + 1) * 32, none⟩)) hS rfl (yIndexAt _ _ _ _ (k + 1) ⟨g, (k + 1) * 32, none⟩ (run_indexH hk1) rfl rfl rfl rfl) ?_; go_frame
  refine tOne rfl ?_
  refine kStoreHsN _ _ hnS hOs1 hk1 rfl rfl rfl rfl ?_
  intro z2 hOs2 hW2
  have hV5_18 := hW2.row hV5_15 (own_neT hnS h2n hOs1 hV5_15 (.inr (headC_size _)))
  clear hV5_15
  have hT7_19 := hW2.row hT7_16 (own_neT hnS h2n hOs1 hT7_16 (.inl (tab_size _ _)))
  clear hT7_16
  have hB_20 := hB_17.trans (hW2.below hgW.out)
  clear hB_17 hW2 hOs1
  clear hS
  have hS : (fun _ : World => True) z2 := trivial
  refine mixOn ⟨_, (fun _ h => h), hS, ?_⟩
  go_frame
  refine tDone ?_
  clear hS
  obtain ⟨M1, hM1, hl1, hm1, hMk, hle1, hb32⟩ : ∃ M1, (l.set k b).set (k + 1) a = M1 ∧ M1.length = n ∧ (∀ x ∈ M1, x.length = 32) ∧ Hid (M1[k]? = some b) ∧ M1.length ≤ 1000 ∧ b.length = 32 := by
    have ha := h32 a (List.mem_of_getElem? hla.out)
    have hb := h32 b (List.mem_of_getElem? hlb.out)
    refine ⟨_, rfl, by simp [hn], fun x hx => ?_, ?_, by simp; omega, hb⟩
    · rcases List.mem_or_eq_of_mem_set hx with hx | rfl
      · rcases List.mem_or_eq_of_mem_set hx with hx | rfl
        · exact h32 x hx
        · exact hb
      · exact ha
    · show ((l.set k b).set (k + 1) a)[k]? = some b
      rw [List.getElem?_set_ne (by omega), List.getElem?_set_self (by omega)]
  rw [hM1] at hOs2
  clear hM1 hla hlb hnS
  go_wp2_with (first
    | (go_at_call 11; refine (blRoot_any (l := M1) _ hOs2.of hm1 hle1 (hK.below hB_20)).mono ?_; rintro e y21 ⟨rfl, hBq⟩; have hV5_21 := hV5_18.below hBq hV5_18.lt; have hT7_22 := hT7_19.below hBq hT7_19.lt; have hO45_23 := hOs2.below hBq; have hB_24 := hB_20.trans (hBq.mono hB_20.size); clear hV5_18 hT7_19 hOs2 hB_20 hBq; go_frame)
    | ((with_reducible change wpList _ _ _ (Oper.mk (some 11) _ _ _ _ _ :: _) _ _); refine kAllocL _ _ rfl rfl zero_Hash ?_; intro y22 hV11 hzq hBq; clear hzq; have hP := hBq; clear hBq; go_frame)
    | ((with_reducible change wpList _ _ _ (Oper.mk none (Op.store _ (Operand.tmp 11) _) _ _ _ _ :: _) _ _); refine kStoreHash _ _ _ (rootL M1).1 _ hV11 (by first | exact tab_size _ _ | rfl) rfl rfl rfl rfl ?_; intro y23 hT11 hWq; have hPn := hP.trans (hWq.below (Nat.le_refl _)); clear hP; have hP := hPn; clear hPn; clear hWq hV11; have hV5_25 := hV5_21.below hP hV5_21.lt; have hT7_26 := hT7_22.below hP hT7_22.lt; have hO45_27 := hO45_23.below hP; have hB_28 := hB_24.trans (hP.mono hB_24.size); clear hV5_21 hT7_22 hO45_23 hB_24 hP; go_frame))
  obtain ⟨c, hc⟩ : ∃ c : UInt8, Hid (at8 b 3 = c) := ⟨_, (rfl : at8 b 3 = at8 b 3)⟩
  obtain ⟨cura, hcr, hcz, hcn⟩ := own_rowT hO45_27 hl1 (by omega)
  clear hcz hcn
  have hcc : cura[k * 32 + 3]? = some (VB c) := by rw [own_cell hl1 hO45_27 hcr hMk.out (by decide), hc.out]
  refine region_mixD [(0, true), (1, true), (2, true), (3, true), (6, true), (4, false), (5, true), (7, true), (8, false)] (fun _ => True) (by kernel_rfl) (by kernel_rfl) rfl ?_
  intro zra hBd hsd
  clear hsd
  have hcs := hcr.below hBd hcr.lt
  clear hcr
  have hV5_29 := hV5_25.below hBd hV5_25.lt
  have hT7_30 := hT7_26.below hBd hT7_26.lt
  have hO45_31 := hO45_27.below hBd
  have hT11_32 := hT11.below hBd hT11.lt
  have hB_33 := hB_28.trans (hBd.mono hB_28.size)
  clear hV5_25 hT7_26 hO45_27 hT11 hB_28 hBd
  have hS : (fun _ : World => True) zra := trivial
  simp only [List.map_cons, List.map_nil]
  dsimp only [List.filterMap, List.getElem?_cons_zero, List.getElem?_cons_succ]
  refine dY _ hS (yMove _ ((.slice (some ⟨g, 0, none⟩) n cap)) rfl rfl rfl) ?_; go_frame
  refine dY _ hS (yMove _ (.int .i64 (k : Int)) rfl rfl rfl) ?_; go_frame
  refine dY _ hS (yIndexAt _ _ _ _ k ⟨g, k * 32, none⟩ (run_indexH hkn) rfl rfl rfl rfl) ?_; go_frame
  refine dY _ hS (yIdxArr Tryz.underlying24 info_b8P _ _ g (k * 32) 3 (k * 32 + 3) (by decide) rfl rfl rfl rfl rfl) ?_; go_frame
  refine dY _ hS (yIndexAt _ _ _ _ k ⟨g, k * 32, none⟩ (run_indexH hkn) rfl rfl rfl rfl) ?_; go_frame
  refine dLoud ?_
  refine kY (yLoad1 _ _ _ g (k * 32 + 3) cura (VB c) _ rfl rfl rfl (fun _ e => by cases e; exact hcs) Tryz.underlying5 rfl hcc) ?_
  refine mixOn ⟨_, (fun _ h => h), hS, ?_⟩
  go_frame
  clear hcs hcc
  refine dY _ hS (yAddB1 _ _ _ _ c rfl rfl rfl rfl) ?_; go_frame
  refine dY _ hS (yIdxArr Tryz.underlying24 info_b8P _ _ g (k * 32) 3 (k * 32 + 3) (by decide) rfl rfl rfl rfl rfl) ?_; go_frame
  clear hS
  refine dLoud ?_
  refine kStoreHs1N _ _ hl1 hO45_31 hMk.out hb32 (by decide) rfl rfl rfl rfl ?_
  intro zsa hOna hWn
  have hV5_34 := hWn.row hV5_29 (own_neT hl1 h2n hO45_31 hV5_29 (.inr (headC_size _)))
  clear hV5_29
  have hT7_35 := hWn.row hT7_30 (own_neT hl1 h2n hO45_31 hT7_30 (.inl (tab_size _ _)))
  clear hT7_30
  have hT11_36 := hWn.row hT11_32 (own_neT hl1 h2n hO45_31 hT11_32 (.inl (tab_size _ _)))
  clear hT11_32
  have hB_37 := hB_33.trans (hWn.below hgW.out)
  clear hB_33 hWn hO45_31
  refine mixOn ⟨(fun _ => True), (fun _ h => h), trivial, ?_⟩
  go_frame
  refine dDone ?_
  obtain ⟨b2, hb2, hb232, hc2, hbb⟩ : ∃ b2, b.set 3 (c + 1) = b2 ∧ b2.length = 32 ∧ Hid (at8 b2 3 = c + 1) ∧ Hid (b2.set 3 c = b) := ⟨_, rfl, by rw [List.length_set]; exact hb32, (at8_set (by omega) : at8 (b.set 3 (c + 1)) 3 = c + 1), (set_back hc.out : (b.set 3 (c + 1)).set 3 c = b)⟩
  rw [hb2] at hOna
  clear hb2
  obtain ⟨M2, hM2, hl2, hm2, hMk2, hle2, hback⟩ : ∃ M2, M1.set k b2 = M2 ∧ M2.length = n ∧ (∀ x ∈ M2, x.length = 32) ∧ Hid (M2[k]? = some b2) ∧ M2.length ≤ 1000 ∧ Hid (M2.set k (b2.set 3 c) = M1) := by
    refine ⟨_, rfl, by simp [hl1], fun x hx => ?_, ?_, by simp; omega, ?_⟩
    · rcases List.mem_or_eq_of_mem_set hx with hx | rfl
      · exact hm1 x hx
      · exact hb232
    · show (M1.set k b2)[k]? = some b2
      rw [List.getElem?_set_self (by omega)]
    · show (M1.set k b2).set k (b2.set 3 c) = M1
      rw [hbb.out, List.set_set]
      have e := hMk.out
      obtain ⟨hk3, e⟩ := List.getElem?_eq_some_iff.1 e
      rw [← e]; exact List.set_getElem_self hk3
  rw [hM2] at hOna
  clear hM2 hbb
  go_wp2_with (first
    | (go_at_call 11; refine (blRoot_any (l := M2) _ hOna.of hm2 hle2 (hK.below hB_37)).mono ?_; rintro e y24 ⟨rfl, hBq⟩; have hV5_38 := hV5_34.below hBq hV5_34.lt; have hT7_39 := hT7_35.below hBq hT7_35.lt; have hO45_40 := hOna.below hBq; have hT11_41 := hT11_36.below hBq hT11_36.lt; have hB_42 := hB_37.trans (hBq.mono hB_37.size); clear hV5_34 hT7_35 hOna hT11_36 hB_37 hBq; go_frame)
    | ((with_reducible change wpList _ _ _ (Oper.mk (some 13) _ _ _ _ _ :: _) _ _); refine kAllocL _ _ rfl rfl zero_Hash ?_; intro y25 hV13 hzq hBq; clear hzq; have hP := hBq; clear hBq; go_frame)
    | ((with_reducible change wpList _ _ _ (Oper.mk none (Op.store _ (Operand.tmp 13) _) _ _ _ _ :: _) _ _); refine kStoreHash _ _ _ (rootL M2).1 _ hV13 (by first | exact tab_size _ _ | rfl) rfl rfl rfl rfl ?_; intro y26 hT13 hWq; have hPn := hP.trans (hWq.below (Nat.le_refl _)); clear hP; have hP := hPn; clear hPn; clear hWq hV13; have hV5_43 := hV5_38.below hP hV5_38.lt; have hT7_44 := hT7_39.below hP hT7_39.lt; have hO45_45 := hO45_40.below hP; have hT11_46 := hT11_41.below hP hT11_41.lt; have hB_47 := hB_42.trans (hP.mono hB_42.size); clear hV5_38 hT7_39 hO45_40 hT11_41 hB_42 hP; go_frame)
    | (go_at_call 18; refine (xRoot_any (l := l) _ (hv.below hB_47) h32 hle).mono ?_; rintro e y27 ⟨rfl, hBq⟩; have hV5_48 := hV5_43.below hBq hV5_43.lt; have hT7_49 := hT7_44.below hBq hT7_44.lt; have hO45_50 := hO45_45.below hBq; have hT11_51 := hT11_46.below hBq hT11_46.lt; have hT13_52 := hT13.below hBq hT13.lt; have hB_53 := hB_47.trans (hBq.mono hB_47.size); clear hV5_43 hT7_44 hO45_45 hT11_46 hT13 hB_47 hBq; go_frame)
    | ((with_reducible change wpList _ _ _ (Oper.mk (some 15) _ _ _ _ _ :: _) _ _); refine kAllocL _ _ rfl rfl zero_Hash ?_; intro y28 hV15 hzq hBq; clear hzq; have hP := hBq; clear hBq; go_frame)
    | ((with_reducible change wpList _ _ _ (Oper.mk none (Op.store _ (Operand.tmp 15) _) _ _ _ _ :: _) _ _); refine kStoreHash _ _ _ (rootL l).1 _ hV15 (by first | exact tab_size _ _ | rfl) rfl rfl rfl rfl ?_; intro y29 hT15 hWq; have hPn := hP.trans (hWq.below (Nat.le_refl _)); clear hP; have hP := hPn; clear hPn; clear hWq hV15; have hV5_54 := hV5_48.below hP hV5_48.lt; have hT7_55 := hT7_49.below hP hT7_49.lt; have hO45_56 := hO45_50.below hP; have hT11_57 := hT11_51.below hP hT11_51.lt; have hT13_58 := hT13_52.below hP hT13_52.lt; have hB_59 := hB_53.trans (hP.mono hB_53.size); clear hV5_48 hT7_49 hO45_50 hT11_51 hT13_52 hB_53 hP; go_frame)
    | (go_at_call 18; refine (xRoot_any (l := M2) _ hO45_56.of hm2 hle2).mono ?_; rintro e y30 ⟨rfl, hBq⟩; have hV5_60 := hV5_54.below hBq hV5_54.lt; have hT7_61 := hT7_55.below hBq hT7_55.lt; have hO45_62 := hO45_56.below hBq; have hT11_63 := hT11_57.below hBq hT11_57.lt; have hT13_64 := hT13_58.below hBq hT13_58.lt; have hT15_65 := hT15.below hBq hT15.lt; have hB_66 := hB_59.trans (hBq.mono hB_59.size); clear hV5_54 hT7_55 hO45_56 hT11_57 hT13_58 hT15 hB_59 hBq; go_frame)
    | ((with_reducible change wpList _ _ _ (Oper.mk (some 17) _ _ _ _ _ :: _) _ _); refine kAllocL _ _ rfl rfl zero_Hash ?_; intro y31 hV17 hzq hBq; clear hzq; have hP := hBq; clear hBq; go_frame)
    | ((with_reducible change wpList _ _ _ (Oper.mk none (Op.store _ (Operand.tmp 17) _) _ _ _ _ :: _) _ _); refine kStoreHash _ _ _ (rootL M2).1 _ hV17 (by first | exact tab_size _ _ | rfl) rfl rfl rfl rfl ?_; intro y32 hT17 hWq; have hPn := hP.trans (hWq.below (Nat.le_refl _)); clear hP; have hP := hPn; clear hPn; clear hWq hV17; have hV5_67 := hV5_60.below hP hV5_60.lt; have hT7_68 := hT7_61.below hP hT7_61.lt; have hO45_69 := hO45_62.below hP; have hT11_70 := hT11_63.below hP hT11_63.lt; have hT13_71 := hT13_64.below hP hT13_64.lt; have hT15_72 := hT15_65.below hP hT15_65.lt; have hB_73 := hB_66.trans (hP.mono hB_66.size); clear hV5_60 hT7_61 hO45_62 hT11_63 hT13_64 hT15_65 hB_66 hP; go_frame))
  obtain ⟨curb, hcr, hcz, hcn⟩ := own_rowT hO45_69 hl2 (by omega)
  clear hcz hcn
  have hcc : curb[k * 32 + 3]? = some (VB (c + 1)) := by rw [own_cell hl2 hO45_69 hcr hMk2.out (by decide), hc2.out]
  refine region_mixD [(0, true), (1, true), (2, true), (3, true), (6, true), (4, false), (5, true), (7, true), (8, false)] (fun _ => True) (by kernel_rfl) (by kernel_rfl) rfl ?_
  intro zrb hBd hsd
  clear hsd
  have hcs := hcr.below hBd hcr.lt
  clear hcr
  have hV5_74 := hV5_67.below hBd hV5_67.lt
  have hT7_75 := hT7_68.below hBd hT7_68.lt
  have hO45_76 := hO45_69.below hBd
  have hT11_77 := hT11_70.below hBd hT11_70.lt
  have hT13_78 := hT13_71.below hBd hT13_71.lt
  have hT15_79 := hT15_72.below hBd hT15_72.lt
  have hT17_80 := hT17.below hBd hT17.lt
  have hB_81 := hB_73.trans (hBd.mono hB_73.size)
  clear hV5_67 hT7_68 hO45_69 hT11_70 hT13_71 hT15_72 hT17 hB_73 hBd
  have hS : (fun _ : World => True) zrb := trivial
  simp only [List.map_cons, List.map_nil]
  dsimp only [List.filterMap, List.getElem?_cons_zero, List.getElem?_cons_succ]
  refine dY _ hS (yMove _ ((.slice (some ⟨g, 0, none⟩) n cap)) rfl rfl rfl) ?_; go_frame
  refine dY _ hS (yMove _ (.int .i64 (k : Int)) rfl rfl rfl) ?_; go_frame
  refine dY _ hS (yIndexAt _ _ _ _ k ⟨g, k * 32, none⟩ (run_indexH hkn) rfl rfl rfl rfl) ?_; go_frame
  refine dY _ hS (yIdxArr Tryz.underlying24 info_b8P _ _ g (k * 32) 3 (k * 32 + 3) (by decide) rfl rfl rfl rfl rfl) ?_; go_frame
  refine dY _ hS (yIndexAt _ _ _ _ k ⟨g, k * 32, none⟩ (run_indexH hkn) rfl rfl rfl rfl) ?_; go_frame
  refine dLoud ?_
  refine kY (yLoad1 _ _ _ g (k * 32 + 3) curb (VB (c + 1)) _ rfl rfl rfl (fun _ e => by cases e; exact hcs) Tryz.underlying5 rfl hcc) ?_
  refine mixOn ⟨_, (fun _ h => h), hS, ?_⟩
  go_frame
  clear hcs hcc
  refine dY _ hS (ySubB1 _ _ _ _ c rfl rfl rfl rfl) ?_; go_frame
  refine dY _ hS (yIdxArr Tryz.underlying24 info_b8P _ _ g (k * 32) 3 (k * 32 + 3) (by decide) rfl rfl rfl rfl rfl) ?_; go_frame
  clear hS
  refine dLoud ?_
  refine kStoreHs1N _ _ hl2 hO45_76 hMk2.out hb232 (by decide) rfl rfl rfl rfl ?_
  intro zsb hOnb hWn
  have hV5_82 := hWn.row hV5_74 (own_neT hl2 h2n hO45_76 hV5_74 (.inr (headC_size _)))
  clear hV5_74
  have hT7_83 := hWn.row hT7_75 (own_neT hl2 h2n hO45_76 hT7_75 (.inl (tab_size _ _)))
  clear hT7_75
  have hT11_84 := hWn.row hT11_77 (own_neT hl2 h2n hO45_76 hT11_77 (.inl (tab_size _ _)))
  clear hT11_77
  have hT13_85 := hWn.row hT13_78 (own_neT hl2 h2n hO45_76 hT13_78 (.inl (tab_size _ _)))
  clear hT13_78
  have hT15_86 := hWn.row hT15_79 (own_neT hl2 h2n hO45_76 hT15_79 (.inl (tab_size _ _)))
  clear hT15_79
  have hT17_87 := hWn.row hT17_80 (own_neT hl2 h2n hO45_76 hT17_80 (.inl (tab_size _ _)))
  clear hT17_80
  have hB_88 := hB_81.trans (hWn.below hgW.out)
  clear hB_81 hWn hO45_76
  refine mixOn ⟨(fun _ => True), (fun _ h => h), trivial, ?_⟩
  go_frame
  refine dDone ?_
  rw [hback.out] at hOnb
  go_wp2_with (first
    | (go_at_call 18; refine (xRoot_any (l := M1) _ hOnb.of hm1 hle1).mono ?_; rintro e y33 ⟨rfl, hBq⟩; have hV5_89 := hV5_82.below hBq hV5_82.lt; have hT7_90 := hT7_83.below hBq hT7_83.lt; have hO45_91 := hOnb.below hBq; have hT11_92 := hT11_84.below hBq hT11_84.lt; have hT13_93 := hT13_85.below hBq hT13_85.lt; have hT15_94 := hT15_86.below hBq hT15_86.lt; have hT17_95 := hT17_87.below hBq hT17_87.lt; have hB_96 := hB_88.trans (hBq.mono hB_88.size); clear hV5_82 hT7_83 hOnb hT11_84 hT13_85 hT15_86 hT17_87 hB_88 hBq; go_frame)
    | ((with_reducible change wpList _ _ _ (Oper.mk (some 19) _ _ _ _ _ :: _) _ _); refine kAllocL _ _ rfl rfl zero_Hash ?_; intro y34 hV19 hzq hBq; clear hzq; have hP := hBq; clear hBq; go_frame)
    | ((with_reducible change wpList _ _ _ (Oper.mk none (Op.store _ (Operand.tmp 19) _) _ _ _ _ :: _) _ _); refine kStoreHash _ _ _ (rootL M1).1 _ hV19 (by first | exact tab_size _ _ | rfl) rfl rfl rfl rfl ?_; intro y35 hT19 hWq; have hPn := hP.trans (hWq.below (Nat.le_refl _)); clear hP; have hP := hPn; clear hPn; clear hWq hV19; have hV5_97 := hV5_89.below hP hV5_89.lt; have hT7_98 := hT7_90.below hP hT7_90.lt; have hO45_99 := hO45_91.below hP; have hT11_100 := hT11_92.below hP hT11_92.lt; have hT13_101 := hT13_93.below hP hT13_93.lt; have hT15_102 := hT15_94.below hP hT15_94.lt; have hT17_103 := hT17_95.below hP hT17_95.lt; have hB_104 := hB_96.trans (hP.mono hB_96.size); clear hV5_89 hT7_90 hO45_91 hT11_92 hT13_93 hT15_94 hT17_95 hB_96 hP; go_frame))
  obtain ⟨e1, he1⟩ : ∃ e, decide ((rootL l).1 = (rootL M1).1) = e := ⟨_, rfl⟩
  obtain ⟨e2, he2⟩ : ∃ e, decide ((rootL l).1 = (rootL M2).1) = e := ⟨_, rfl⟩
  go_wp2
  refine region_mixD [(0, true), (1, true), (2, true), (3, true), (4, true), (5, true), (6, true), (7, true), (8, true), (9, true), (10, true), (11, true), (12, true), (13, true), (14, true), (15, true)] (fun w => (Row w W0.heap.size 26 (headC h)) ∧ (Row w y3.heap.size 24 (tab 32 fun p => VB (at8 ((rootL l).1) p))) ∧ (Row w y21.heap.size 24 (tab 32 fun p => VB (at8 ((rootL M1).1) p))) ∧ (Row w y24.heap.size 24 (tab 32 fun p => VB (at8 ((rootL M2).1) p))) ∧ (Row w y27.heap.size 24 (tab 32 fun p => VB (at8 ((rootL l).1) p))) ∧ (Row w y30.heap.size 24 (tab 32 fun p => VB (at8 ((rootL M2).1) p))) ∧ (Row w y33.heap.size 24 (tab 32 fun p => VB (at8 ((rootL M1).1) p)))) (by kernel_rfl) (by kernel_rfl) rfl ?_
  intro z0 hBd hsd
  clear hsd
  have hV5_105 := hV5_97.below hBd hV5_97.lt
  have hT7_106 := hT7_98.below hBd hT7_98.lt
  have hT11_107 := hT11_100.below hBd hT11_100.lt
  have hT13_108 := hT13_101.below hBd hT13_101.lt
  have hT15_109 := hT15_102.below hBd hT15_102.lt
  have hT17_110 := hT17_103.below hBd hT17_103.lt
  have hT19_111 := hT19.below hBd hT19.lt
  have hB_112 := hB_104.trans (hBd.mono hB_104.size)
  clear hV5_97 hT7_98 hT11_100 hT13_101 hT15_102 hT17_103 hT19 hB_104 hBd
  simp only [List.map_cons, List.map_nil]
  dsimp only [List.filterMap, List.getElem?_cons_zero, List.getElem?_cons_succ]
  have hS : (Row z0 W0.heap.size 26 (headC h)) ∧ (Row z0 y3.heap.size 24 (tab 32 fun p => VB (at8 ((rootL l).1) p))) ∧ (Row z0 y21.heap.size 24 (tab 32 fun p => VB (at8 ((rootL M1).1) p))) ∧ (Row z0 y24.heap.size 24 (tab 32 fun p => VB (at8 ((rootL M2).1) p))) ∧ (Row z0 y27.heap.size 24 (tab 32 fun p => VB (at8 ((rootL l).1) p))) ∧ (Row z0 y30.heap.size 24 (tab 32 fun p => VB (at8 ((rootL M2).1) p))) ∧ (Row z0 y33.heap.size 24 (tab 32 fun p => VB (at8 ((rootL M1).1) p))) := ⟨hV5_105, hT7_106, hT11_107, hT13_108, hT15_109, hT17_110, hT19_111⟩
  refine dY _ hS (yLoadRowC Tryz.underlying24 rfl _ _ (tab 32 fun p => VB (at8 ((rootL l).1) p)) info_HashT (fun _ h => h.2.1) rfl rfl rfl) ?_; go_frame
  refine dY _ hS (yLoadRowC Tryz.underlying24 rfl _ _ (tab 32 fun p => VB (at8 ((rootL M1).1) p)) info_HashT (fun _ h => h.2.2.1) rfl rfl rfl) ?_; go_frame
  refine dY _ hS (yEqlHash _ _ _ (rootL l).1 (rootL M1).1 e1 ((rootL_len h32)) ((rootL_len hm1)) rfl rfl rfl rfl he1) ?_; go_frame
  refine dY _ hS (yLoadRowC Tryz.underlying24 rfl _ _ (tab 32 fun p => VB (at8 ((rootL l).1) p)) info_HashT (fun _ h => h.2.2.2.2.1) rfl rfl rfl) ?_; go_frame
  refine dY _ hS (yLoadRowC Tryz.underlying24 rfl _ _ (tab 32 fun p => VB (at8 ((rootL M1).1) p)) info_HashT (fun _ h => h.2.2.2.2.2.2) rfl rfl rfl) ?_; go_frame
  refine dY _ hS (yEqlHash _ _ _ (rootL l).1 (rootL M1).1 e1 ((rootL_len h32)) ((rootL_len hm1)) rfl rfl rfl rfl he1) ?_; go_frame
  refine dY _ hS (yNeqBoolT _ _ _ _ e1 e1 false rfl rfl rfl rfl Tryz.underlying4 (by simp)) ?_; go_frame
  refine dY _ hS (yMove _ (.bool false) rfl rfl rfl) ?_; go_frame
  refine dY _ hS (yLoadRowC Tryz.underlying24 rfl _ _ (tab 32 fun p => VB (at8 ((rootL l).1) p)) info_HashT (fun _ h => h.2.1) rfl rfl rfl) ?_; go_frame
  refine dY _ hS (yLoadRowC Tryz.underlying24 rfl _ _ (tab 32 fun p => VB (at8 ((rootL M2).1) p)) info_HashT (fun _ h => h.2.2.2.1) rfl rfl rfl) ?_; go_frame
  refine dY _ hS (yEqlHash _ _ _ (rootL l).1 (rootL M2).1 e2 ((rootL_len h32)) ((rootL_len hm2)) rfl rfl rfl rfl he2) ?_; go_frame
  refine dY _ hS (yLoadRowC Tryz.underlying24 rfl _ _ (tab 32 fun p => VB (at8 ((rootL l).1) p)) info_HashT (fun _ h => h.2.2.2.2.1) rfl rfl rfl) ?_; go_frame
  refine dY _ hS (yLoadRowC Tryz.underlying24 rfl _ _ (tab 32 fun p => VB (at8 ((rootL M2).1) p)) info_HashT (fun _ h => h.2.2.2.2.2.1) rfl rfl rfl) ?_; go_frame
  refine dY _ hS (yEqlHash _ _ _ (rootL l).1 (rootL M2).1 e2 ((rootL_len h32)) ((rootL_len hm2)) rfl rfl rfl rfl he2) ?_; go_frame
  refine dY _ hS (yNeqBoolT _ _ _ _ e2 e2 false rfl rfl rfl rfl Tryz.underlying4 (by simp)) ?_; go_frame
  refine dY _ hS (yPick _ _ _ false (.bool false) rfl rfl rfl rfl) ?_; go_frame
  refine dDone ?_
  clear he1 he2
  go_wp2_with (first
    | ((with_reducible change wpList _ _ _ (Oper.mk (some 119) _ _ _ _ _ :: _) _ _); refine kY (yLoadRowC Tryz.underlying26 rfl _ _ (headC h) (info_HeadS _) (fun _ e => by cases e; exact hV5_105) rfl rfl rfl) ?_; go_frame)
    | ((with_reducible change wpList _ _ _ (Oper.mk (some 21) _ _ _ _ _ :: _) _ _); refine kAllocL _ _ rfl rfl zero_HeadC ?_; intro y36 hV21 hzq hBq; clear hzq; have hlt5 : Hid (W0.heap.size < z0.heap.size) := hV5_105.lt; have hP := hBq; clear hBq; go_frame)
    | ((with_reducible change wpList _ _ _ (Oper.mk none (Op.store _ (Operand.tmp 21) _) _ _ _ _ :: _) _ _); refine kStoreHead _ _ _ h _ hV21 (headC_size _) rfl rfl rfl rfl ?_; intro y37 hT21 hWq; have hPn := hP.trans (hWq.below (Nat.le_refl _)); clear hP; have hP := hPn; clear hPn; clear hWq hV21; have hV5_113 := hV5_105.below hP hV5_105.lt; have hB_114 := hB_112.trans (hP.mono hB_112.size); clear hV5_105 hB_112 hP; go_frame)
    | ((with_reducible change wpList _ _ _ (Oper.mk (some 120) _ _ _ _ _ :: _) _ _); refine kY (yFld headF5 _ _ 0 67 rfl rfl rfl rfl) ?_; go_frame)
    | ((with_reducible change wpList _ _ _ (Oper.mk (some 121) _ _ _ _ _ :: _) _ _); refine kY (yLoad1 _ _ _ z0.heap.size 67 (headC h) (.int .u32 ((h.nonce : Int))) _ rfl rfl rfl (fun _ e => by cases e; exact hT21) Tryz.underlying22 rfl (headC_67 _)) ?_; go_frame)
    | ((with_reducible change wpList _ _ _ (Oper.mk (some 122) _ _ _ _ _ :: _) _ _); refine kY (yAddW1 _ _ _ _ h.nonce hh.2.2.2.2.2 rfl rfl rfl rfl) ?_; go_frame)
    | ((with_reducible change wpList _ _ _ (Oper.mk (some 123) _ _ _ _ _ :: _) _ _); refine kY (yFld headF5 _ _ 0 67 rfl rfl rfl rfl) ?_; go_frame)
    | ((with_reducible change wpList _ _ _ (Oper.mk none (Op.store _ (Operand.tmp 123) _) _ _ _ _ :: _) _ _); refine kStore1 _ _ _ _ z0.heap.size 67 _ (.int .u32 (((h.nonce + 1) % 4294967296 : Nat) : Int)) rfl rfl rfl rfl hT21 info_u32B (by rw [headC_size]; decide) rfl ?_; intro y38 hN19 hWq; rw [headC_non] at hN19; have hN21 : Row y38 z0.heap.size 26 (headC (headNext h)) := hN19; have hV5_115 := hWq.row hV5_113 (Nat.ne_of_lt hlt5.out); have hB_116 := hB_114.trans (hWq.below (Nat.le_of_lt hlt5.out)); clear hN19 hWq hV5_113 hB_114 hT21; go_frame))
  obtain ⟨e3, he3⟩ : ∃ e, decide ((hidL (headNext h)) = (hidL h)) = e := ⟨_, rfl⟩
  go_wp2
  refine region_mixD [(0, true), (2, true), (5, true), (7, true), (1, false), (3, false), (4, true), (6, false), (8, false), (9, true), (10, true), (11, true)] (fun w => (Row w W0.heap.size 26 (headC h)) ∧ (Row w z0.heap.size 26 (headC (headNext h)))) (by kernel_rfl) (by kernel_rfl) rfl ?_
  intro zz0 hBd hsd
  clear hsd
  have hV5_117 := hV5_115.below hBd hV5_115.lt
  have hN21_118 := hN21.below hBd hN21.lt
  have hB_119 := hB_116.trans (hBd.mono hB_116.size)
  clear hV5_115 hN21 hB_116 hBd
  simp only [List.map_cons, List.map_nil]
  dsimp only [List.filterMap, List.getElem?_cons_zero, List.getElem?_cons_succ]
  have hS : (Row zz0 W0.heap.size 26 (headC h)) ∧ (Row zz0 z0.heap.size 26 (headC (headNext h))) := ⟨hV5_117, hN21_118⟩
  refine dY _ hS (yLoadRowC Tryz.underlying26 rfl _ _ (headC (headNext h)) (info_HeadS _) (fun _ h => h.2) rfl rfl rfl) ?_; go_frame
  refine dY _ hS (yLoadRowC Tryz.underlying26 rfl _ _ (headC h) (info_HeadS _) (fun _ h => h.1) rfl rfl rfl) ?_; go_frame
  refine dY _ hS (yLoadRowC Tryz.underlying26 rfl _ _ (headC (headNext h)) (info_HeadS _) (fun _ h => h.2) rfl rfl rfl) ?_; go_frame
  refine dY _ hS (yLoadRowC Tryz.underlying26 rfl _ _ (headC h) (info_HeadS _) (fun _ h => h.1) rfl rfl rfl) ?_; go_frame
  refine dLoud ?_
  refine kCall1 16 _ _ _ rfl rfl (by kernel_rfl) rfl ?_
  refine (blId_any (h := (headNext h)) _ (headNext_is hh) (hK.below hB_119)).mono ?_
  rintro e y39 ⟨rfl, hBq⟩
  clear hS
  have hV5_120 := hV5_117.below hBq hV5_117.lt
  have hN21_121 := hN21_118.below hBq hN21_118.lt
  have hB_122 := hB_119.trans (hBq.mono hB_119.size)
  clear hV5_117 hN21_118 hB_119 hBq
  have hS : (Row y39 W0.heap.size 26 (headC h)) ∧ (Row y39 z0.heap.size 26 (headC (headNext h))) := ⟨hV5_120, hN21_121⟩
  refine ⟨_, rfl, mixOn ⟨(fun w => (Row w W0.heap.size 26 (headC h)) ∧ (Row w z0.heap.size 26 (headC (headNext h)))), (fun _ h => ⟨h.1, h.2⟩), hS, ?_⟩⟩
  go_frame
  refine dLoud ?_
  refine kCall1 16 _ _ _ rfl rfl (by kernel_rfl) rfl ?_
  refine (blId_any (h := h) _ hh (hK.below hB_122)).mono ?_
  rintro e y40 ⟨rfl, hBq⟩
  clear hS
  have hV5_123 := hV5_120.below hBq hV5_120.lt
  have hN21_124 := hN21_121.below hBq hN21_121.lt
  have hB_125 := hB_122.trans (hBq.mono hB_122.size)
  clear hV5_120 hN21_121 hB_122 hBq
  have hS : (Row y40 W0.heap.size 26 (headC h)) ∧ (Row y40 z0.heap.size 26 (headC (headNext h))) := ⟨hV5_123, hN21_124⟩
  refine ⟨_, rfl, mixOn ⟨(fun w => (Row w W0.heap.size 26 (headC h)) ∧ (Row w z0.heap.size 26 (headC (headNext h)))), (fun _ h => ⟨h.1, h.2⟩), hS, ?_⟩⟩
  go_frame
  refine dY _ hS (yEqlHash _ _ _ (hidL (headNext h)) (hidL h) e3 (hidL_len _) (hidL_len _) rfl rfl rfl rfl he3) ?_; go_frame
  refine dLoud ?_
  refine kCall1 17 _ _ _ rfl rfl (by kernel_rfl) rfl ?_
  refine (xId_any (h := (headNext h)) _ (headNext_is hh)).mono ?_
  rintro e y41 ⟨rfl, hBq⟩
  clear hS
  have hV5_126 := hV5_123.below hBq hV5_123.lt
  have hN21_127 := hN21_124.below hBq hN21_124.lt
  have hB_128 := hB_125.trans (hBq.mono hB_125.size)
  clear hV5_123 hN21_124 hB_125 hBq
  have hS : (Row y41 W0.heap.size 26 (headC h)) ∧ (Row y41 z0.heap.size 26 (headC (headNext h))) := ⟨hV5_126, hN21_127⟩
  refine ⟨_, rfl, mixOn ⟨(fun w => (Row w W0.heap.size 26 (headC h)) ∧ (Row w z0.heap.size 26 (headC (headNext h)))), (fun _ h => ⟨h.1, h.2⟩), hS, ?_⟩⟩
  go_frame
  refine dLoud ?_
  refine kCall1 17 _ _ _ rfl rfl (by kernel_rfl) rfl ?_
  refine (xId_any (h := h) _ hh).mono ?_
  rintro e y42 ⟨rfl, hBq⟩
  clear hS
  have hV5_129 := hV5_126.below hBq hV5_126.lt
  have hN21_130 := hN21_127.below hBq hN21_127.lt
  have hB_131 := hB_128.trans (hBq.mono hB_128.size)
  clear hV5_126 hN21_127 hB_128 hBq
  have hS : (Row y42 W0.heap.size 26 (headC h)) ∧ (Row y42 z0.heap.size 26 (headC (headNext h))) := ⟨hV5_129, hN21_130⟩
  refine ⟨_, rfl, mixOn ⟨(fun w => (Row w W0.heap.size 26 (headC h)) ∧ (Row w z0.heap.size 26 (headC (headNext h)))), (fun _ h => ⟨h.1, h.2⟩), hS, ?_⟩⟩
  go_frame
  refine dY _ hS (yEqlHash _ _ _ (hidL (headNext h)) (hidL h) e3 (hidL_len _) (hidL_len _) rfl rfl rfl rfl he3) ?_; go_frame
  refine dY _ hS (yEqlBoolT _ _ _ _ e3 e3 true rfl rfl rfl rfl Tryz.underlying4 (by simp)) ?_; go_frame
  refine dY _ hS (yAssign _ (.bool true) rfl rfl rfl) ?_; go_frame
  refine dDone ?_
  go_wp2
  go_ret
  exact ⟨rfl, hB_131⟩
end Go.Proofs.YtmfjgehlkbndjaaGreatDoor
