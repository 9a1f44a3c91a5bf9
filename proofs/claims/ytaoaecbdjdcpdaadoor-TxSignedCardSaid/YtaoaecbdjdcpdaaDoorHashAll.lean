/-
  Joined: TxHash0, TxHash.
-/
import Derived.Test.YtaoaecbdjdcpdaaDoorTxCheck
/-
  Layer 10: what is signed, the program's and the reference's.
-/
namespace Go.Proofs.YtaoaecbdjdcpdaaDoor
open Go Go.RowKit

def bareI (i : InP) : InP := ⟨i.id, i.at', [], i.order⟩
def bareL (is : List InP) : List InP := is.map bareI
def bz (z : InP × Value) : InP × Value := (bareI z.1, .slice none 0 0)
def putI (i : InP) (l : List UInt8) : InP := ⟨i.id, i.at', l, i.order⟩
def hashIns (is : List InP) (i : Int) (lock : List UInt8) : List InP := is.mapIdx fun k x => putI x (if (k : Int) = i then lock else [])
def hashT (t : TxP) (i : Int) (lock : List UInt8) : TxP := ⟨t.version, hashIns t.ins i lock, t.outs, t.end'⟩
def u32N (i : Int) : Nat := (i % 4294967296).toNat
def hashL (t : TxP) (i : Int) (lock : List UInt8) : List UInt8 := sha (sha (txL (hashT t i lock) ++ fixedL (u32N i) 4))
theorem u32_lt (i : Int) : u32N i < 4294967296 := by unfold u32N; omega
theorem hashIns_len (is : List InP) (i : Int) (lock : List UInt8) : (hashIns is i lock).length = is.length := by simp [hashIns]
theorem hashIns_at (is : List InP) (i : Int) (lock : List UInt8) (k : Nat) : (hashIns is i lock)[k]? = (is[k]?).map fun x => putI x (if (k : Int) = i then lock else []) := by simp [hashIns]
theorem hashIns_mem {is : List InP} {i : Int} {lock : List UInt8} {x : InP} (h : x ∈ hashIns is i lock) : ∃ y ∈ is, x = putI y lock ∨ x = putI y [] := by
  obtain ⟨k, hk⟩ := List.mem_iff_getElem?.1 h
  rw [hashIns_at] at hk
  cases hy : is[k]? with
  | none => rw [hy] at hk; cases hk
  | some y =>
    rw [hy] at hk
    simp only [Option.map_some, Option.some.injEq] at hk
    refine ⟨y, List.mem_of_getElem? hy, ?_⟩
    rw [← hk]
    split
    · exact .inl rfl
    · exact .inr rfl
theorem hashT_is {t : TxP} (h : t.Is) (i : Int) (lock : List UInt8) : (hashT t i lock).Is := by
  refine ⟨h.1, h.2.1, fun x hx => ?_, h.2.2.2⟩
  obtain ⟨y, hy, rfl | rfl⟩ := hashIns_mem hx
  · exact h.2.2.1 y hy
  · exact h.2.2.1 y hy
theorem hashT_fits {t : TxP} (h : t.Fits) (i : Int) {lock : List UInt8} (hl : lock.length ≤ 2000) : (hashT t i lock).Fits := by
  refine ⟨by show (hashIns t.ins i lock).length ≤ 200; rw [hashIns_len]; exact h.1, h.2.1, fun x hx => ?_, h.2.2.2⟩
  obtain ⟨y, hy, rfl | rfl⟩ := hashIns_mem hx
  · exact hl
  · exact Nat.zero_le _
/-- of an index that there isn't: bare -/
theorem hashIns_out {is : List InP} {i : Int} (lock : List UInt8) (h : i < 0 ∨ (is.length : Int) ≤ i) : hashIns is i lock = bareL is := by
  refine List.ext_getElem? fun k => ?_
  rw [hashIns_at]
  unfold bareL
  rw [List.getElem?_map]
  by_cases hk : k < is.length
  · rw [if_neg (by omega)]; rfl
  · rw [List.getElem?_eq_none (by omega)]; rfl
theorem hashIns_in {is : List InP} {n : Nat} {x : InP} (lock : List UInt8) (h : is[n]? = some x) : hashIns is (n : Int) lock = (bareL is).set n (putI x lock) := by
  refine List.ext_getElem? fun k => ?_
  rw [hashIns_at, List.getElem?_set]
  unfold bareL
  rw [List.length_map, List.getElem?_map]
  have hn := (List.getElem?_eq_some_iff.1 h).1
  by_cases hk : n = k
  · subst hk
    rw [if_pos rfl, if_pos hn, h]; simp
  · rw [if_neg hk, if_neg (by omega)]; rfl
theorem own_put {w : World} {base : Nat} {v u : Value} {L : List (List Value)} {k : Nat} {r : List Value} (hO : OwnR 35 34 w base v L) (hk : L[k]? = some r) : ∃ (g off : Nat) (cur : Array Value), (∀ w' : World, (Instr.indexAt 23 v (.int .i64 (k : Int))).run Tryd.prog w' = .ok (.pointer (some ⟨g, off, none⟩)) w') ∧ base ≤ g ∧ Row w g 34 cur ∧ off + 33 < cur.size ∧ ∀ w' : World, Row w' g 34 (cur.setIfInBounds (off + 33) u) → OwnR 35 34 w' base v (L.set k (r.set 33 u)) := by
  have hkl := (List.getElem?_eq_some_iff.1 hk).1
  obtain ⟨g, cap, cur, rfl, hb, hrow, hcs, hlc, hcm, ht⟩ := hO.row (fun e => by rw [e] at hkl; simp at hkl)
  refine ⟨g, k * 35, cur, fun w' => ?_, hb, hrow, by rw [hcs]; omega, fun w' hr' => hO.set hrow hk (by decide) hr'⟩
  have hi := info_InC
  cases hq : Tryd.prog.info? 34 with
  | none => simp [hq] at hi
  | some t =>
    have hs' : t.size = 35 := by simpa [hq] using hi
    simp [Instr.indexAt, asIntOf, run_underlying Tryd.underlying23, sizeOf, typeInfo, hq, hs', hkl, add_none]
section
variable {ops : Array Oper} {Q : Exit → Act → World → Prop} {rest : List Oper} {o : Oper} {a : Act} {w : World}
theorem kIndexRun (T : TypeId) {P : Program} (x y : Operand) (v k : Value) (b : Addr) (hr : ∀ w' : World, (Instr.indexAt T v k).run P w' = .ok (.pointer (some b)) w') (ho : o.op = .indexAddr T x y) (hg : Region.wanted o (yielded ops a.tmps) = true) (hx : a.eval x = v) (hy : a.eval y = k) (h : wpList P ops Q rest (a.put o.dst (.pointer (some b))) w) : wpList P ops Q (o :: rest) a w :=
  kPure _ hg (by unfold execOp; simp only [ho, hx, hy, Sem.run_bind, hr w, Result.andThen_ok, Sem.run_pure]) h
theorem kConvIW (x : Operand) (z : Int) (ho : o.op = .convert 3 22 x) (hg : Region.wanted o (yielded ops a.tmps) = true) (hx : a.eval x = .int .i64 z) (h : wpList Tryd.prog ops Q rest (a.put o.dst (.int .u32 (u32N z : Int))) w) : wpList Tryd.prog ops Q (o :: rest) a w := by
  refine kPure _ hg ?_ h
  unfold execOp
  have e : IntKind.u32.wrap z = (u32N z : Int) := by rw [IntKind.wrap_u32]; unfold u32N; omega
  simp [ho, hx, convert, run_underlying Tryd.underlying22, run_underlying Tryd.underlying3, e, Conv.intToInt]
end
theorem areLists_two {w : World} {g : Nat} {E : TypeId} {x y : Value} {l m : List UInt8} (h : Row w g E #[x, y]) (hx : IsVals w x (l.map VB)) (hy : IsVals w y (m.map VB)) : AreLists w (.slice (some ⟨g, 0, none⟩) 2 2) [l, m] :=
  ⟨[x, y], rfl, isVals_lit (l := [x, y]) h, fun i z L h1 h2 => by
    match i, h1, h2 with
    | 0, h1, h2 => simp at h1 h2; subst h1; subst h2; exact hx
    | 1, h1, h2 => simp at h1 h2; subst h1; subst h2; exact hy⟩
theorem bz_step {zs : List (InP × Value)} {k : Nat} {z : InP × Value} (h : zs[k]? = some z) : ((zs.take k).map bz ++ zs.drop k).set k (bz z) = (zs.take (k + 1)).map bz ++ zs.drop (k + 1) := by
  obtain ⟨hk, rfl⟩ := List.getElem?_eq_some_iff.1 h
  have hl : ((zs.take k).map bz).length = k := by simp; omega
  rw [List.set_append_right _ _ (by omega), hl, Nat.sub_self, List.drop_eq_getElem_cons hk, List.set_cons_zero, List.take_succ_eq_append_getElem hk, List.map_append, List.append_assoc]
  rfl
theorem bz_at {zs : List (InP × Value)} {k : Nat} {z : InP × Value} (h : zs[k]? = some z) : ((zs.take k).map bz ++ zs.drop k)[k]? = some z := by
  obtain ⟨hk, rfl⟩ := List.getElem?_eq_some_iff.1 h
  have hl : ((zs.take k).map bz).length = k := by simp; omega
  rw [List.getElem?_append_right (by omega), hl, Nat.sub_self, List.drop_eq_getElem_cons hk]; rfl
set_option maxRecDepth 100000 in
set_option maxHeartbeats 8000000 in
theorem insClone_any {zs : List (InP × Value)} {a : Value} (W0 : World) (ha : AreIns W0 a zs) (hlen : zs.length ≤ 1000) : Calls Tryd.prog 72 #[a] W0 fun e w' => ∃ v, e = .returned v ∧ OwnR 35 34 w' W0.heap.size v (zs.map inR) ∧ Below W0.heap.size W0 w' := by
  obtain ⟨i0, zz, hi0, _⟩ := rowInfo insInfo0
  obtain ⟨ao, c, rfl, _, hn, hj⟩ := id ha.1.1
  cases ao with
  | none =>
    have hz : zs = [] := by
      cases zs with
      | nil => rfl
      | cons z zs => obtain ⟨b, hb, _⟩ := hj 0 (inR z) rfl; cases hb
    subst hz
    go_enter Tryd.func72, Tryd.ntmps72
    go_wp2_with (first
      | ((with_reducible change wpList _ _ _ (Oper.mk (some 4) _ _ _ _ _ :: _) _ _); refine kEqlNilS _ _ _ _ _ none _ _ true rfl Tryd.underlying23 rfl rfl rfl rfl ?_; go_frame))
    (try simp only [Exit.inBlock, Exit.then])
    refine retBT rfl rfl ?_
    exact ⟨_, rfl, ownR_nil _ _ _ _, Below.refl _ _⟩
  | some ad =>
    go_enter Tryd.func72, Tryd.ntmps72
    go_wp2_with (first
      | ((with_reducible change wpList _ _ _ (Oper.mk (some 4) _ _ _ _ _ :: _) _ _); refine kEqlNilS _ _ _ _ _ (some ad) _ _ false rfl Tryd.underlying23 rfl rfl rfl rfl ?_; go_frame)
      | ((with_reducible change wpList _ _ _ (Oper.mk (some 5) _ _ _ _ _ :: _) _ _); refine kBuildSlice0 _ _ rfl rfl Tryd.underlying23 i0 hi0 ?_; intro w1 hR1 hz1 hB1; have ha1 := ha.1.below hB1; have hO1 := ownR_empty (n := 35) (Nat.le_refl _) hR1; clear hz1 hR1; go_frame)
      | ((with_reducible change wpList _ _ _ (Oper.mk (some 7) _ _ _ _ _ :: _) _ _); refine kAppIns _ _ rfl rfl W0.heap.size _ _ [] zs rfl hO1 rfl ha1 (fun z hz => (ha.2 z hz).sl.one) (by simp; omega) hB1.size ?_; intro v2 w2 hO2 hB2 hg2; have hB3 := hB1.trans hB2; go_frame))
    go_ret
    exact ⟨_, rfl, hO2, hB3⟩
set_option maxRecDepth 100000 in
set_option maxHeartbeats 8000000 in
theorem tBare_any {zs : List (InP × Value)} {a : Value} (W0 : World) (ha : AreIns W0 a zs) (hlen : zs.length ≤ 1000) : Calls Tryd.prog 52 #[a] W0 fun e w' => ∃ v, e = .returned v ∧ OwnR 35 34 w' W0.heap.size v ((zs.map bz).map inR) ∧ Below W0.heap.size W0 w' := by
  obtain ⟨N, hN⟩ : ∃ N, zs.length = N := ⟨_, rfl⟩
  go_enter Tryd.func52, Tryd.ntmps52
  go_wp2_with (first
    | (go_at_call 72; refine (insClone_any _ ha hlen).mono ?_; rintro e w1 ⟨v, rfl, hO, hB⟩; go_frame)
    | ((with_reducible change wpList _ _ _ (Oper.mk (some 8) _ _ _ _ _ :: _) _ _); refine kLenRows (n := 35) Tryd.underlying23 _ v _ N hO.rows (by rw [List.length_map, hN]) rfl rfl rfl ?_; go_frame))
  go_loopw [9] (fun x wr => ∃ k : Nat, k ≤ N ∧ x = .int .i64 (k : Int) ∧ OwnR 35 34 wr W0.heap.size v (((zs.take k).map bz ++ zs.drop k).map inR) ∧ Below W0.heap.size W0 wr) (fun x _ => N - (intOf x).toNat)
  case atStart => exact ⟨0, by omega, rfl, by simpa using hO, hB⟩
  case round =>
    clear hO hB
    obtain ⟨k, hk, rfl, hO, hB⟩ := hrel
    by_cases hlt : k < N
    · have hd : decide ((k : Int) < (N : Int)) = true := by simp; omega
      obtain ⟨⟨i, u⟩, hz⟩ : ∃ z, zs[k]? = some z := ⟨_, List.getElem?_eq_getElem (by omega)⟩
      have hat : (((zs.take k).map bz ++ zs.drop k).map inR)[k]? = some (inR (i, u)) := by rw [List.getElem?_map, bz_at hz]; rfl
      obtain ⟨g, off, cur, hrun, hbg, hrow, hoff, hput⟩ := own_put (u := .slice none 0 0) hO hat
      have hset : (((zs.take k).map bz ++ zs.drop k).map inR).set k ((inR (i, u)).set 33 (.slice none 0 0)) = ((zs.take (k + 1)).map bz ++ zs.drop (k + 1)).map inR := by
        rw [inR_put i u _ [], ← bz_step hz, List.map_set]; rfl
      rw [hset] at hput
      clear hset hat
      go_wp2_with (first
        | ((with_reducible change wpList _ _ _ (Oper.mk (some 10) _ _ _ _ _ :: _) _ _); refine kLssI _ _ _ _ .i64 (k : Int) (N : Int) true rfl rfl rfl rfl hd ?_; go_frame)
        | ((with_reducible change wpList _ _ _ (Oper.mk (some 14) _ _ _ _ _ :: _) _ _); refine kIndexRun _ _ _ v _ _ hrun rfl rfl rfl rfl ?_; go_frame)
        | ((with_reducible change wpList _ _ _ (Oper.mk (some 15) _ _ _ _ _ :: _) _ _); refine kFld inCF1 _ g off (off + 33) rfl rfl rfl rfl ?_; go_frame)
        | ((with_reducible change wpList _ _ _ (Oper.mk none _ _ _ _ _ :: _) _ _); refine kStore1 _ _ _ _ g (off + 33) cur (.slice none 0 0) rfl rfl rfl rfl hrow info_bytesP hoff rfl ?_; intro w5 hR5 hW5; have hO5 := hput w5 hR5; have hB5 := hB.trans (hW5.below hbg); clear hput hrun; go_frame)
        | ((with_reducible change wpList _ _ _ (Oper.mk (some 16) _ _ _ _ _ :: _) _ _); refine kAddI _ _ _ _ (k : Int) 1 ((k + 1 : Nat) : Int) (by omega) rfl rfl rfl rfl ?_; go_frame))
      go_roundw
      case rel => exact ⟨k + 1, by omega, rfl, hO5, hB5⟩
      case measure => simp [intOf]; omega
    · have hd : decide ((k : Int) < (N : Int)) = false := by simp; omega
      rw [List.take_of_length_le (by omega), List.drop_of_length_le (by omega), List.append_nil] at hO
      go_wp2_with (first
        | ((with_reducible change wpList _ _ _ (Oper.mk (some 10) _ _ _ _ _ :: _) _ _); refine kLssI _ _ _ _ .i64 (k : Int) (N : Int) false rfl rfl rfl rfl hd ?_; go_frame))
      go_ret
      exact ⟨_, rfl, hO, hB⟩
theorem insOf_bare {w : World} {base : Nat} {v : Value} {zs : List (InP × Value)} {is : List InP} (e : zs.map Prod.fst = is) (h : OwnR 35 34 w base v ((zs.map bz).map inR)) : InsOf w v (bareL is) := by
  refine ⟨zs.map bz, ?_, h.rows, fun z hz => ?_⟩
  · rw [← e]; unfold bareL; rw [List.map_map, List.map_map]; rfl
  · obtain ⟨y, -, rfl⟩ := List.mem_map.1 hz
    exact isVals_nil _
theorem insOf_put {w : World} {base : Nat} {v u : Value} {zs : List (InP × Value)} {is : List InP} {n : Nat} {x : InP} {lock : List UInt8} (e : zs.map Prod.fst = is) (hx : is[n]? = some x) (hu : IsVals w u (lock.map VB)) (h : OwnR 35 34 w base v (((zs.map bz).set n (putI x lock, u)).map inR)) : InsOf w v (hashIns is (n : Int) lock) := by
  refine ⟨(zs.map bz).set n (putI x lock, u), ?_, h.rows, fun z hz => ?_⟩
  · rw [hashIns_in lock hx, List.map_set, ← e]
    unfold bareL
    rw [List.map_map, List.map_map]; rfl
  · rcases List.mem_or_eq_of_mem_set hz with hz | rfl
    · obtain ⟨y, -, rfl⟩ := List.mem_map.1 hz
      exact isVals_nil _
    · exact hu
set_option maxRecDepth 100000 in
set_option maxHeartbeats 8000000 in
theorem tHash_any {t : TxP} {a b lv : Value} {i : Int} {lock : List UInt8} (W0 : World) (ht : t.Is) (hf : t.Fits) (ha : InsOf W0 a t.ins) (hb : OutsOf W0 b t.outs) (hlv : IsVals W0 lv (lock.map VB)) (hll : lock.length ≤ 2000) (hK : Keys W0) : Calls Tryd.prog 23 #[.agg (txC t.version a b t.end'), .int .i64 i, lv] W0 (HashPost W0 (hashL t i lock)) := by
  obtain ⟨iy, hiy, hzy, hsy⟩ := bysInfoC
  have hlen := txL_len (hashT_is ht i lock) (hashT_fits hf i hll)
  obtain ⟨zs, es, hz0⟩ := ha
  obtain ⟨N, hN⟩ : ∃ N, zs.length = N := ⟨_, rfl⟩
  have hiN : t.ins.length = N := by rw [← fst_len es, hN]
  have hzl : zs.length ≤ 1000 := by have := hf.1; omega
  by_cases h1 : i < 0
  · have d1 : decide (i ≥ 0) = false := by simp; omega
    have hins : hashIns t.ins i lock = bareL t.ins := hashIns_out lock (.inl h1)
    clear h1
    go_enter Tryd.func23, Tryd.ntmps23
    go_wp2_with (first
      | ((with_reducible change wpList _ _ _ (Oper.mk (some 3) _ _ _ _ _ :: _) _ _); refine kBoxL _ _ _ rfl rfl rfl ?_; intro w1 hR hz1 hB1; go_frame)
      | ((with_reducible change wpList _ _ _ (Oper.mk (some 6) _ _ _ _ _ :: _) _ _); refine kAllocL _ _ rfl rfl zero_Hash ?_; intro w2 hRH hz2 hB2; have hR2 := hR.below hB2 hR.lt; have hB3 := hB1.trans (hB2.mono hB1.size); have hs1 : Hid (W0.heap.size < w1.heap.size) := hz1; have hs2 : Hid (w1.heap.size < w2.heap.size) := hz2; have hz := hz0.below hB3; clear hR hB1 hB2 hz2 hz1; go_frame)
      | ((with_reducible change wpList _ _ _ (Oper.mk (some 7) _ _ _ _ _ :: _) _ _); refine kFld txCF1 _ _ 0 1 rfl rfl rfl rfl ?_; go_frame)
      | ((with_reducible change wpList _ _ _ (Oper.mk (some 8) _ _ _ _ _ :: _) _ _); refine kLd Tryd.underlying23 rfl _ _ 1 _ a hR2 rfl rfl rfl rfl ?_; go_frame)
      | (go_at_call 52; refine (tBare_any _ hz hzl).mono ?_; rintro e w3 ⟨v, rfl, hO, hBq⟩; have hR3 := hR2.below hBq hR2.lt; have hRH3 := hRH.below hBq hRH.lt; have hB4 := hB3.trans (hBq.mono hB3.size); clear hBq hR2 hRH hB3 hz; go_frame)
      | ((with_reducible change wpList _ _ _ (Oper.mk (some 10) _ _ _ _ _ :: _) _ _); refine kFld txCF1 _ _ 0 1 rfl rfl rfl rfl ?_; go_frame)
      | ((with_reducible change wpList _ _ _ (Oper.mk none (Op.store 23 _ _) _ _ _ _ :: _) _ _); refine kStore1 _ _ _ _ W0.heap.size 1 _ v rfl rfl rfl rfl hR3 info_insC (by show 1 < 4; decide) hO.rows.sl.one ?_; intro w4 hR4 hW4; have hR5 : Row w4 W0.heap.size 26 (txC t.version v b t.end') := hR4; have hO4 := hO.over (over_wrote hW4 (Nat.lt_trans hs1.out hs2.out)); have hRH4 := hW4.row hRH3 (Nat.ne_of_gt hs1.out); have hB5 := hB4.trans (hW4.below (Nat.le_refl _)); clear hR4 hW4 hR3 hO hRH3 hB4; go_frame)
      | ((with_reducible change wpList _ _ _ (Oper.mk (some 12) _ _ _ _ _ :: _) _ _); refine kGeqI _ _ _ _ .i64 i 0 false rfl rfl rfl rfl d1 ?_; go_frame)
      | ((with_reducible change wpList _ _ _ (Oper.mk (some 26) _ _ _ _ _ :: _) _ _); refine kLoadTx _ _ t.version t.end' v b hR5 rfl rfl rfl ?_; go_frame)
      | (go_at_call 11; refine (tBytes_any (t := hashT t i lock) _ (hashT_is ht i lock) (hashT_fits hf i hll) (by show InsOf _ _ (hashIns t.ins i lock); rw [hins]; exact insOf_bare es hO4) (hb.below hB5)).mono ?_; rintro e w7 ⟨x7, rfl, hO7, hBq⟩; have hRH7 := hRH4.below hBq hRH4.lt; have hB7 := hB5.trans (hBq.mono hB5.size); clear hBq; go_frame)
      | ((with_reducible change wpList _ _ _ (Oper.mk (some 29) _ _ _ _ _ :: _) _ _); refine kConvIW _ i rfl rfl rfl ?_; go_frame)
      | (go_at_call 31; refine (tWord_any (u32_lt i) _).mono ?_; rintro e w8 ⟨x8, rfl, hO8, hBq⟩; have hRH8 := hRH7.below hBq hRH7.lt; have hB8 := hB7.trans (hBq.mono hB7.size); have hO7b := hO7.below hBq; clear hBq hRH7 hB7 hO7; go_frame)
      | ((with_reducible change wpList _ _ _ (Oper.mk (some 31) _ _ _ _ _ :: _) _ _); refine kBuildSlice2 _ _ _ _ x7 x8 rfl rfl Tryd.underlying104 iy _ hiy hzy hsy rfl hO7b.vals.sl.one rfl hO8.vals.sl.one ?_; intro w9 hR9 hz9 hBq; have hAl := areLists_two hR9 (hO7b.vals.below hBq) (hO8.vals.below hBq); have hRH9 := hRH8.below hBq hRH8.lt; have hB9 := hB8.trans (hBq.mono hB8.size); have hK9 := hK.below hB9; clear hBq hR9 hz9 hRH8 hB8 hO7b hO8; go_frame)
      | (go_at_call 48; refine (Twice_any [txL (hashT t i lock), fixedL (u32N i) 4] _ _ hK9 hAl (by simp) (by simp [fixedL_len]; omega)).mono ?_; rintro e w10 ⟨rfl, hBq⟩; have hRH10 := hRH9.below hBq hRH9.lt; have hB10 := hB9.trans (hBq.mono hB9.size); clear hBq hRH9 hB9 hAl hK9; rw [show [txL (hashT t i lock), fixedL (u32N i) 4].flatten = txL (hashT t i lock) ++ fixedL (u32N i) 4 by simp]; go_frame)
      | ((with_reducible change wpList _ _ _ (Oper.mk none (Op.store 30 _ _) _ _ _ _ :: _) _ _); refine kStoreRow _ _ _ _ _ _ _ rfl rfl rfl rfl hRH10 (by rw [tab_size]; exact info_Hash) (by simp only [tab_size]) (tab_one _ _ fun _ _ => rfl) ?_; intro w11 hRH11 hW11; have hB11 := hB10.trans (hW11.below (Nat.le_of_lt hs1.out)); go_frame))
    (try simp only [Exit.inBlock, Exit.then])
    exact result_row rfl rfl hRH11 Tryd.underlying30 rfl (by rw [tab_size]; exact info_Hash) rfl ⟨rfl, hB11⟩
  · have d1 : decide (i ≥ 0) = true := by simp; omega
    by_cases h2 : i < (N : Int)
    · have d2 : decide (i < (N : Int)) = true := by simp; omega
      obtain ⟨n, rfl⟩ : ∃ n : Nat, i = (n : Int) := ⟨i.toNat, by omega⟩
      obtain ⟨⟨x, u⟩, hz⟩ : ∃ z, zs[n]? = some z := ⟨_, List.getElem?_eq_getElem (by omega)⟩
      have hx := fst_at es hz
      have hat : ((zs.map bz).map inR)[n]? = some (inR (bz (x, u))) := by rw [List.getElem?_map, List.getElem?_map, hz]; rfl
      have hset : ((zs.map bz).map inR).set n ((inR (bz (x, u))).set 33 lv) = ((zs.map bz).set n (putI x lock, lv)).map inR := by
        unfold bz bareI
        rw [inR_put _ _ _ lock, List.map_set]; rfl
      clear h1 h2
      go_enter Tryd.func23, Tryd.ntmps23
      go_wp2_with (first
        | ((with_reducible change wpList _ _ _ (Oper.mk (some 3) _ _ _ _ _ :: _) _ _); refine kBoxL _ _ _ rfl rfl rfl ?_; intro w1 hR hz1 hB1; go_frame)
        | ((with_reducible change wpList _ _ _ (Oper.mk (some 6) _ _ _ _ _ :: _) _ _); refine kAllocL _ _ rfl rfl zero_Hash ?_; intro w2 hRH hz2 hB2; have hR2 := hR.below hB2 hR.lt; have hB3 := hB1.trans (hB2.mono hB1.size); have hs1 : Hid (W0.heap.size < w1.heap.size) := hz1; have hs2 : Hid (w1.heap.size < w2.heap.size) := hz2; have hz := hz0.below hB3; clear hR hB1 hB2 hz2 hz1; go_frame)
        | ((with_reducible change wpList _ _ _ (Oper.mk (some 7) _ _ _ _ _ :: _) _ _); refine kFld txCF1 _ _ 0 1 rfl rfl rfl rfl ?_; go_frame)
        | ((with_reducible change wpList _ _ _ (Oper.mk (some 8) _ _ _ _ _ :: _) _ _); refine kLd Tryd.underlying23 rfl _ _ 1 _ a hR2 rfl rfl rfl rfl ?_; go_frame)
        | (go_at_call 52; refine (tBare_any _ hz hzl).mono ?_; rintro e w3 ⟨v, rfl, hO, hBq⟩; have hR3 := hR2.below hBq hR2.lt; have hRH3 := hRH.below hBq hRH.lt; have hB4 := hB3.trans (hBq.mono hB3.size); clear hBq hR2 hRH hB3 hz; go_frame)
        | ((with_reducible change wpList _ _ _ (Oper.mk (some 10) _ _ _ _ _ :: _) _ _); refine kFld txCF1 _ _ 0 1 rfl rfl rfl rfl ?_; go_frame)
        | ((with_reducible change wpList _ _ _ (Oper.mk none (Op.store 23 _ _) _ _ _ _ :: _) _ _); refine kStore1 _ _ _ _ W0.heap.size 1 _ v rfl rfl rfl rfl hR3 info_insC (by show 1 < 4; decide) hO.rows.sl.one ?_; intro w4 hR4 hW4; have hR5 : Row w4 W0.heap.size 26 (txC t.version v b t.end') := hR4; have hO4 := hO.over (over_wrote hW4 (Nat.lt_trans hs1.out hs2.out)); have hRH4 := hW4.row hRH3 (Nat.ne_of_gt hs1.out); have hB5 := hB4.trans (hW4.below (Nat.le_refl _)); clear hR4 hW4 hR3 hO hRH3 hB4; go_frame)
        | ((with_reducible change wpList _ _ _ (Oper.mk (some 12) _ _ _ _ _ :: _) _ _); refine kGeqI _ _ _ _ .i64 (n : Int) 0 true rfl rfl rfl rfl d1 ?_; go_frame)
        | ((with_reducible change wpList _ _ _ (Oper.mk (some 15) _ _ _ _ _ :: _) _ _); refine kFld txCF1 _ _ 0 1 rfl rfl rfl rfl ?_; go_frame)
        | ((with_reducible change wpList _ _ _ (Oper.mk (some 16) _ _ _ _ _ :: _) _ _); refine kLd Tryd.underlying23 rfl _ _ 1 _ v hR5 rfl rfl rfl rfl ?_; go_frame)
        | ((with_reducible change wpList _ _ _ (Oper.mk (some 17) _ _ _ _ _ :: _) _ _); refine kLenRows (n := 35) Tryd.underlying23 _ v _ N hO4.rows (by rw [List.length_map, List.length_map, hN]) rfl rfl rfl ?_; go_frame)
        | ((with_reducible change wpList _ _ _ (Oper.mk (some 18) _ _ _ _ _ :: _) _ _); refine kLssI _ _ _ _ .i64 (n : Int) (N : Int) true rfl rfl rfl rfl d2 ?_; go_frame)
        | ((with_reducible change wpList _ _ _ (Oper.mk (some 20) _ _ _ _ _ :: _) _ _); refine kFld txCF1 _ _ 0 1 rfl rfl rfl rfl ?_; go_frame)
        | ((with_reducible change wpList _ _ _ (Oper.mk (some 21) _ _ _ _ _ :: _) _ _); refine kLd Tryd.underlying23 rfl _ _ 1 _ v hR5 rfl rfl rfl rfl ?_; go_frame)
        | ((with_reducible change wpList _ _ _ (Oper.mk (some 24) _ _ _ _ _ :: _) _ _); obtain ⟨g, off, cur, hrun, hbg, hrow, hoff, hput⟩ := own_put (u := lv) hO4 hat; rw [hset] at hput; have hgB : Hid (W0.heap.size ≠ g) := (by show W0.heap.size ≠ g; have := hs1.out; have := hs2.out; omega); have hgH : Hid (w1.heap.size ≠ g) := (by show w1.heap.size ≠ g; have := hs2.out; omega); have hg0 : Hid (W0.heap.size ≤ g) := (by show W0.heap.size ≤ g; have := hs1.out; have := hs2.out; omega); refine kIndexRun _ _ _ v _ _ hrun rfl rfl rfl rfl ?_; go_frame)
        | ((with_reducible change wpList _ _ _ (Oper.mk (some 25) _ _ _ _ _ :: _) _ _); refine kFld inCF1 _ g off (off + 33) rfl rfl rfl rfl ?_; go_frame)
        | ((with_reducible change wpList _ _ _ (Oper.mk none (Op.store 28 _ _) _ _ _ _ :: _) _ _); refine kStore1 _ _ _ _ g (off + 33) cur lv rfl rfl rfl rfl hrow info_bytesP hoff hlv.sl.one ?_; intro w5 hr5 hW5; have hO5 := hput w5 hr5; have hR6 := hW5.row hR5 hgB.out; have hRH5 := hW5.row hRH4 hgH.out; have hB6 := hB5.trans (hW5.below hg0.out); clear hput hrun hrow hr5 hW5 hR5 hRH4 hB5 hO4; go_frame)
        | ((with_reducible change wpList _ _ _ (Oper.mk (some 26) _ _ _ _ _ :: _) _ _); refine kLoadTx _ _ t.version t.end' v b hR6 rfl rfl rfl ?_; go_frame)
        | (go_at_call 11; refine (tBytes_any (t := hashT t (n : Int) lock) _ (hashT_is ht (n : Int) lock) (hashT_fits hf (n : Int) hll) (insOf_put es hx (hlv.below hB6) hO5) (hb.below hB6)).mono ?_; rintro e w7 ⟨x7, rfl, hO7, hBq⟩; have hRH7 := hRH5.below hBq hRH5.lt; have hB7 := hB6.trans (hBq.mono hB6.size); clear hBq; go_frame)
        | ((with_reducible change wpList _ _ _ (Oper.mk (some 29) _ _ _ _ _ :: _) _ _); refine kConvIW _ (n : Int) rfl rfl rfl ?_; go_frame)
        | (go_at_call 31; refine (tWord_any (u32_lt (n : Int)) _).mono ?_; rintro e w8 ⟨x8, rfl, hO8, hBq⟩; have hRH8 := hRH7.below hBq hRH7.lt; have hB8 := hB7.trans (hBq.mono hB7.size); have hO7b := hO7.below hBq; clear hBq hRH7 hB7 hO7; go_frame)
        | ((with_reducible change wpList _ _ _ (Oper.mk (some 31) _ _ _ _ _ :: _) _ _); refine kBuildSlice2 _ _ _ _ x7 x8 rfl rfl Tryd.underlying104 iy _ hiy hzy hsy rfl hO7b.vals.sl.one rfl hO8.vals.sl.one ?_; intro w9 hR9 hz9 hBq; have hAl := areLists_two hR9 (hO7b.vals.below hBq) (hO8.vals.below hBq); have hRH9 := hRH8.below hBq hRH8.lt; have hB9 := hB8.trans (hBq.mono hB8.size); have hK9 := hK.below hB9; clear hBq hR9 hz9 hRH8 hB8 hO7b hO8; go_frame)
        | (go_at_call 48; refine (Twice_any [txL (hashT t (n : Int) lock), fixedL (u32N (n : Int)) 4] _ _ hK9 hAl (by simp) (by simp [fixedL_len]; omega)).mono ?_; rintro e w10 ⟨rfl, hBq⟩; have hRH10 := hRH9.below hBq hRH9.lt; have hB10 := hB9.trans (hBq.mono hB9.size); clear hBq hRH9 hB9 hAl hK9; rw [show [txL (hashT t (n : Int) lock), fixedL (u32N (n : Int)) 4].flatten = txL (hashT t (n : Int) lock) ++ fixedL (u32N (n : Int)) 4 by simp]; go_frame)
        | ((with_reducible change wpList _ _ _ (Oper.mk none (Op.store 30 _ _) _ _ _ _ :: _) _ _); refine kStoreRow _ _ _ _ _ _ _ rfl rfl rfl rfl hRH10 (by rw [tab_size]; exact info_Hash) (by simp only [tab_size]) (tab_one _ _ fun _ _ => rfl) ?_; intro w11 hRH11 hW11; have hB11 := hB10.trans (hW11.below (Nat.le_of_lt hs1.out)); go_frame))
      (try simp only [Exit.inBlock, Exit.then])
      exact result_row rfl rfl hRH11 Tryd.underlying30 rfl (by rw [tab_size]; exact info_Hash) rfl ⟨rfl, hB11⟩
    · have d2 : decide (i < (N : Int)) = false := by simp; omega
      have hins : hashIns t.ins i lock = bareL t.ins := hashIns_out lock (.inr (by omega))
      clear h1 h2
      go_enter Tryd.func23, Tryd.ntmps23
      go_wp2_with (first
        | ((with_reducible change wpList _ _ _ (Oper.mk (some 3) _ _ _ _ _ :: _) _ _); refine kBoxL _ _ _ rfl rfl rfl ?_; intro w1 hR hz1 hB1; go_frame)
        | ((with_reducible change wpList _ _ _ (Oper.mk (some 6) _ _ _ _ _ :: _) _ _); refine kAllocL _ _ rfl rfl zero_Hash ?_; intro w2 hRH hz2 hB2; have hR2 := hR.below hB2 hR.lt; have hB3 := hB1.trans (hB2.mono hB1.size); have hs1 : Hid (W0.heap.size < w1.heap.size) := hz1; have hs2 : Hid (w1.heap.size < w2.heap.size) := hz2; have hz := hz0.below hB3; clear hR hB1 hB2 hz2 hz1; go_frame)
        | ((with_reducible change wpList _ _ _ (Oper.mk (some 7) _ _ _ _ _ :: _) _ _); refine kFld txCF1 _ _ 0 1 rfl rfl rfl rfl ?_; go_frame)
        | ((with_reducible change wpList _ _ _ (Oper.mk (some 8) _ _ _ _ _ :: _) _ _); refine kLd Tryd.underlying23 rfl _ _ 1 _ a hR2 rfl rfl rfl rfl ?_; go_frame)
        | (go_at_call 52; refine (tBare_any _ hz hzl).mono ?_; rintro e w3 ⟨v, rfl, hO, hBq⟩; have hR3 := hR2.below hBq hR2.lt; have hRH3 := hRH.below hBq hRH.lt; have hB4 := hB3.trans (hBq.mono hB3.size); clear hBq hR2 hRH hB3 hz; go_frame)
        | ((with_reducible change wpList _ _ _ (Oper.mk (some 10) _ _ _ _ _ :: _) _ _); refine kFld txCF1 _ _ 0 1 rfl rfl rfl rfl ?_; go_frame)
        | ((with_reducible change wpList _ _ _ (Oper.mk none (Op.store 23 _ _) _ _ _ _ :: _) _ _); refine kStore1 _ _ _ _ W0.heap.size 1 _ v rfl rfl rfl rfl hR3 info_insC (by show 1 < 4; decide) hO.rows.sl.one ?_; intro w4 hR4 hW4; have hR5 : Row w4 W0.heap.size 26 (txC t.version v b t.end') := hR4; have hO4 := hO.over (over_wrote hW4 (Nat.lt_trans hs1.out hs2.out)); have hRH4 := hW4.row hRH3 (Nat.ne_of_gt hs1.out); have hB5 := hB4.trans (hW4.below (Nat.le_refl _)); clear hR4 hW4 hR3 hO hRH3 hB4; go_frame)
        | ((with_reducible change wpList _ _ _ (Oper.mk (some 12) _ _ _ _ _ :: _) _ _); refine kGeqI _ _ _ _ .i64 i 0 true rfl rfl rfl rfl d1 ?_; go_frame)
        | ((with_reducible change wpList _ _ _ (Oper.mk (some 15) _ _ _ _ _ :: _) _ _); refine kFld txCF1 _ _ 0 1 rfl rfl rfl rfl ?_; go_frame)
        | ((with_reducible change wpList _ _ _ (Oper.mk (some 16) _ _ _ _ _ :: _) _ _); refine kLd Tryd.underlying23 rfl _ _ 1 _ v hR5 rfl rfl rfl rfl ?_; go_frame)
        | ((with_reducible change wpList _ _ _ (Oper.mk (some 17) _ _ _ _ _ :: _) _ _); refine kLenRows (n := 35) Tryd.underlying23 _ v _ N hO4.rows (by rw [List.length_map, List.length_map, hN]) rfl rfl rfl ?_; go_frame)
        | ((with_reducible change wpList _ _ _ (Oper.mk (some 18) _ _ _ _ _ :: _) _ _); refine kLssI _ _ _ _ .i64 i (N : Int) false rfl rfl rfl rfl d2 ?_; go_frame)
        | ((with_reducible change wpList _ _ _ (Oper.mk (some 26) _ _ _ _ _ :: _) _ _); refine kLoadTx _ _ t.version t.end' v b hR5 rfl rfl rfl ?_; go_frame)
        | (go_at_call 11; refine (tBytes_any (t := hashT t i lock) _ (hashT_is ht i lock) (hashT_fits hf i hll) (by show InsOf _ _ (hashIns t.ins i lock); rw [hins]; exact insOf_bare es hO4) (hb.below hB5)).mono ?_; rintro e w7 ⟨x7, rfl, hO7, hBq⟩; have hRH7 := hRH4.below hBq hRH4.lt; have hB7 := hB5.trans (hBq.mono hB5.size); clear hBq; go_frame)
        | ((with_reducible change wpList _ _ _ (Oper.mk (some 29) _ _ _ _ _ :: _) _ _); refine kConvIW _ i rfl rfl rfl ?_; go_frame)
        | (go_at_call 31; refine (tWord_any (u32_lt i) _).mono ?_; rintro e w8 ⟨x8, rfl, hO8, hBq⟩; have hRH8 := hRH7.below hBq hRH7.lt; have hB8 := hB7.trans (hBq.mono hB7.size); have hO7b := hO7.below hBq; clear hBq hRH7 hB7 hO7; go_frame)
        | ((with_reducible change wpList _ _ _ (Oper.mk (some 31) _ _ _ _ _ :: _) _ _); refine kBuildSlice2 _ _ _ _ x7 x8 rfl rfl Tryd.underlying104 iy _ hiy hzy hsy rfl hO7b.vals.sl.one rfl hO8.vals.sl.one ?_; intro w9 hR9 hz9 hBq; have hAl := areLists_two hR9 (hO7b.vals.below hBq) (hO8.vals.below hBq); have hRH9 := hRH8.below hBq hRH8.lt; have hB9 := hB8.trans (hBq.mono hB8.size); have hK9 := hK.below hB9; clear hBq hR9 hz9 hRH8 hB8 hO7b hO8; go_frame)
        | (go_at_call 48; refine (Twice_any [txL (hashT t i lock), fixedL (u32N i) 4] _ _ hK9 hAl (by simp) (by simp [fixedL_len]; omega)).mono ?_; rintro e w10 ⟨rfl, hBq⟩; have hRH10 := hRH9.below hBq hRH9.lt; have hB10 := hB9.trans (hBq.mono hB9.size); clear hBq hRH9 hB9 hAl hK9; rw [show [txL (hashT t i lock), fixedL (u32N i) 4].flatten = txL (hashT t i lock) ++ fixedL (u32N i) 4 by simp]; go_frame)
        | ((with_reducible change wpList _ _ _ (Oper.mk none (Op.store 30 _ _) _ _ _ _ :: _) _ _); refine kStoreRow _ _ _ _ _ _ _ rfl rfl rfl rfl hRH10 (by rw [tab_size]; exact info_Hash) (by simp only [tab_size]) (tab_one _ _ fun _ _ => rfl) ?_; intro w11 hRH11 hW11; have hB11 := hB10.trans (hW11.below (Nat.le_of_lt hs1.out)); go_frame))
      (try simp only [Exit.inBlock, Exit.then])
      exact result_row rfl rfl hRH11 Tryd.underlying30 rfl (by rw [tab_size]; exact info_Hash) rfl ⟨rfl, hB11⟩
end Go.Proofs.YtaoaecbdjdcpdaaDoor

/-
  Layer 10: what is signed, the reference's.
-/
namespace Go.Proofs.YtaoaecbdjdcpdaaDoor
open Go Go.RowKit

set_option maxRecDepth 100000 in
set_option maxHeartbeats 8000000 in
theorem yHash_any {t : TxP} {a b lv : Value} {i : Int} {lock : List UInt8} (W0 : World) (ht : t.Is) (hf : t.Fits) (ha : InsOf W0 a t.ins) (hb : OutsOf W0 b t.outs) (hlv : IsVals W0 lv (lock.map VB)) (hll : lock.length ≤ 2000) : Calls Tryd.prog 24 #[.agg (txC t.version a b t.end'), .int .i64 i, lv] W0 (HashPost W0 (hashL t i lock)) := by
  have hlen := txL_len (hashT_is ht i lock) (hashT_fits hf i hll)
  obtain ⟨zi, ei, hi⟩ := id ha
  obtain ⟨N, hN⟩ : ∃ N, zi.length = N := ⟨_, rfl⟩
  have hiN : t.ins.length = N := by rw [← fst_len ei, hN]
  have hN2 : N ≤ 200 := by have := hf.1; omega
  go_enter Tryd.func24, Tryd.ntmps24
  go_wp2_with (first
    | ((with_reducible change wpList _ _ _ (Oper.mk (some 3) _ _ _ _ _ :: _) _ _); refine kBoxL _ _ _ rfl rfl rfl ?_; intro w1 hR hz1 hB1; have hs1 : Hid (W0.heap.size < w1.heap.size) := hz1; clear hz1; go_frame)
    | ((with_reducible change wpList _ _ _ (Oper.mk (some 6) _ _ _ _ _ :: _) _ _); refine kAllocL _ _ rfl rfl zero_Hash ?_; intro w2 hRH hz2 hB2; have hR2 := hR.below hB2 hR.lt; have hB3 := hB1.trans (hB2.mono hB1.size); have hs2 : Hid (w1.heap.size < w2.heap.size) := hz2; clear hR hB1 hB2 hz2; go_frame)
    | ((with_reducible change wpList _ _ _ (Oper.mk (some 11) _ _ _ _ _ :: _) _ _); refine kFld txCF0 _ _ 0 0 rfl rfl rfl rfl ?_; go_frame)
    | ((with_reducible change wpList _ _ _ (Oper.mk (some 12) _ _ _ _ _ :: _) _ _); refine kLd Tryd.underlying22 rfl _ _ 0 _ (.int .u32 (t.version : Int)) hR2 rfl rfl rfl rfl ?_; go_frame)
    | ((with_reducible change wpList _ _ _ (Oper.mk (some 13) _ _ _ _ _ :: _) _ _); refine kFld txCF2 _ _ 0 2 rfl rfl rfl rfl ?_; go_frame)
    | ((with_reducible change wpList _ _ _ (Oper.mk (some 14) _ _ _ _ _ :: _) _ _); refine kLd Tryd.underlying24 rfl _ _ 2 _ b hR2 rfl rfl rfl rfl ?_; go_frame)
    | ((with_reducible change wpList _ _ _ (Oper.mk (some 15) _ _ _ _ _ :: _) _ _); refine kFld txCF3 _ _ 0 3 rfl rfl rfl rfl ?_; go_frame)
    | ((with_reducible change wpList _ _ _ (Oper.mk (some 16) _ _ _ _ _ :: _) _ _); refine kLd Tryd.underlying22 rfl _ _ 3 _ (.int .u32 (t.end' : Int)) hR2 rfl rfl rfl rfl ?_; go_frame)
    | ((with_reducible change wpList _ _ _ (Oper.mk (some 17) _ _ _ _ _ :: _) _ _); refine kBuildTxO _ _ _ t.version t.end' b hb.sl rfl rfl rfl rfl rfl ?_; go_frame)
    | ((with_reducible change wpList _ _ _ (Oper.mk (some 7) _ _ _ _ _ :: _) _ _); refine kAllocL _ _ rfl rfl zero_TxC ?_; intro w3 hRO hz3 hBq; have hR3 := hR2.below hBq hR2.lt; have hRH3 := hRH.below hBq hRH.lt; have hB4 := hB3.trans (hBq.mono hB3.size); have hs3 : Hid (w2.heap.size < w3.heap.size) := hz3; clear hR2 hRH hB3 hBq hz3; go_frame)
    | ((with_reducible change wpList _ _ _ (Oper.mk none _ _ _ _ _ :: _) _ _); refine kStoreTx _ _ w2.heap.size t.version t.end' (.slice none 0 0) b _ hRO rfl rfl hb.sl.one rfl rfl rfl rfl ?_; intro w4 hRO4 hW4; have hR4 := hW4.row hR3 (Nat.ne_of_lt (Nat.lt_trans hs1.out hs2.out)); have hRH4 := hW4.row hRH3 (Nat.ne_of_lt hs2.out); have hB5 := hB4.trans (hW4.below (Nat.le_of_lt (Nat.lt_trans hs1.out hs2.out))); have hs4 : Hid (w2.heap.size < w4.heap.size) := (by show w2.heap.size < w4.heap.size; rw [hW4.size]; exact hs3.out); clear hRO hR3 hRH3 hB4 hW4 hs3; go_frame)
    | ((with_reducible change wpList _ _ _ (Oper.mk (some 18) _ _ _ _ _ :: _) _ _); refine kFld txCF1 _ _ 0 1 rfl rfl rfl rfl ?_; go_frame)
    | ((with_reducible change wpList _ _ _ (Oper.mk (some 19) _ _ _ _ _ :: _) _ _); refine kLd Tryd.underlying23 rfl _ _ 1 _ a hR4 rfl rfl rfl rfl ?_; go_frame)
    | ((with_reducible change wpList _ _ _ (Oper.mk (some 20) _ _ _ _ _ :: _) _ _); refine kLenIns _ a zi N (hi.below hB5) hN rfl rfl rfl ?_; go_frame))
  clear hR4
  have hOb : Hid (w2.heap.size < w4.heap.size) := hs4
  have hHb : Hid (w1.heap.size < w4.heap.size) := Nat.lt_trans hs2.out hs4.out
  have h0O : Hid (W0.heap.size ≤ w2.heap.size) := Nat.le_of_lt (Nat.lt_trans hs1.out hs2.out)
  have h0b : Hid (W0.heap.size ≤ w4.heap.size) := Nat.le_trans h0O.out (Nat.le_of_lt hs4.out)
  have hHO : Hid (w1.heap.size ≠ w2.heap.size) := Nat.ne_of_lt hs2.out
  have h0H : Hid (W0.heap.size ≤ w1.heap.size) := Nat.le_of_lt hs1.out
  clear hs1 hs2 hs4
  go_loopw [21] (fun x wr => ∃ (k : Nat) (y : Value) (zs : List (InP × Value)), k ≤ N ∧ x = .int .i64 (k : Int) ∧ Row wr w2.heap.size 26 (txC t.version y b t.end') ∧ OwnR 35 34 wr w4.heap.size y (zs.map inR) ∧ (∀ z ∈ zs, IsVals W0 z.2 (z.1.unlock.map VB)) ∧ zs.map Prod.fst = (hashIns t.ins i lock).take k ∧ Row wr w1.heap.size 30 (tab 32 fun _ => VB 0) ∧ w4.heap.size ≤ wr.heap.size ∧ Below W0.heap.size W0 wr) (fun x _ => N - (intOf x).toNat)
  case atStart => exact ⟨0, _, [], by omega, rfl, hRO4, ownR_nil _ _ _ _, (fun z hz => by cases hz), rfl, hRH4, Nat.le_refl _, hB5⟩
  case round =>
    clear hRO4 hRH4 hB5
    obtain ⟨k, y, zs, hk, rfl, hRO, hO, hU, hfst, hRH, hsb, hB⟩ := hrel
    by_cases hlt : k < N
    · have hd : decide ((k : Int) < (N : Int)) = true := by simp; omega
      obtain ⟨⟨p, u⟩, hz⟩ : ∃ z, zi[k]? = some z := ⟨_, List.getElem?_eq_getElem (by omega)⟩
      have hik := fst_at ei hz
      have hu0 : IsVals W0 u (p.unlock.map VB) := hi.2 _ (List.mem_of_getElem? hz)
      have har := hi.below hB
      have hzl : zs.length ≤ 200 := by
        have h := congrArg List.length hfst
        rw [List.length_map, List.length_take, hashIns_len] at h; omega
      have hnext : ∀ x : InP, x = putI p (if (k : Int) = i then lock else []) → (zs ++ [(x, (.slice none 0 0 : Value))]).map Prod.fst = (hashIns t.ins i lock).take (k + 1) := by
        rintro x rfl
        have hx : (hashIns t.ins i lock)[k]? = some (putI p (if (k : Int) = i then lock else [])) := by rw [hashIns_at, hik]; rfl
        obtain ⟨hkl, hxe⟩ := List.getElem?_eq_some_iff.1 hx
        rw [List.take_succ_eq_append_getElem hkl, hxe, List.map_append, hfst]; rfl
      by_cases hk0 : (k : Int) = i
      · have hki : decide ((k : Int) = i) = true := decide_eq_true hk0
        go_wp2_with (first
          | ((with_reducible change wpList _ _ _ (Oper.mk (some 22) _ _ _ _ _ :: _) _ _); refine kLssI _ _ _ _ .i64 (k : Int) (N : Int) true rfl rfl rfl rfl hd ?_; go_frame)
          | ((with_reducible change wpList _ _ _ (Oper.mk (some 24) _ _ _ _ _ :: _) _ _); refine kIndexIn _ _ a zi k (p, u) har hz rfl rfl rfl rfl ?_; intro bd hbd; go_frame)
          | ((with_reducible change wpList _ _ _ (Oper.mk (some 25) _ _ _ _ _ :: _) _ _); refine kLoadInAt _ bd p u hbd rfl rfl rfl ?_; clear hbd har; go_frame)
          | ((with_reducible change wpList _ _ _ (Oper.mk (some 9) _ _ _ _ _ :: _) _ _); refine kAllocL _ _ rfl rfl zero_InC ?_; intro a1 hRC hz1 hF1; have hszr : Hid (wr.heap.size < a1.heap.size) := hz1; clear hz1; go_frame)
          | ((with_reducible change wpList _ _ _ (Oper.mk none (Op.store _ (Operand.tmp 9) _) _ _ _ _ :: _) _ _); refine kStoreIn _ _ wr.heap.size p u _ hRC (inC_size _ _) hu0.sl.one rfl rfl rfl rfl ?_; intro a2 hRC2 hW2; have hF2 := hF1.trans (hW2.below (Nat.le_refl _)); have hsz2 : Hid (wr.heap.size < a2.heap.size) := (by show wr.heap.size < a2.heap.size; rw [hW2.size]; exact hszr.out); clear hRC hF1 hW2 hszr; go_frame)
          | ((with_reducible change wpList _ _ _ (Oper.mk (some 26) _ _ _ _ _ :: _) _ _); refine kFld inCF0 _ _ 0 0 rfl rfl rfl rfl ?_; go_frame)
          | ((with_reducible change wpList _ _ _ (Oper.mk (some 27) _ _ _ _ _ :: _) _ _); refine kLoadInRef _ _ p u hRC2 rfl rfl rfl ?_; go_frame)
          | ((with_reducible change wpList _ _ _ (Oper.mk (some 28) _ _ _ _ _ :: _) _ _); refine kFld inCF2 _ _ 0 34 rfl rfl rfl rfl ?_; go_frame)
          | ((with_reducible change wpList _ _ _ (Oper.mk (some 29) _ _ _ _ _ :: _) _ _); refine kLd Tryd.underlying22 rfl _ _ 34 _ (.int .u32 (p.order : Int)) hRC2 (inC_34 _ _) rfl rfl rfl ?_; go_frame)
          | ((with_reducible change wpList _ _ _ (Oper.mk (some 30) _ _ _ _ _ :: _) _ _); refine kBuildInO _ _ p.id p.at' p.order rfl rfl rfl rfl ?_; go_frame)
          | ((with_reducible change wpList _ _ _ (Oper.mk (some 10) _ _ _ _ _ :: _) _ _); refine kAllocL _ _ rfl rfl zero_InC ?_; intro a3 hRD hz3 hBq; have hF3 := hF2.trans (hBq.mono hF2.size); have hD : Hid (wr.heap.size ≤ a2.heap.size) := Nat.le_of_lt hsz2.out; clear hz3 hBq hF2 hRC2; go_frame)
          | ((with_reducible change wpList _ _ _ (Oper.mk none (Op.store _ (Operand.tmp 10) _) _ _ _ _ :: _) _ _); refine kStoreIn _ _ a2.heap.size ⟨p.id, p.at', [], p.order⟩ (.slice none 0 0) _ hRD (inC_size _ _) rfl rfl rfl rfl rfl ?_; intro a4 hRD4 hW4; have hF4 := hF3.trans (hW4.below hD.out); clear hRD hF3 hW4; go_frame)
          | ((with_reducible change wpList _ _ _ (Oper.mk (some 33) _ _ _ _ _ :: _) _ _); refine kEqlI _ _ _ _ .i64 (k : Int) i true rfl rfl rfl rfl hki ?_; go_frame)
          | ((with_reducible change wpList _ _ _ (Oper.mk (some 35) _ _ _ _ _ :: _) _ _); refine kFld inCF1 _ _ 0 33 rfl rfl rfl rfl ?_; go_frame)
          | ((with_reducible change wpList _ _ _ (Oper.mk none (Op.store 28 _ _) _ _ _ _ :: _) _ _); refine kStore1 _ _ _ _ a2.heap.size 33 _ lv rfl rfl rfl rfl hRD4 info_bytesP (by rw [inC_size]; decide) hlv.sl.one ?_; intro a5 hRD5 hW5; rw [inC_put _ _ _ lock] at hRD5; have hF5 := hF4.trans (hW5.below hD.out); have hRO5 := hRO.below hF5 hRO.lt; have hRH5 := hRH.below hF5 hRH.lt; have hO5 := hO.below hF5; have hB5 := hB.trans (hF5.mono hB.size); have hs5 := Nat.le_trans hsb hF5.size; clear hRD4 hW5 hF4 hF5 hRO hRH hO hB hsb; go_frame)
          | ((with_reducible change wpList _ _ _ (Oper.mk (some 36) _ _ _ _ _ :: _) _ _); refine kFld txCF1 _ _ 0 1 rfl rfl rfl rfl ?_; go_frame)
          | ((with_reducible change wpList _ _ _ (Oper.mk (some 37) _ _ _ _ _ :: _) _ _); refine kLd Tryd.underlying23 rfl _ _ 1 _ y hRO5 rfl rfl rfl rfl ?_; go_frame)
          | ((with_reducible change wpList _ _ _ (Oper.mk (some 38) _ _ _ _ _ :: _) _ _); refine kLoadIn _ a2.heap.size ⟨p.id, p.at', lock, p.order⟩ lv hRD5 rfl rfl rfl ?_; go_frame)
          | ((with_reducible change wpList _ _ _ (Oper.mk (some 39) _ _ _ _ _ :: _) _ _); refine kBuildIn1 _ ⟨p.id, p.at', lock, p.order⟩ lv hlv.sl rfl rfl rfl ?_; intro a6 hR6 hz6 hBq; have hRO6 := hRO5.below hBq hRO5.lt; have hRH6 := hRH5.below hBq hRH5.lt; have hO6 := hO5.below hBq; have hB6 := hB5.trans (hBq.mono hB5.size); have hs6 := Nat.le_trans hs5 hBq.size; have hrow := isRows_one (n := 35) hR6 (inR_len _); clear hRD5 hRO5 hRH5 hO5 hB5 hs5 hBq hz6 hR6; go_frame)
          | ((with_reducible change wpList _ _ _ (Oper.mk (some 40) _ _ _ _ _ :: _) _ _); refine kAppIns _ _ rfl rfl w4.heap.size _ _ zs [((⟨p.id, p.at', lock, p.order⟩ : InP), lv)] rfl hO6 rfl hrow (by intro z hz; simp at hz; subst hz; exact hlv.sl.one) (by simp; omega) hs6 ?_; intro y9 a7 hO7 hBq hgq; have hRO7 := hRO6.below hBq hOb.out; have hRH7 := hRH6.below hBq hHb.out; have hB7 := hB6.trans (hBq.mono h0b.out); have hs7 := Nat.le_trans hs6 hBq.size; clear hRO6 hRH6 hO6 hB6 hs6 hBq hgq hrow; go_frame)
          | ((with_reducible change wpList _ _ _ (Oper.mk (some 41) _ _ _ _ _ :: _) _ _); refine kFld txCF1 _ _ 0 1 rfl rfl rfl rfl ?_; go_frame)
          | ((with_reducible change wpList _ _ _ (Oper.mk none (Op.store 23 _ _) _ _ _ _ :: _) _ _); refine kStore1 _ _ _ _ w2.heap.size 1 _ y9 rfl rfl rfl rfl hRO7 info_insC (by show 1 < 4; decide) hO7.rows.sl.one ?_; intro a8 hRO8 hW8; have hO8 := hO7.over (over_wrote hW8 hOb.out); have hRH8 := hW8.row hRH7 hHO.out; have hB8 := hB7.trans (hW8.below h0O.out); have hs8 : w4.heap.size ≤ a8.heap.size := (by rw [hW8.size]; exact hs7); clear hRO7 hRH7 hO7 hB7 hs7 hW8; go_frame)
          | ((with_reducible change wpList _ _ _ (Oper.mk (some 42) _ _ _ _ _ :: _) _ _); refine kAddI _ _ _ _ (k : Int) 1 ((k + 1 : Nat) : Int) (by omega) rfl rfl rfl rfl ?_; go_frame))
        go_roundw
        case rel =>
          refine ⟨k + 1, y9, zs ++ [((⟨p.id, p.at', lock, p.order⟩ : InP), lv)], by omega, rfl, hRO8, hO8, fun z hz => ?_, ?_, hRH8, hs8, hB8⟩
          · rcases List.mem_append.1 hz with hz | hz
            · exact hU z hz
            · simp at hz; subst hz; exact hlv
          · have hn := hnext ⟨p.id, p.at', lock, p.order⟩ (by rw [if_pos hk0]; rfl)
            rw [List.map_append] at hn ⊢
            exact hn
        case measure => simp [intOf]; omega
      · have hki : decide ((k : Int) = i) = false := decide_eq_false hk0
        go_wp2_with (first
          | ((with_reducible change wpList _ _ _ (Oper.mk (some 22) _ _ _ _ _ :: _) _ _); refine kLssI _ _ _ _ .i64 (k : Int) (N : Int) true rfl rfl rfl rfl hd ?_; go_frame)
          | ((with_reducible change wpList _ _ _ (Oper.mk (some 24) _ _ _ _ _ :: _) _ _); refine kIndexIn _ _ a zi k (p, u) har hz rfl rfl rfl rfl ?_; intro bd hbd; go_frame)
          | ((with_reducible change wpList _ _ _ (Oper.mk (some 25) _ _ _ _ _ :: _) _ _); refine kLoadInAt _ bd p u hbd rfl rfl rfl ?_; clear hbd har; go_frame)
          | ((with_reducible change wpList _ _ _ (Oper.mk (some 9) _ _ _ _ _ :: _) _ _); refine kAllocL _ _ rfl rfl zero_InC ?_; intro a1 hRC hz1 hF1; have hszr : Hid (wr.heap.size < a1.heap.size) := hz1; clear hz1; go_frame)
          | ((with_reducible change wpList _ _ _ (Oper.mk none (Op.store _ (Operand.tmp 9) _) _ _ _ _ :: _) _ _); refine kStoreIn _ _ wr.heap.size p u _ hRC (inC_size _ _) hu0.sl.one rfl rfl rfl rfl ?_; intro a2 hRC2 hW2; have hF2 := hF1.trans (hW2.below (Nat.le_refl _)); have hsz2 : Hid (wr.heap.size < a2.heap.size) := (by show wr.heap.size < a2.heap.size; rw [hW2.size]; exact hszr.out); clear hRC hF1 hW2 hszr; go_frame)
          | ((with_reducible change wpList _ _ _ (Oper.mk (some 26) _ _ _ _ _ :: _) _ _); refine kFld inCF0 _ _ 0 0 rfl rfl rfl rfl ?_; go_frame)
          | ((with_reducible change wpList _ _ _ (Oper.mk (some 27) _ _ _ _ _ :: _) _ _); refine kLoadInRef _ _ p u hRC2 rfl rfl rfl ?_; go_frame)
          | ((with_reducible change wpList _ _ _ (Oper.mk (some 28) _ _ _ _ _ :: _) _ _); refine kFld inCF2 _ _ 0 34 rfl rfl rfl rfl ?_; go_frame)
          | ((with_reducible change wpList _ _ _ (Oper.mk (some 29) _ _ _ _ _ :: _) _ _); refine kLd Tryd.underlying22 rfl _ _ 34 _ (.int .u32 (p.order : Int)) hRC2 (inC_34 _ _) rfl rfl rfl ?_; go_frame)
          | ((with_reducible change wpList _ _ _ (Oper.mk (some 30) _ _ _ _ _ :: _) _ _); refine kBuildInO _ _ p.id p.at' p.order rfl rfl rfl rfl ?_; go_frame)
          | ((with_reducible change wpList _ _ _ (Oper.mk (some 10) _ _ _ _ _ :: _) _ _); refine kAllocL _ _ rfl rfl zero_InC ?_; intro a3 hRD hz3 hBq; have hF3 := hF2.trans (hBq.mono hF2.size); have hD : Hid (wr.heap.size ≤ a2.heap.size) := Nat.le_of_lt hsz2.out; clear hz3 hBq hF2 hRC2; go_frame)
          | ((with_reducible change wpList _ _ _ (Oper.mk none (Op.store _ (Operand.tmp 10) _) _ _ _ _ :: _) _ _); refine kStoreIn _ _ a2.heap.size ⟨p.id, p.at', [], p.order⟩ (.slice none 0 0) _ hRD (inC_size _ _) rfl rfl rfl rfl rfl ?_; intro a4 hRD4 hW4; have hF4 := hF3.trans (hW4.below hD.out); clear hRD hF3 hW4; go_frame)
          | ((with_reducible change wpList _ _ _ (Oper.mk (some 33) _ _ _ _ _ :: _) _ _); refine kEqlI _ _ _ _ .i64 (k : Int) i false rfl rfl rfl rfl hki ?_; go_frame)
          | ((with_reducible change wpList _ _ _ (Oper.mk (some 36) _ _ _ _ _ :: _) _ _); refine kFld txCF1 _ _ 0 1 rfl rfl rfl rfl ?_; have hRD5 := hRD4; have hF5 := hF4; have hRO5 := hRO.below hF5 hRO.lt; have hRH5 := hRH.below hF5 hRH.lt; have hO5 := hO.below hF5; have hB5 := hB.trans (hF5.mono hB.size); have hs5 := Nat.le_trans hsb hF5.size; clear hRD4 hF4 hF5 hRO hRH hO hB hsb; go_frame)
          | ((with_reducible change wpList _ _ _ (Oper.mk (some 37) _ _ _ _ _ :: _) _ _); refine kLd Tryd.underlying23 rfl _ _ 1 _ y hRO5 rfl rfl rfl rfl ?_; go_frame)
          | ((with_reducible change wpList _ _ _ (Oper.mk (some 38) _ _ _ _ _ :: _) _ _); refine kLoadIn _ a2.heap.size ⟨p.id, p.at', [], p.order⟩ (.slice none 0 0) hRD5 rfl rfl rfl ?_; go_frame)
          | ((with_reducible change wpList _ _ _ (Oper.mk (some 39) _ _ _ _ _ :: _) _ _); refine kBuildIn1 _ ⟨p.id, p.at', [], p.order⟩ (.slice none 0 0) ⟨none, 0, 0, rfl⟩ rfl rfl rfl ?_; intro a6 hR6 hz6 hBq; have hRO6 := hRO5.below hBq hRO5.lt; have hRH6 := hRH5.below hBq hRH5.lt; have hO6 := hO5.below hBq; have hB6 := hB5.trans (hBq.mono hB5.size); have hs6 := Nat.le_trans hs5 hBq.size; have hrow := isRows_one (n := 35) hR6 (inR_len _); clear hRD5 hRO5 hRH5 hO5 hB5 hs5 hBq hz6 hR6; go_frame)
          | ((with_reducible change wpList _ _ _ (Oper.mk (some 40) _ _ _ _ _ :: _) _ _); refine kAppIns _ _ rfl rfl w4.heap.size _ _ zs [((⟨p.id, p.at', [], p.order⟩ : InP), (.slice none 0 0))] rfl hO6 rfl hrow (by intro z hz; simp at hz; subst hz; exact rfl) (by simp; omega) hs6 ?_; intro y9 a7 hO7 hBq hgq; have hRO7 := hRO6.below hBq hOb.out; have hRH7 := hRH6.below hBq hHb.out; have hB7 := hB6.trans (hBq.mono h0b.out); have hs7 := Nat.le_trans hs6 hBq.size; clear hRO6 hRH6 hO6 hB6 hs6 hBq hgq hrow; go_frame)
          | ((with_reducible change wpList _ _ _ (Oper.mk (some 41) _ _ _ _ _ :: _) _ _); refine kFld txCF1 _ _ 0 1 rfl rfl rfl rfl ?_; go_frame)
          | ((with_reducible change wpList _ _ _ (Oper.mk none (Op.store 23 _ _) _ _ _ _ :: _) _ _); refine kStore1 _ _ _ _ w2.heap.size 1 _ y9 rfl rfl rfl rfl hRO7 info_insC (by show 1 < 4; decide) hO7.rows.sl.one ?_; intro a8 hRO8 hW8; have hO8 := hO7.over (over_wrote hW8 hOb.out); have hRH8 := hW8.row hRH7 hHO.out; have hB8 := hB7.trans (hW8.below h0O.out); have hs8 : w4.heap.size ≤ a8.heap.size := (by rw [hW8.size]; exact hs7); clear hRO7 hRH7 hO7 hB7 hs7 hW8; go_frame)
          | ((with_reducible change wpList _ _ _ (Oper.mk (some 42) _ _ _ _ _ :: _) _ _); refine kAddI _ _ _ _ (k : Int) 1 ((k + 1 : Nat) : Int) (by omega) rfl rfl rfl rfl ?_; go_frame))
        go_roundw
        case rel =>
          refine ⟨k + 1, y9, zs ++ [((⟨p.id, p.at', [], p.order⟩ : InP), (.slice none 0 0))], by omega, rfl, hRO8, hO8, fun z hz => ?_, ?_, hRH8, hs8, hB8⟩
          · rcases List.mem_append.1 hz with hz | hz
            · exact hU z hz
            · simp at hz; subst hz; exact isVals_nil _
          · have hn := hnext ⟨p.id, p.at', [], p.order⟩ (by rw [if_neg hk0]; rfl)
            rw [List.map_append] at hn ⊢
            exact hn
        case measure => simp [intOf]; omega
    · have hd : decide ((k : Int) < (N : Int)) = false := by simp; omega
      have hall : zs.map Prod.fst = hashIns t.ins i lock := by rw [hfst, List.take_of_length_le (by rw [hashIns_len]; omega)]
      have hIn : InsOf wr y (hashIns t.ins i lock) := ⟨zs, hall, hO.rows, fun z hz => (hU z hz).below hB⟩
      clear hO hU hfst hall hlt
      go_wp2_with (first
        | ((with_reducible change wpList _ _ _ (Oper.mk (some 22) _ _ _ _ _ :: _) _ _); refine kLssI _ _ _ _ .i64 (k : Int) (N : Int) false rfl rfl rfl rfl hd ?_; go_frame)
        | ((with_reducible change wpList _ _ _ (Oper.mk (some 43) _ _ _ _ _ :: _) _ _); refine kLoadTx _ _ t.version t.end' y b hRO rfl rfl rfl ?_; go_frame)
        | (go_at_call 16; refine (yBytes_any (t := hashT t i lock) _ (hashT_is ht i lock) (hashT_fits hf i hll) hIn (hb.below hB)).mono ?_; rintro e w7 ⟨x7, rfl, hO7, hBq⟩; have hRH7 := hRH.below hBq hRH.lt; have hB7 := hB.trans (hBq.mono hB.size); have hO7c := own_less hB.size hO7; clear hBq hRO hRH hIn hO7 hB; go_frame)
        | ((with_reducible change wpList _ _ _ (Oper.mk (some 46) _ _ _ _ _ :: _) _ _); refine kConvIW _ i rfl rfl rfl ?_; go_frame)
        | ((with_reducible change wpList _ _ _ (Oper.mk (some 47) _ _ _ _ _ :: _) _ _); refine kConvWU _ (u32N i) (u32_lt i) rfl rfl rfl ?_; go_frame)
        | (go_at_call 39; refine (jFixed_any (u32N i) (by have := u32_lt i; omega) 4 _).mono ?_; rintro e w8 ⟨x8, rfl, hO8, hBq⟩; rw [clamp4] at hO8; have hRH8 := hRH7.below hBq hRH7.lt; have hB8 := hB7.trans (hBq.mono hB7.size); have hO7b := hO7c.below hBq; have hs8 := hB8.size; clear hBq hRH7 hB7 hO7c; go_frame)
        | ((with_reducible change wpList _ _ _ (Oper.mk (some 49) _ _ _ _ _ :: _) _ _); refine kAppBg _ _ rfl rfl W0.heap.size _ _ (txL (hashT t i lock)) (fixedL (u32N i) 4) hO7b hO8.vals rfl rfl (by rw [fixedL_len]; omega) hs8 ?_; intro x9 w9 hO9 hBq hgq; have hRH9 := row_app hO7b hRH8 (by decide) hgq; have hB9 := hB8.trans hBq; clear hBq hgq hRH8 hB8 hO7b hO8; go_frame)
        | (go_at_call 49; refine (rTwice_any (txL (hashT t i lock) ++ fixedL (u32N i) 4) _ _ hO9.vals (by rw [List.length_append, fixedL_len]; omega)).mono ?_; rintro e w10 ⟨rfl, hBq⟩; have hRH10 := hRH9.below hBq hRH9.lt; have hB10 := hB9.trans (hBq.mono hB9.size); clear hBq hRH9 hB9; go_frame)
        | ((with_reducible change wpList _ _ _ (Oper.mk none (Op.store 30 _ _) _ _ _ _ :: _) _ _); refine kStoreRow _ _ _ _ _ _ _ rfl rfl rfl rfl hRH10 (by rw [tab_size]; exact info_Hash) (by simp only [tab_size]) (tab_one _ _ fun _ _ => rfl) ?_; intro w11 hRH11 hW11; have hB11 := hB10.trans (hW11.below h0H.out); go_frame))
      (try simp only [Exit.inBlock, Exit.then])
      exact result_row rfl rfl hRH11 Tryd.underlying30 rfl (by rw [tab_size]; exact info_Hash) rfl ⟨rfl, hB11⟩
end Go.Proofs.YtaoaecbdjdcpdaaDoor
