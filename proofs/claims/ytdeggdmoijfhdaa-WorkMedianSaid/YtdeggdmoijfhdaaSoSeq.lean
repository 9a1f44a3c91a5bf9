/-
  Layer 12: what goes over a slice of numbers, and what is collected of it.
-/
import Derived.Test.YtdeggdmoijfhdaaSoFn7
import Derived.OrdersIn
import Derived.RangeFuncCalls
import Derived.RangeFuncWrites
import Derived.RangeFuncLeaves
import Derived.Shelf.Abstract
import Derived.WalkKit
import Derived.OwnWalkIn
import Derived.TacticsInMore
import Derived.LoopNIn
import Derived.LoopIn
namespace Go.Proofs.Ytdeggdmoijfhdaa
open Go Go.RowKit Go.Shelf
namespace SoI

attribute [local go_sem] Oper.semAt_some
section
variable {P : Program} {ops : Array Oper} {Q : Exit → Act → World → Prop} {md : Region.Mode} {lp n : Nat}
def noDefer (l : List Oper) : Bool := l.all fun o => match o.op with | .defer _ => false | _ => true
theorem noDefer_at {l : List Oper} (h : noDefer l = true) {o : Oper} (ho : o ∈ l) : ∀ c, o.op ≠ .defer c := by
  intro c hc
  have := List.all_eq_true.1 h o ho
  rw [hc] at this
  cases this
theorem op_in {o : Oper} {a : Act} {w : World} {K : Act → World → Prop} (hd : ∀ c, o.op ≠ .defer c) (h : o.wp P a w K Q) : o.wpIn (Fence.wide.inRound lp) n P a w K Q := by
  refine ⟨fun _ _ => trivial, ?_⟩
  unfold Oper.wp at h
  rw [show (Fence.wide.inRound lp).round = some lp from rfl, Oper.semAt_some _ _ _ hd]
  generalize (execOp a.eval o).run P w = r at *
  cases r with
  | ok x w' =>
    cases x <;> simp only [Oper.upon, Oper.uponIn] at h ⊢
    case value v => exact h
    case skip => exact h
    case defer d => exact h
    case enter f args => exact ⟨fun h => (by cases h), CallsIn.inRound lp (callsIn_wide.2 h)⟩
    case row row args => exact ⟨fun h => (by cases h), fun c cs _ => let ⟨v, w', r, s⟩ := h c cs; ⟨v, w', r, stepsIn_wide.2 s⟩⟩
  | halt x w' => cases x <;> simp only [Oper.upon, Oper.uponIn] at h ⊢ <;> exact h
theorem list_in (hQ : ∀ a w, ¬ Q .outgrown a w) : ∀ (l : List Oper) (_ : noDefer l = true) (a : Act) (w : World), wpList P ops Q l a w → wpListIn (Fence.wide.inRound lp) n P ops Q l a w
  | [], _, _, _, h => h
  | o :: rest, hd, a, w, h => by
    have hd2 : noDefer rest = true := by unfold noDefer at hd ⊢; rw [List.all_cons, Bool.and_eq_true] at hd; exact hd.2
    unfold wpListIn
    unfold wpList at h
    split
    · rename_i hw
      rw [if_pos hw] at h
      rcases h with h | ⟨-, a', w', h⟩
      · exact Oper.wpIn_mono (fun a w => list_in hQ rest hd2 a w) (op_in (noDefer_at hd (by simp)) h)
      · exact absurd h (hQ a' w')
    · rename_i hw
      rw [if_neg hw] at h
      exact ⟨fun _ _ => trivial, list_in hQ rest hd2 _ _ h⟩
theorem any_in (hQ : ∀ a w, ¬ Q .outgrown a w) (hd : noDefer ops.toList = true) : ∀ (f : Nat) (listed : Array Bool) (a : Act) (w : World), wpAny P md ops Q f listed a w → wpAnyIn (Fence.wide.inRound lp) n P md ops Q f listed a w
  | 0, _, _, _, h => h
  | f + 1, listed, a, w, h => by
    refine ⟨h.1, fun i hi => ?_⟩
    have h2 := h.2 i hi
    unfold wpOp at h2
    unfold wpOpIn
    split
    · rename_i ho; rw [ho] at h2; exact any_in hQ hd f _ _ _ h2
    · rename_i o ho
      rw [ho] at h2
      dsimp only at h2
      have hmem : o ∈ ops.toList := by rw [Array.getElem?_eq_some_iff] at ho; obtain ⟨hi, rfl⟩ := ho; exact Array.getElem_mem_toList hi
      split
      · rename_i hw
        rw [if_pos hw] at h2
        rcases h2 with h2 | ⟨-, a', w', h2⟩
        · exact Oper.wpIn_mono (fun a w => any_in hQ hd f _ a w) (op_in (noDefer_at hd hmem) h2)
        · exact absurd h2 (hQ a' w')
      · rename_i hw
        rw [if_neg hw] at h2
        exact ⟨fun _ _ => trivial, any_in hQ hd f _ _ _ h2⟩
/-- a plain region in a round -/
theorem region_in {id : Nat} {a : Act} {w : World} {l : List Oper} (hQ : ∀ a w, ¬ Q .outgrown a w) (hd : noDefer l = true) (h : wpList P l.toArray Q l a w) : (Code.region id l.toArray false).wpIn (Fence.wide.inRound lp) n P Q a w :=
  wpIn_region_lit (list_in hQ l hd a w h)
end
section
variable {P : Program} {ops : Array Oper} {Q : Exit → Act → World → Prop} {rest : List Oper} {o : Oper} {a : Act} {w : World} {S : World → Prop}
theorem kYIn {n : Nat} {v : Value} (_hd : ∀ c, o.op ≠ .defer c) (hy : YieldsIf P ops (fun w' => w' = w) o v a) (h : wpListIn Fence.wide n P ops Q rest (a.put o.dst v) w) : wpListIn Fence.wide n P ops Q (o :: rest) a w := by
  unfold wpListIn
  rcases hy with ⟨hg, hv⟩ | ⟨hg, rfl⟩
  · rw [if_pos hg]
    refine ⟨fun _ _ => trivial, ?_⟩
    rw [show Fence.wide.round = none from rfl, Oper.semAt_none, hv w rfl]
    exact h
  · rw [if_neg (by rw [hg]; decide)]
    exact ⟨fun _ _ => trivial, h⟩
end
/-- two boxes are kept -/
def Kq (Bs Bn : Nat) (W W' : World) : Prop := W.heap.size ≤ W'.heap.size ∧ ∀ k, k = Bs ∨ k = Bn → W'.heap[k]? = W.heap[k]?
theorem Kq.trans {Bs Bn : Nat} {A B C : World} (h : Kq Bs Bn A B) (k : Kq Bs Bn B C) : Kq Bs Bn A C := ⟨Nat.le_trans h.1 k.1, fun j hj => (k.2 j hj).trans (h.2 j hj)⟩
theorem Kq.refl (Bs Bn : Nat) (A : World) : Kq Bs Bn A A := ⟨Nat.le_refl _, fun _ _ => rfl⟩
theorem Kq.row {Bs Bn k : Nat} {A B : World} {T : TypeId} {cs : Array Value} (h : Kq Bs Bn A B) (hk : k = Bs ∨ k = Bn) (hr : Row A k T cs) : Row B k T cs := by unfold Row at *; rw [h.2 k hk]; exact hr
section
variable {A B : World} {row : Option Nat}
theorem cells_keep (hg : A.grownBy B row) (hr : ∀ r, row = some r → ∃ o : Obj, A.heap[r]? = some o ∧ o.isCells = false) {k : Nat} {cs : Array Value} {T : TypeId} {m : Nat × Nat} (h : A.heap[k]? = some (.cells cs T m)) : B.heap[k]? = some (.cells cs T m) :=
  (hg.block k (Array.getElem?_eq_some_iff.1 h).1 (fun e => by obtain ⟨o, ho, hc⟩ := hr k e.symm; rw [h] at ho; cases ho; cases hc)).trans h
theorem Row.keepC {g : Nat} {T : TypeId} {cs : Array Value} (h : Row A g T cs) (hg : A.grownBy B row) (hr : ∀ r, row = some r → ∃ o : Obj, A.heap[r]? = some o ∧ o.isCells = false) : Row B g T cs := cells_keep hg hr h
end
/-- what is no cells lies as it lay -/
theorem keeps_below {B : Nat} {W W' : World} (h : Below W.heap.size W W') : KeepsFrom B W W' := ⟨h.size, fun k _ _ hk _ => (h.block k (Array.getElem?_eq_some_iff.1 hk).1).trans hk⟩
theorem keeps_wrote {B g : Nat} {W W' : World} {T : TypeId} {cs : Array Value} (h : Wrote g W W') (hr : Row W g T cs) : KeepsFrom B W W' := ⟨Nat.le_of_eq h.size.symm, fun k o _ hk ho => by
  have hne : k ≠ g := fun e => by subst e; have hr' : W.heap[k]? = _ := hr; rw [hr'] at hk; cases hk; cases ho
  exact (h.other k hne).trans hk⟩
theorem kq_below {Bs Bn : Nat} {B : Nat} {W W' : World} (h : Below B W W') (hs : Bs < B) (hn : Bn < B) : Kq Bs Bn W W' := ⟨h.size, fun j hj => h.block j (hj.elim (fun e => by rw [e]; exact hs) (fun e => by rw [e]; exact hn))⟩
theorem kq_wrote {Bs Bn g : Nat} {W W' : World} (h : Wrote g W W') (hs : Bs ≠ g) (hn : Bn ≠ g) : Kq Bs Bn W W' := ⟨Nat.le_of_eq h.size.symm, fun j hj => h.other j (hj.elim (fun e => by rw [e]; exact hs) (fun e => by rw [e]; exact hn))⟩
theorem row_appJ {g : Nat} {W W' : World} {row : Option Nat} {T : TypeId} {cs : Array Value} (h : Row W g T cs) (hg : W.grownBy W' row) (hr : ∀ r, row = some r → r ≠ g) : Row W' g T cs := (hg.block g h.lt (fun e => hr g e.symm rfl)).trans h

/-- numbers in a row of their own -/
def OwnW (w : World) (base : Nat) (v : Value) (l : List Nat) : Prop := w.ownsRow base 28 1 v (l.map VW).length (l.map VW)
theorem OwnW.below {w w' : World} {b : Nat} {v : Value} {l : List Nat} (h : OwnW w b v l) (hb : Below w.heap.size w w') : OwnW w' b v l := ownsRow_below h hb
theorem OwnW.keepC {A B : World} {row : Option Nat} {b : Nat} {v : Value} {l : List Nat} (h : OwnW A b v l) (hg : A.grownBy B row) (hr : ∀ r, row = some r → ∃ o : Obj, A.heap[r]? = some o ∧ o.isCells = false) : OwnW B b v l := by
  obtain ⟨h1, h2⟩ := h
  refine ⟨h1, ?_⟩
  rcases h2 with h2 | ⟨g, cap, cur, rfl, hb, hk, rest⟩
  · exact .inl h2
  · exact .inr ⟨g, cap, cur, rfl, hb, cells_keep hg hr hk, rest⟩
theorem OwnW.less {w : World} {b b' : Nat} {v : Value} {l : List Nat} (hb : b' ≤ b) (h : OwnW w b v l) : OwnW w b' v l :=
  ⟨h.1, h.2.imp id fun ⟨g, cap, cur, e, hg, rest⟩ => ⟨g, cap, cur, e, Nat.le_trans hb hg, rest⟩⟩
theorem ownW_nil (w : World) (b : Nat) : OwnW w b (.slice none 0 0) [] := World.ownsRow_nil w b _ _
theorem OwnW.dat {w : World} {b : Nat} {v : Value} {l : List Nat} (h : OwnW w b v l) (h0 : 0 < l.length) : ∃ g cap, v = .slice (some ⟨g, 0, none⟩) l.length cap ∧ b ≤ g ∧ Dat w g l.length cap l.toArray := by
  rcases h.2 with ⟨-, h2⟩ | ⟨g, cap, cur, rfl, hb, hk, hnc, -, hs, ht⟩
  · simp at h2; subst h2; simp at h0
  · rw [List.length_map] at hnc ht ⊢
    refine ⟨g, cap, rfl, hb, by simp, hnc, cur, hk, by omega, fun i hi => ?_⟩
    have := congrArg (fun q => q[i]?) ht
    simp only [Nat.mul_one] at this
    rw [List.getElem?_take, if_pos hi, Array.getElem?_toList, List.getElem?_map, List.getElem?_eq_getElem hi] at this
    rw [this]
    unfold dv
    rw [getElem!_pos l.toArray i (by simpa using hi)]
    rfl
theorem Dat.keepC {A B : World} {row : Option Nat} {g n cap : Nat} {d : Array Nat} (h : Dat A g n cap d) (hg : A.grownBy B row) (hr : ∀ r, row = some r → ∃ o : Obj, A.heap[r]? = some o ∧ o.isCells = false) : Dat B g n cap d := by
  obtain ⟨h1, h2, C, hR, h3⟩ := h; exact ⟨h1, h2, C, Row.keepC hR hg hr, h3⟩
theorem Dat.kq {A B : World} {Bs g n cap : Nat} {d : Array Nat} (h : Dat A g n cap d) (hq : Kq Bs g A B) : Dat B g n cap d := by
  obtain ⟨h1, h2, C, hR, h3⟩ := h; exact ⟨h1, h2, C, hq.row (.inr rfl) hR, h3⟩
theorem u32Info0 : (Try.prog.info? 28).map (fun i => (i.zero, i.size, i.bytes)) = some (some (.int .u32 0), 1, 4) := by kernel_rfl
theorem u32Info : ∃ i, Try.prog.info? 28 = some i ∧ i.zero = some (.int .u32 0) ∧ i.size = 1 ∧ i.bytes = 4 := by
  have h := u32Info0
  cases hq : Try.prog.info? 28 with
  | none => rw [hq] at h; cases h
  | some i => rw [hq] at h; simp at h; exact ⟨i, rfl, h.1, h.2.1, h.2.2⟩
theorem info_u32s : (Try.prog.info? 45).map (·.size) = some 1 := by kernel_rfl
theorem vws_one (l : List Nat) : ∀ u ∈ l.map VW, u.oneCell' = true := fun u hu => by
  simp at hu; obtain ⟨x, -, rfl⟩ := hu; rfl
theorem ownW_lt {b : Nat} {W : World} {v : Value} {l : List Nat} (ho : OwnW W b v l) : ∀ r, v.ownBlock = some r → b ≤ r ∧ r < W.heap.size := fun r e => by
  rcases ho.2 with ⟨rfl, _⟩ | ⟨g, cap, cur, rfl, hb, hg, _⟩
  · simp [Value.ownBlock] at e
  · simp only [Value.ownBlock, Option.some.injEq] at e
    subst e
    exact ⟨hb, (Array.getElem?_eq_some_iff.1 hg).1⟩
theorem OwnW.one {b : Nat} {W : World} {v : Value} {l : List Nat} (ho : OwnW W b v l) : v.oneCell' = true := by
  rcases ho.2 with ⟨rfl, _⟩ | ⟨g, cap, cur, rfl, _⟩ <;> rfl
theorem OwnW.wrote {b g : Nat} {W W' : World} {v : Value} {l : List Nat} (ho : OwnW W b v l) (hW : Wrote g W W') (hg : g < b) : OwnW W' b v l := by
  obtain ⟨h1, h2⟩ := ho
  refine ⟨h1, ?_⟩
  rcases h2 with h2 | ⟨k, cap, cur, rfl, hb, hk, rest⟩
  · exact .inl h2
  · exact .inr ⟨k, cap, cur, rfl, hb, (hW.other k (by omega)).trans hk, rest⟩
theorem keeps_appW {B b : Nat} {W W' : World} {v : Value} {l : List Nat} (ho : OwnW W b v l) (h : W.grownBy W' v.ownBlock) : KeepsFrom B W W' := ⟨h.size, fun k o _ hk hc => by
  refine (h.block k (Array.getElem?_eq_some_iff.1 hk).1 (fun e => ?_)).trans hk
  rcases ho.2 with ⟨rfl, _⟩ | ⟨g, cap, cur, rfl, _, hg, _⟩
  · simp [Value.ownBlock] at e
  · simp only [Value.ownBlock, Option.some.injEq] at e
    subst e
    rw [hg] at hk; cases hk; cases hc⟩
/-- a number is appended -/
theorem kAppW {ops : Array Oper} {Q : Exit → Act → World → Prop} {rest : List Oper} {o : Oper} {a : Act} {w : World} (s x : Operand) (base : Nat) (v y : Value) (l m : List Nat) (hown : OwnW w base v l) (hy : IsVals w y (m.map VW)) (hlen : l.length + m.length ≤ 1000000000) (hbase : base ≤ w.heap.size) (ho : o.op = .call { callee := .builtin .append, args := #[s, x], argTypes := #[45, 45] }) (hg : o.guard = none) (hs : a.eval s = v) (hx : a.eval x = y)
    (h : ∀ v' w', OwnW w' base v' (l ++ m) → Below base w w' → w.grownBy w' v.ownBlock → wpList Try.prog ops Q rest (a.put o.dst v') w') : wpList Try.prog ops Q (o :: rest) a w := by
  obtain ⟨i, hi, hz, hsize, hby⟩ := u32Info
  refine kAppend s x _ _ ho hg base i _ Try.underlying45 hi hz hsize rfl v y (l.map VW) (m.map VW) hs hown hx hy (vws_one _) (by simp [maxLen]; omega) (by rw [hby]; simp; omega) hbase fun v' w' h1 h2 => ?_
  rw [← List.map_append] at h1
  exact h v' w' h1 (below_grown hown h2 hbase) h2
theorem fin_take {n k : Nat} (h : k < n) : (List.finRange n).take (k + 1) = (List.finRange n).take k ++ [⟨k, h⟩] := by
  rw [List.take_succ_eq_append_getElem (by simpa using h)]
  simp
set_option maxRecDepth 100000 in
set_option maxHeartbeats 8000000 in
theorem values1_in (n : Nat) (hn : 1 ≤ n) (lp Bs g N c : Nat) (d : Array Nat) (hN : N ≤ 1000000) (J Jx : List (Fin N) → World → Prop)
    (hY : ∀ pre x W, J pre W → pre.length < N → YieldAt Fence.wide (n - 1) Try.prog lp #[VW (dv d x.1)] W fun e W' => (e = .returned (.bool true) ∧ J (pre ++ [x]) W' ∧ Kq Bs g W W') ∨ (e = .returned (.bool false) ∧ Jx (pre ++ [x]) W'))
    (W : World) (hS : Row W Bs 45 #[.slice (some ⟨g, 0, none⟩) N c]) (hD : Dat W g N c d) (h0 : J [] W) :
    CallsIn Fence.wide n Try.prog 50 #[.func (.yield lp) #[] #[], .pointer (some ⟨Bs, 0, none⟩)] W fun e W' => (∃ v, e = .returned v) ∧
      ((∃ ys, ys = List.finRange N ∧ J ys W') ∨ (∃ pre, True ∧ Jx pre W')) := by
  refine callsIn_of_wp Try.func50 rfl trivial ?_ rfl
  simp only [Try.ntmps50, List.size_toArray, List.length_cons, List.length_nil, Nat.reduceAdd, Nat.reduceSub, Array.replicate_succ, Array.replicate_zero, List.push_toArray, List.append_toArray, List.nil_append, List.cons_append]
  gi_wp2_with (first
    | ((with_reducible change wpListIn _ _ _ _ _ (Oper.mk (some 5) _ _ _ _ _ :: _) _ _); refine kYIn (fun c h => by cases h) (yLoad1 _ _ _ Bs 0 _ (.slice (some ⟨g, 0, none⟩) N c) _ rfl rfl rfl (fun _ e => by cases e; exact hS) Try.underlying45 rfl rfl) ?_)
    | ((with_reducible change wpListIn _ _ _ _ _ (Oper.mk (some 6) _ _ _ _ _ :: _) _ _); refine kYIn (fun c h => by cases h) (yLenK _ _ _ (some ⟨g, 0, none⟩) N c Try.underlying45 rfl rfl rfl) ?_))
  gi_loopw [7] (fun x wr => ∃ k : Nat, k ≤ N ∧ x = .int .i64 (k : Int) ∧ J ((List.finRange N).take k) wr ∧ Kq Bs g W wr) (fun x _ => (N + 2) - (intOf x).toNat)
  case atStart => exact ⟨0, by omega, rfl, h0, Kq.refl _ _ _⟩
  case round =>
    obtain ⟨k, hk, rfl, hJs, hq⟩ := hrel
    have hDr := Dat.kq hD hq
    by_cases hlt : k < N
    · have hd : decide ((k : Int) < (N : Int)) = true := by simp; omega
      obtain ⟨fn, tmps, assign, body, hy, hR⟩ := hY _ ⟨k, hlt⟩ wr hJs (by rw [List.length_take]; simp; omega)
      dsimp only at hy
      rw [← fin_take hlt] at hR
      gi_wp2_with (first
        | ((with_reducible change wpListIn _ _ _ _ _ (Oper.mk (some 8) _ _ _ _ _ :: _) _ _); refine kYIn (fun c h => by cases h) (yLssK _ _ _ _ .i64 (k : Int) (N : Int) true hd rfl rfl rfl rfl) ?_)
        | ((with_reducible change wpListIn _ _ _ _ _ (Oper.mk (some 9) _ _ _ _ _ :: _) _ _); refine kYIn (fun c h => by cases h) (yIdxD _ _ g N c k hlt rfl rfl rfl rfl) ?_)
        | ((with_reducible change wpListIn _ _ _ _ _ (Oper.mk (some 10) _ _ _ _ _ :: _) _ _); refine kYIn (fun c h => by cases h) (yLoadD _ (fun _ e => by cases e; exact hDr) hlt rfl rfl rfl) ?_))
      refine hR.mono ?_
      rintro e W3 (⟨rfl, hJ3, hk3⟩ | ⟨rfl, hJx3⟩)
      · gi_wp2_with ((with_reducible change wpListIn _ _ _ _ _ (Oper.mk (some 15) _ _ _ _ _ :: _) _ _); refine kYIn (fun c h => by cases h) (yAddZ _ _ _ _ (k : Int) 1 ((k + 1 : Nat) : Int) (by omega) rfl rfl rfl rfl) ?_)
        go_roundw
        case rel => exact ⟨k + 1, by omega, rfl, hJ3, hq.trans hk3⟩
        case measure => simp [intOf]; omega
      · gi_wp2
        refine bodyPost_ret (results_none rfl _ _ _) rfl ?_
        exact ⟨⟨_, rfl⟩, .inr ⟨_, trivial, hJx3⟩⟩
    · have hk2 : k = N := by omega
      have hd : decide ((k : Int) < (N : Int)) = false := by simp; omega
      gi_wp2_with ((with_reducible change wpListIn _ _ _ _ _ (Oper.mk (some 8) _ _ _ _ _ :: _) _ _); refine kYIn (fun c h => by cases h) (yLssK _ _ _ _ .i64 (k : Int) (N : Int) false hd rfl rfl rfl rfl) ?_)
      go_end0
      exact ⟨⟨_, rfl⟩, .inl ⟨_, by rw [hk2]; exact List.take_of_length_le (by simp), hJs⟩⟩
set_option maxRecDepth 100000 in
theorem values_any (ao : Option Addr) (n c : Nat) (w : World) : Calls Try.prog 32 #[.slice ao n c] w fun e w' => e = .returned (.func (.func 50) #[] #[.pointer (some ⟨w.heap.size, 0, none⟩)]) ∧ w' = w.alloc (.cells #[.slice ao n c] 45) := by
  refine (callsIn_wide (n := 9)).1 ?_
  refine callsIn_of_wp Try.func32 rfl trivial ?_ rfl
  simp only [Try.ntmps32, List.size_toArray, List.length_cons, List.length_nil, Nat.reduceAdd, Nat.reduceSub, Array.replicate_succ, Array.replicate_zero, List.push_toArray, List.append_toArray, List.nil_append, List.cons_append]
  gi_wp2
  go_ret
  exact ⟨rfl, rfl⟩
/-- what Values hands back goes over the numbers -/
theorem values_stops (n : Nat) (hn : 1 ≤ n) (Bs g N c : Nat) (d : Array Nat) (hN : N ≤ 1000000) (w : World) (hS : Row w Bs 45 #[.slice (some ⟨g, 0, none⟩) N c]) (hD : Dat w g N c d) :
    SeqStopsK Fence.wide n Try.prog 50 #[.pointer (some ⟨Bs, 0, none⟩)] (fun x : Fin N => #[VW (dv d x.1)]) (Kq Bs g) (fun ys => ys = List.finRange N) (fun _ => True) N w := fun lp J Jx W hW _ _ hY h0 =>
  values1_in n hn lp Bs g N c d hN J Jx hY W (hS.below hW hS.lt) (hD.below hW) h0
def SeqPost (w : World) (l : List Nat) (e : Ending) (w' : World) : Prop := ∃ u, e = .returned u ∧ OwnW w' w.heap.size u l ∧ Below w.heap.size w w'
set_option maxRecDepth 100000 in
set_option maxHeartbeats 8000000 in
theorem sAppendSeq_any {g N c Bs : Nat} {d : Array Nat} (W0 : World) (hD : Dat W0 g N c d) (hS : Row W0 Bs 45 #[.slice (some ⟨g, 0, none⟩) N c]) (hN : N ≤ 1000) : Calls Try.prog 55 #[.slice none 0 0, .func (.func 50) #[] #[.pointer (some ⟨Bs, 0, none⟩)]] W0 (SeqPost W0 ((List.finRange N).map fun x => dv d x.1)) := by
  refine (callsIn_wide (n := 9)).1 ?_
  refine callsIn_of_wp_marks Try.func55 rfl trivial ?_ rfl
  simp only [Try.ntmps55, List.size_toArray, List.length_cons, List.length_nil, Nat.reduceAdd, Nat.reduceSub, Array.replicate_succ, Array.replicate_zero, List.push_toArray, List.append_toArray, List.nil_append, List.cons_append]
  gi_wp2
  obtain ⟨wd, hd⟩ : ∃ wd, W0.alloc (.cells #[.slice none 0 0] 45) = wd := ⟨_, rfl⟩
  rw [hd]
  have sd : wd.heap.size = W0.heap.size + 1 := by rw [← hd]; simp
  have bD : Below W0.heap.size W0 wd := by rw [← hd]; exact (Below.refl _ _).alloc (Nat.le_refl _) _
  have rA : Row wd W0.heap.size 45 #[.slice none 0 0] := by rw [← hd]; exact heap_alloc_new W0 _
  clear hd
  have hDd := hD.below bD
  have hSd := hS.below bD hS.lt
  have hg := hD.lt
  have hBs := hS.lt
  refine wpIn_rangeFunc_ownG (F := Fence.wide) rfl (by decide) (gf := 50) (lb := #[.pointer (some ⟨Bs, 0, none⟩)]) rfl trivial (enters_of Try.func50 (by kernel_rfl) rfl)
    (values_stops (9 - 1) (by decide) Bs g N c d (by omega) wd hSd hDd) (fun h k => h.trans k)
    (fun W l o o' hl ho _ _ => ⟨by simp [World.putObj], fun j hj => World.putObj_heap_other (by omega)⟩) (Below.refl _ _) (fun _ => rfl)
    (fun pre W => (∃ u, Row W W0.heap.size 45 #[u] ∧ OwnW W wd.heap.size u (pre.map fun x => dv d x.1)) ∧ Below W0.heap.size W0 W ∧ wd.heap.size ≤ W.heap.size)
    (fun _ _ _ => False)
    (fun s A B row hs hg hr => by
      obtain ⟨⟨u, h1, h2⟩, h6, h7⟩ := hs
      have hr' := fun r e => (hr r e).2
      exact ⟨⟨u, Row.keepC h1 hg hr', OwnW.keepC h2 hg hr'⟩, h6.grown hg h6.size (fun k e => Nat.le_trans (by omega) (hr k e).1), Nat.le_trans h7 hg.size⟩)
    (fun _ _ _ _ _ hs _ _ => hs)
    ⟨⟨_, rA, ownW_nil _ _⟩, bD, Nat.le_refl _⟩
    (fun x => { tmps := #[.slice none 0 0, .func (.func 50) #[] #[.pointer (some ⟨Bs, 0, none⟩)], .pointer (some ⟨W0.heap.size, 0, none⟩), undef, .slice none 0 0, VW (dv d x.1), .func (.func 50) #[] #[.pointer (some ⟨Bs, 0, none⟩)], VW (dv d x.1), undef, undef, undef, undef, undef], defers := [] }) ?assign ?body ?done ?stop
  case assign =>
    intro l x W K hK
    gi_wp2
    exact hK
  case stop =>
    rintro D c pre W _ _ h _
    exact h.elim
  case done =>
    rintro D ys W hDq rfl ⟨⟨u, h1, h2⟩, h6, h7⟩ hKD
    rename_i QQ KK hKK
    clear rA hDd hSd bD
    apply hKK
    refine wpIn_wide.2 ?_
    clear hKK
    go_wp2_with (first
      | ((with_reducible change wpList _ _ _ (Oper.mk (some 12) _ _ _ _ _ :: _) _ _); refine kLoad1 _ _ _ W0.heap.size 0 _ u _ rfl rfl rfl h1 Try.underlying45 rfl rfl ?_; go_frame))
    refine ⟨by simp, .inl ⟨_, _, rfl, run_takeDeferred hKD, ?_⟩⟩
    have hgd := grownBy_putObj' W D (.deferred none)
    refine ⟨_, results_tmp rfl _ _ _, u, rfl, OwnW.keepC (OwnW.less (by omega) h2) hgd (fun r e => by cases e; exact ⟨_, hKD, rfl⟩), h6.grown hgd h6.size (fun r e => by cases e; omega)⟩
  case body =>
    rintro lp pre x W ⟨⟨u, hA, hO⟩, hB, hsz⟩ hpl
    have hpre : (pre.map fun x => dv d x.1).length ≤ 1000 := by rw [List.length_map]; omega
    have hmp : ((pre ++ [x]).map fun x => dv d x.1) = (pre.map fun x => dv d x.1) ++ [dv d x.1] := by simp
    obtain ⟨i8, hi8, hz8, hs8, hby8⟩ := u32Info
    refine wpIn_block ?_
    refine region_in (fun _ _ h => h) (by kernel_rfl) ?_
    refine kLoad1 _ _ _ W0.heap.size 0 _ u _ rfl rfl rfl hA Try.underlying45 rfl rfl ?_; go_frame
    refine kMoveV _ (VW (dv d x.1)) rfl rfl rfl ?_; go_frame
    refine kBuildSlice1 _ _ _ (VW (dv d x.1)) rfl rfl Try.underlying45 i8 _ hi8 hz8 hs8 rfl rfl ?_
    intro w1 hR1 hzz hB1
    have hV1 : IsVals w1 _ ([dv d x.1].map VW) := isVals_lit (l := [VW (dv d x.1)]) hR1
    have hA1 := hA.below hB1 hA.lt
    have hO1 := hO.below hB1
    have hB01 := hB.trans (hB1.mono hB.size)
    have hk1 : KeepsFrom wd.heap.size W w1 := keeps_below hB1
    have hq1 : Kq Bs g W w1 := kq_below hB1 (by omega) (by omega)
    have hsz1 := Nat.le_trans hsz hB1.size
    clear hA hO hB hR1 hzz hB1 hsz
    go_frame
    refine kAppW _ _ wd.heap.size u _ _ [dv d x.1] hO1 hV1 (by simp; omega) hsz1 rfl rfl rfl rfl ?_
    intro v' w2 hO2 hB2 hg2
    have hA2 := hA1.below hB2 (by omega)
    have hB02 := hB01.trans (hB2.mono (by omega))
    have hk2 := hk1.trans (keeps_appW (B := wd.heap.size) hO1 hg2)
    have hq2 := hq1.trans (kq_below hB2 (by omega) (by omega))
    have hsz2 := Nat.le_trans hsz1 hB2.size
    clear hA1 hO1 hB01 hk1 hq1 hsz1 hB2 hg2 hV1
    go_frame
    refine kStore1 _ _ _ _ W0.heap.size 0 #[u] v' rfl rfl rfl rfl hA2 info_u32s (by simp) hO2.one ?_
    intro w3 hA3 hW3
    exact ⟨hk2.trans (keeps_wrote (B := wd.heap.size) hW3 hA2), hq2.trans (kq_wrote hW3 (by omega) (by omega)), ⟨v', hA3, by rw [hmp]; exact hO2.wrote hW3 (by omega)⟩, hB02.trans (hW3.below (Nat.le_refl _)), Nat.le_trans hsz2 (Nat.le_of_eq hW3.size.symm)⟩
end SoI
end Go.Proofs.Ytdeggdmoijfhdaa
