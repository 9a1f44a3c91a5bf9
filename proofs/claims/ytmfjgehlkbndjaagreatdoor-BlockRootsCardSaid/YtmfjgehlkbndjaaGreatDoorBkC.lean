/-
  Joined: BkIn, BkChunk, BkJoin, BkRoot, BkCheck, BkBase.
-/
import Derived.Test.YtmfjgehlkbndjaaGreatDoorBkA
import Derived.Test.YtmfjgehlkbndjaaGreatDoorKitE
import Derived.OrdersIn
import Derived.RangeFuncCalls
import Derived.RangeFuncWrites
import Derived.Test.YtmfjgehlkbndjaaGreatDoorPcAll
import Derived.RangeFuncLeaves
import Derived.Shelf.Abstract
import Derived.WalkKit
import Derived.OwnWalkIn
import Derived.TacticsInMore
import Derived.LoopNIn
import Derived.LoopIn
import Derived.Test.YtmfjgehlkbndjaaGreatDoorTxBase
import Derived.Test.YtmfjgehlkbndjaaGreatDoorTxChAll
/-
  Layer 11: regions within a round of a range over a function: the laws of plain walks serve there.
-/
namespace Go.Proofs.YtmfjgehlkbndjaaGreatDoor
open Go Go.RowKit Go.Shelf

section
variable {P : Program} {ops : Array Oper} {Q : Exit → Act → World → Prop} {md : Region.Mode} {lp n : Nat}
def noDefer (l : List Oper) : Bool := l.all fun o => match o.op with | .defer _ => false | _ => true
theorem noDefer_at {l : List Oper} (h : noDefer l = true) {o : Oper} (ho : o ∈ l) : ∀ c, o.op ≠ .defer c := by
  intro c hc
  have := List.all_eq_true.1 h o ho
  rw [hc] at this
  cases this
theorem op_in {o : Oper} {a : Act} {w : World} {K : Act → World → Prop} (hd : ∀ c, o.op ≠ .defer c) (h : o.wp P a w K Q) : o.wpIn (Fence.wide.inRound lp) n P a w K Q := by
  refine ⟨fun _ _ => trivial, ?_⟩
  unfold Oper.wp at h
  rw [show (Fence.wide.inRound lp).round = some lp from rfl, Oper.semAt_some _ _ _ hd]
  generalize (execOp a.eval o).run P w = r at *
  cases r with
  | ok x w' =>
    cases x <;> simp only [Oper.upon, Oper.uponIn] at h ⊢
    case value v => exact h
    case skip => exact h
    case defer d => exact h
    case enter f args => exact ⟨fun h => (by cases h), CallsIn.inRound lp (callsIn_wide.2 h)⟩
    case row row args => exact ⟨fun h => (by cases h), fun c cs _ => let ⟨v, w', r, s⟩ := h c cs; ⟨v, w', r, stepsIn_wide.2 s⟩⟩
  | halt x w' => cases x <;> simp only [Oper.upon, Oper.uponIn] at h ⊢ <;> exact h
theorem list_in (hQ : ∀ a w, ¬ Q .outgrown a w) : ∀ (l : List Oper) (_ : noDefer l = true) (a : Act) (w : World), wpList P ops Q l a w → wpListIn (Fence.wide.inRound lp) n P ops Q l a w
  | [], _, _, _, h => h
  | o :: rest, hd, a, w, h => by
    have hd2 : noDefer rest = true := by unfold noDefer at hd ⊢; rw [List.all_cons, Bool.and_eq_true] at hd; exact hd.2
    unfold wpListIn
    unfold wpList at h
    split
    · rename_i hw
      rw [if_pos hw] at h
      rcases h with h | ⟨-, a', w', h⟩
      · exact Oper.wpIn_mono (fun a w => list_in hQ rest hd2 a w) (op_in (noDefer_at hd (by simp)) h)
      · exact absurd h (hQ a' w')
    · rename_i hw
      rw [if_neg hw] at h
      exact ⟨fun _ _ => trivial, list_in hQ rest hd2 _ _ h⟩
theorem any_in (hQ : ∀ a w, ¬ Q .outgrown a w) (hd : noDefer ops.toList = true) : ∀ (f : Nat) (listed : Array Bool) (a : Act) (w : World), wpAny P md ops Q f listed a w → wpAnyIn (Fence.wide.inRound lp) n P md ops Q f listed a w
  | 0, _, _, _, h => h
  | f + 1, listed, a, w, h => by
    refine ⟨h.1, fun i hi => ?_⟩
    have h2 := h.2 i hi
    unfold wpOp at h2
    unfold wpOpIn
    split
    · rename_i ho; rw [ho] at h2; exact any_in hQ hd f _ _ _ h2
    · rename_i o ho
      rw [ho] at h2
      dsimp only at h2
      have hmem : o ∈ ops.toList := by rw [Array.getElem?_eq_some_iff] at ho; obtain ⟨hi, rfl⟩ := ho; exact Array.getElem_mem_toList hi
      split
      · rename_i hw
        rw [if_pos hw] at h2
        rcases h2 with h2 | ⟨-, a', w', h2⟩
        · exact Oper.wpIn_mono (fun a w => any_in hQ hd f _ a w) (op_in (noDefer_at hd hmem) h2)
        · exact absurd h2 (hQ a' w')
      · rename_i hw
        rw [if_neg hw] at h2
        exact ⟨fun _ _ => trivial, any_in hQ hd f _ _ _ h2⟩
/-- a plain region in a round -/
theorem region_in {id : Nat} {a : Act} {w : World} {l : List Oper} (hQ : ∀ a w, ¬ Q .outgrown a w) (hd : noDefer l = true) (h : wpList P l.toArray Q l a w) : (Code.region id l.toArray false).wpIn (Fence.wide.inRound lp) n P Q a w :=
  wpIn_region_lit (list_in hQ l hd a w h)
/-- a drawn region in a round -/
theorem region_inD {id : Nat} {a : Act} {w : World} {l : List Oper} (hQ : ∀ a w, ¬ Q .outgrown a w) (hd : noDefer l = true) (hm : P.follows .mixedOrders = true) (h : wpAny P .any l.toArray Q l.toArray.size (Array.replicate l.toArray.size false) a { w with drawn := w.drawn + 1 }) : (Code.region id l.toArray true).wpIn (Fence.wide.inRound lp) n P Q a w :=
  wpIn_region_any hm (any_in hQ (by simpa using hd) _ _ _ _ h)
end
section
variable {P : Program} {Q : Exit → Act → World → Prop}
theorem region_symT_any {a0 : Act} {w0 : World} {l : List Oper} (n : Nat) (h : List Oper) (is : List Nat) (A : List Tmp) (ss : List Spec) (hh : l.take n = h) (hAI : (is.all fun i => ((h[i]?).bind (·.dst)).isSome && A.contains (dstOf h i)) = true) (hB : slotsTB h a0.tmps.size = true) (hT : tailB l n = true) (hl : ss.length = n) (hA : ApartAll A a0 w0)
    (hstep : ∀ i o, h[i]? = some o → SymStepT P Q l.toArray A h ss a0 w0 i o)
    (hfin : ∀ w, Below w0.heap.size w0 w → AllV w ss (fun vs => ApartV is vs → wpList P l.toArray Q (l.drop n) (putAll a0 h vs) w)) :
    wpAny P .any l.toArray Q l.toArray.size (Array.replicate l.toArray.size false) a0 { w0 with drawn := w0.drawn + 1 } := by
  have hnl : n ≤ l.length := by simp only [tailB, Bool.and_eq_true, decide_eq_true_eq] at hT; exact hT.1.1
  have hhl : h.length = n := by rw [← hh]; simp; omega
  refine midT_any (w0 := w0) (a0 := a0) hh hB hT hstep ?_ _ _ _ _ (by simp) ?_ ⟨rfl, rfl, ⟨rfl, rfl, rfl, Nat.le_refl _, fun _ _ => rfl⟩, fun _ _ => rfl, fun j o _ h => ?_, fun j _ => ?_, hA, fun j _ h => ?_⟩
  · intro a w hsz hdf hbel hX hoth hall
    have hf := hfin w hbel
    obtain ⟨vs, hvs⟩ : ∃ vs : List Value, vs = (List.range h.length).map fun j => a.tmps.getD (dstOf h j) undef := ⟨_, rfl⟩
    have hvl : vs.length = h.length := by rw [hvs]; simp
    have hva : ∀ j, j < h.length → vs.getD j undef = a.tmps.getD (dstOf h j) undef := fun j hj => by
      rw [hvs]; simp [List.getD_eq_getElem?_getD, hj]
    have key := allV_at ss _ vs (by rw [hvl, hl, hhl]) (fun j hj => by
      rw [hva j (by omega)]
      exact hall j (by omega)) hf
    have ea : a = putAll a0 h vs := by
      have hs2 := putAll_size h vs a0
      have hd2 := putAll_defers h vs a0
      clear hX key hf hall
      obtain ⟨tm, df⟩ := a
      generalize hpa : putAll a0 h vs = pa at *
      obtain ⟨tm2, df2⟩ := pa
      have e1 : tm = tm2 := by
        have hn : tm.size = a0.tmps.size := hsz
        have hn2 : tm2.size = a0.tmps.size := hs2
        apply Array.ext (by omega)
        intro s h1 h2
        have hg : tm.getD s undef = tm2.getD s undef := by
          by_cases hin : ∃ (j : Nat) (o : Oper), h[j]? = some o ∧ o.dst = some s
          · obtain ⟨j, o, ho, hd⟩ := hin
            have hjl : j < h.length := (List.getElem?_eq_some_iff.1 ho).1
            obtain ⟨⟨d, hd', _, hdist⟩, _⟩ := slotsT_at hB ho
            obtain rfl : d = s := Option.some.inj (hd'.symm.trans hd)
            have h3 := putAll_in h vs a0 j o (Nat.lt_of_lt_of_eq h1 hn) hvl.symm ho hd hdist
            rw [hpa] at h3
            rw [show tm2.getD d undef = vs.getD j undef from h3, hva j hjl, dstOf_at ho hd]
          · have hno : ∀ (j : Nat) o, h[j]? = some o → o.dst ≠ some s := fun j o hj hd => hin ⟨j, o, hj, hd⟩
            have h3 := putAll_out h vs a0 hno
            rw [hpa] at h3
            exact (hoth s hno).trans h3.symm
        simpa [h1, h2] using hg
      have e2 : df = df2 := hdf.trans hd2.symm
      rw [e1, e2]
    have hV : ApartV is vs := fun i hi j hj hne g e1 e2 => by
      have hq : ∀ i ∈ is, ∃ o d, h[i]? = some o ∧ o.dst = some d ∧ d ∈ A ∧ i < h.length := fun i hi => by
        have h1 := List.all_eq_true.1 hAI i hi
        simp only [Bool.and_eq_true] at h1
        cases ho : h[i]? with
        | none => rw [ho] at h1; simp at h1
        | some o =>
          cases hd : o.dst with
          | none => rw [ho] at h1; simp [hd] at h1
          | some d =>
            have h2 := h1.2
            rw [dstOf_at ho hd] at h2
            exact ⟨o, d, rfl, hd, by simpa using h2, (List.getElem?_eq_some_iff.1 ho).1⟩
      obtain ⟨oi, di, h1, h2, h3, h4⟩ := hq i hi
      obtain ⟨oj, dj, k1, k2, k3, k4⟩ := hq j hj
      rw [hva i h4, dstOf_at h1 h2] at e1
      rw [hva j k4, dstOf_at k1 k2] at e2
      obtain ⟨⟨d, hd', _, hdist⟩, _⟩ := slotsT_at hB h1
      obtain rfl : d = di := Option.some.inj (hd'.symm.trans h2)
      have hdd : d ≠ dj := fun e => hdist j oj k1 (Ne.symm hne) (by rw [k2, e])
      exact hX.2 d h3 dj k3 hdd g e1 e2
    rw [ea]; exact key hV
  · simp
  · rw [getD_replicate_false] at h; cases h
  · rw [getD_replicate_false]
  · rw [getD_replicate_false] at h; cases h

end
section
variable {P : Program} {ops : Array Oper} {md : Region.Mode} {Q : Exit → Act → World → Prop}
theorem region_mixE_any {a : Act} {w : World} {l : List Oper} (plan : List (Nat × Bool)) (k : Nat) (o : Oper) (S : World → Prop) (hB : (Region.noSelect l.toArray && decide (plan.length + 1 = l.length) && mixLastP .any l.toArray k plan (Array.replicate l.length false) && waitsB l k) = true) (ho : l[k]? = some o) (hlp : plan.map (fun p => l.toArray[p.1]?) = (plan.filterMap fun p => l[p.1]?).map some)
    (h : ∀ w1, Below w.heap.size w w1 → w1.heap.size = w.heap.size → wpMixD P l.toArray Q (fun a' w' => wpList P l.toArray (Exit.then (fun a' w' => Q .normal a' w') (NoPanic Q)) [o] a' w') (plan.map (·.2)) (plan.filterMap fun p => l[p.1]?) S a w1) : wpAny P .any l.toArray Q l.toArray.size (Array.replicate l.toArray.size false) a { w with drawn := w.drawn + 1 } := by
  have h := h { w with drawn := w.drawn + 1 } ⟨rfl, rfl, rfl, Nat.le_refl _, fun _ _ => rfl⟩ rfl
  simp only [Bool.and_eq_true, decide_eq_true_eq] at hB
  obtain ⟨⟨⟨hsel, hlen⟩, hlex⟩, hwait⟩ := hB
  have hsz : l.toArray.size = l.length := by simp
  rw [← hsz] at hlex
  have hk : ∀ listed, k ∈ Region.ready .any l.toArray listed → ∀ j, j ≠ k → j < l.toArray.size → listed.getD j true = true := by
    intro listed hr j hjk hjl
    obtain ⟨hun, ok, hok, hall⟩ := mem_ready.1 hr
    have h1 := List.all_eq_true.1 hwait j (List.mem_range.2 (by simpa using hjl))
    simp only [Bool.or_eq_true, decide_eq_true_eq] at h1
    rcases h1 with h1 | h1
    · exact absurd h1 hjk
    · unfold depB at h1
      have hok' : l[k]? = some ok := by simpa using hok
      rw [hok'] at h1
      obtain ⟨e, he, h6⟩ := Array.any_eq_true'.1 h1
      simp only [Bool.and_eq_true, beq_iff_eq] at h6
      have h7 := hall e he h6.2
      rw [h6.1] at h7
      cases hb : listed.getD j true
      · rw [getD_both hb] at h7; cases h7
      · rfl
  have H := headMixE_of (md := .any) hsel hk plan _ S _ a _ hlp hlex h
  have ho' : l.toArray[k]? = some o := by simpa using ho
  have hl1 : ∀ listed a' w', ((Region.ready .any l.toArray listed = [k] ∧ Region.ready .any l.toArray (listed.setIfInBounds k true) = []) ∧ wpList P l.toArray (Exit.then (fun a' w' => Q .normal a' w') (NoPanic Q)) [o] a' w') → wpAny P .any l.toArray Q 1 listed a' w' := by
    intro listed a' w' hL
    refine ⟨fun h0 => (by rw [hL.1.1] at h0; cases h0), fun i hi => ?_⟩
    rw [hL.1.1] at hi
    obtain rfl : i = k := by simpa using hi
    exact wpOp_noPanic (wpOp_mono (fun a'' w'' hq => ⟨hL.1.2, hq⟩) (wpOp_of_list ho' hL.2))
  have := any_of_headMixD (g := 1) (Q := Q) hl1 _ _ _ _ _ H
  rw [show l.toArray.size = plan.length + 1 by rw [hsz, ← hlen]] at this ⊢
  exact this
end
def okDstB (A : List Tmp) (n : Nat) (o : Oper) : Bool := match o.dst with
  | some d => decide (d < n) && !A.contains d
  | none => false
section
variable {P : Program} {Q : Exit → Act → World → Prop}
theorem okDstB_at {A : List Tmp} {n : Nat} {o : Oper} (h : okDstB A n o = true) : ∃ d, o.dst = some d ∧ d < n ∧ A.contains d = false := by
  unfold okDstB at h
  split at h
  · rename_i d hd
    simp only [Bool.and_eq_true, decide_eq_true_eq, Bool.not_eq_true'] at h
    exact ⟨d, hd, h.1, h.2⟩
  · cases h
theorem sVB {ops : Array Oper} {A : List Tmp} {ss : List Spec} {a0 a : Act} {w w' : World} {o : Oper} {i : Nat} {v : Value} (hX : ApartAll A a w) (hsz : a.tmps.size = a0.tmps.size) (hB : Below w.heap.size w w') (hp : specAt ss i w' v) (hk : okDstB A a0.tmps.size o = true := by kernel_rfl) :
    wpList P ops (Exit.then (fun a' w' => ∃ v, a' = a.put o.dst v ∧ Below w.heap.size w w' ∧ ApartAll A a' w' ∧ specAt ss i w' v) (NoPanic Q)) [] (a.put o.dst v) w' := by
  obtain ⟨d, hd, hdn, hnA⟩ := okDstB_at hk
  exact symVT hX hsz hd hdn hnA hB hp
theorem sAB {ops : Array Oper} {A : List Tmp} {ss : List Spec} {a0 a : Act} {w w' : World} {o : Oper} {i d : Nat} (hX : ApartAll A a w) (hsz : a.tmps.size = a0.tmps.size) (hz : w.heap.size < w'.heap.size) (hB : Below w.heap.size w w') (hp : specAt ss i w' (.pointer (some ⟨w.heap.size, 0, none⟩))) (hd : o.dst = some d) (hk : okDstB [] a0.tmps.size o = true := by kernel_rfl) :
    wpList P ops (Exit.then (fun a' w' => ∃ v, a' = a.put o.dst v ∧ Below w.heap.size w w' ∧ ApartAll A a' w' ∧ specAt ss i w' v) (NoPanic Q)) [] (a.put o.dst (.pointer (some ⟨w.heap.size, 0, none⟩))) w' := by
  obtain ⟨d', hd', hdn, -⟩ := okDstB_at hk
  obtain rfl : d' = d := Option.some.inj (hd'.symm.trans hd)
  exact symAT hX hsz hd hdn hz hB hp
end
end Go.Proofs.YtmfjgehlkbndjaaGreatDoor

/-
  Layer 11: what goes over a slice two by two.
-/
namespace Go.Proofs.YtmfjgehlkbndjaaGreatDoor
open Go Go.RowKit Go.Shelf

attribute [local go_sem] Oper.semAt_some
/-! ### plainly -/
def hAt (l : List (List UInt8)) (i : Nat) : List UInt8 := l.getD i []
/-- the last one of a pair -/
def lastAt (l : List (List UInt8)) (i : Nat) : List UInt8 := if 2 * i + 1 < l.length then hAt l (2 * i + 1) else hAt l (2 * i)
def pairAt (l : List (List UInt8)) (i : Nat) : List UInt8 := pairL (hAt l (2 * i)) (lastAt l i)
def sameAt (l : List (List UInt8)) (i : Nat) : Bool := decide (2 * i + 1 < l.length) && decide (hAt l (2 * i) = lastAt l i)
theorem pairAt_succ (a b : List UInt8) (r : List (List UInt8)) (i : Nat) : pairAt (a :: b :: r) (i + 1) = pairAt r i ∧ sameAt (a :: b :: r) (i + 1) = sameAt r i := by
  have e : ∀ j, hAt (a :: b :: r) (j + 2) = hAt r j := fun j => rfl
  have e2 : lastAt (a :: b :: r) (i + 1) = lastAt r i := by
    unfold lastAt
    simp only [List.length_cons]
    by_cases h : 2 * i + 1 < r.length
    · rw [if_pos (by omega), if_pos h]; exact e (2 * i + 1)
    · rw [if_neg (by omega), if_neg h]; exact e (2 * i)
  refine ⟨?_, ?_⟩
  · unfold pairAt; rw [e2]; exact congrArg (fun x => pairL x _) (e (2 * i))
  · unfold sameAt
    rw [e2, show hAt (a :: b :: r) (2 * (i + 1)) = hAt r (2 * i) from e (2 * i)]
    congr 1
    simp only [List.length_cons]
    exact decide_eq_decide.2 (by omega)
theorem join_at : ∀ l : List (List UInt8), joinL l = ((List.range ((l.length + 1) / 2)).map (pairAt l), (List.range ((l.length + 1) / 2)).any (sameAt l))
  | [] => rfl
  | [a] => by simp [joinL, List.range_succ, pairAt, sameAt, lastAt, hAt]
  | a :: b :: r => by
    have ih := join_at r
    have em : ((a :: b :: r).length + 1) / 2 = (r.length + 1) / 2 + 1 := by simp only [List.length_cons]; omega
    have e1 : (fun i => pairAt (a :: b :: r) (i + 1)) = pairAt r := funext fun i => (pairAt_succ a b r i).1
    have e2 : (fun i => sameAt (a :: b :: r) (i + 1)) = sameAt r := funext fun i => (pairAt_succ a b r i).2
    rw [em, List.range_succ_eq_map, List.map_cons, List.any_cons, List.map_map, List.any_map]
    rw [show (pairAt (a :: b :: r) ∘ Nat.succ) = pairAt r from e1, show (sameAt (a :: b :: r) ∘ Nat.succ) = sameAt r from e2]
    show (pairL a b :: (joinL r).1, decide (a = b) || (joinL r).2) = _
    rw [ih]
    simp [pairAt, sameAt, lastAt, hAt]
/-- which pairs there are -/
def pairs (n : Nat) : List (Fin ((n + 1) / 2)) := List.finRange ((n + 1) / 2)
theorem pairs_take {n k : Nat} (h : k < (n + 1) / 2) : (pairs n).take (k + 1) = (pairs n).take k ++ [⟨k, h⟩] := by
  unfold pairs
  rw [List.take_succ_eq_append_getElem (by simpa using h)]
  simp
theorem pairs_map {α : Type} (n : Nat) (f : Nat → α) : (pairs n).map (fun x => f x.1) = (List.range ((n + 1) / 2)).map f := by
  unfold pairs
  refine List.ext_getElem (by simp) fun i h1 h2 => by simp
theorem join_pairs (l : List (List UInt8)) : joinL l = ((pairs l.length).map (fun x => pairAt l x.1), (pairs l.length).any (fun x => sameAt l x.1)) := by
  rw [join_at, pairs_map]
  congr 1
  have h := congrArg (fun bs : List Bool => bs.any id) (pairs_map l.length (sameAt l))
  simp only [List.any_map] at h
  exact h.symm
/-! ### Chunk -/
section
variable {P : Program} {ops : Array Oper} {Q : Exit → Act → World → Prop} {rest : List Oper} {o : Oper} {a : Act} {w : World} {S : World → Prop}
theorem yLenSl {T E : TypeId} (ht : P.underlying T = some (.slice E)) (x : Operand) (ao : Option Addr) (n c : Nat) (ho : o.op = .call { callee := .builtin .len, args := #[x], argTypes := #[T] }) (hg : Region.wanted o (yielded ops a.tmps) = true) (hx : a.eval x = .slice ao n c) : YieldsIf P ops S o (.int .i64 (n : Int)) a :=
  yOf hg fun w _ => by simp [execOp, ho, resolve, invoke, builtin, hx, Builtin.len_, run_underlying ht, goInt]
theorem yMinZ (x y : Operand) (m n z : Int) (hz : (if n < m then n else m) = z) (ho : o.op = .call { callee := .builtin .min, args := #[x, y], argTypes := #[3, 3] }) (hg : Region.wanted o (yielded ops a.tmps) = true) (hx : a.eval x = .int .i64 m) (hy : a.eval y = .int .i64 n) : YieldsIf Tryz.prog ops S o (.int .i64 z) a := by
  refine yOf hg fun w _ => ?_
  subst hz
  unfold execOp
  simp only [ho, resolve, invoke, builtin, Sem.run_bind, Sem.run_pure, Result.andThen_ok, List.map_toArray, List.map_cons, List.map_nil, hx, hy, run_min_int2]
theorem kYIn {n : Nat} {v : Value} (_hd : ∀ c, o.op ≠ .defer c) (hy : YieldsIf P ops (fun w' => w' = w) o v a) (h : wpListIn Fence.wide n P ops Q rest (a.put o.dst v) w) : wpListIn Fence.wide n P ops Q (o :: rest) a w := by
  unfold wpListIn
  rcases hy with ⟨hg, hv⟩ | ⟨hg, rfl⟩
  · rw [if_pos hg]
    refine ⟨fun _ _ => trivial, ?_⟩
    rw [show Fence.wide.round = none from rfl, Oper.semAt_none, hv w rfl]
    exact h
  · rw [if_neg (by rw [hg]; decide)]
    exact ⟨fun _ _ => trivial, h⟩
end
/-- the part that comes in round i -/
def partV (ao : Option Addr) (n : Nat) (i : Nat) : Value := sliced ao (2 * i) (min (2 * i + 2) n) (min (2 * i + 2) n) 32
/-- two boxes are kept -/
def Kq (Bs Bn : Nat) (W W' : World) : Prop := W.heap.size ≤ W'.heap.size ∧ ∀ k, k = Bs ∨ k = Bn → W'.heap[k]? = W.heap[k]?
theorem Kq.trans {Bs Bn : Nat} {A B C : World} (h : Kq Bs Bn A B) (k : Kq Bs Bn B C) : Kq Bs Bn A C := ⟨Nat.le_trans h.1 k.1, fun j hj => (k.2 j hj).trans (h.2 j hj)⟩
theorem Kq.refl (Bs Bn : Nat) (A : World) : Kq Bs Bn A A := ⟨Nat.le_refl _, fun _ _ => rfl⟩
theorem Kq.row {Bs Bn k : Nat} {A B : World} {T : TypeId} {cs : Array Value} (h : Kq Bs Bn A B) (hk : k = Bs ∨ k = Bn) (hr : Row A k T cs) : Row B k T cs := by unfold Row at *; rw [h.2 k hk]; exact hr
set_option maxRecDepth 100000 in
set_option maxHeartbeats 8000000 in
theorem chunk1_in (n : Nat) (hn : 1 ≤ n) (lp Bs Bn N c : Nat) (ao : Option Addr) (hNc : N ≤ c) (hN : N ≤ 1000000) (J Jx : List (Fin ((N + 1) / 2)) → World → Prop)
    (hY : ∀ pre x W, J pre W → pre.length < (N + 1) / 2 → YieldAt Fence.wide (n - 1) Tryz.prog lp #[partV ao N x.1] W fun e W' => (e = .returned (.bool true) ∧ J (pre ++ [x]) W' ∧ Kq Bs Bn W W') ∨ (e = .returned (.bool false) ∧ Jx (pre ++ [x]) W'))
    (W : World) (hS : Row W Bs 46 #[.slice ao N c]) (hI : Row W Bn 3 #[.int .i64 2]) (h0 : J [] W) (hJd : ∀ s (A B : World), J s A → A.grownBy B none → J s B) :
    CallsIn Fence.wide n Tryz.prog 93 #[.func (.yield lp) #[] #[], .pointer (some ⟨Bs, 0, none⟩), .pointer (some ⟨Bn, 0, none⟩)] W fun e W' => (∃ v, e = .returned v) ∧
      ((∃ ys, ys = pairs N ∧ J ys W') ∨ (∃ pre, True ∧ Jx pre W')) := by
  refine callsIn_of_wp Tryz.func93 rfl trivial ?_ rfl
  simp only [Tryz.ntmps93, List.size_toArray, List.length_cons, List.length_nil, Nat.reduceAdd, Nat.reduceSub, Array.replicate_succ, Array.replicate_zero, List.push_toArray, List.append_toArray, List.nil_append, List.cons_append]
  gi_wp2
  gi_loopw [4] (fun x wr => ∃ k : Nat, k ≤ (N + 1) / 2 ∧ x = .int .i64 ((2 * k : Nat) : Int) ∧ J ((pairs N).take k) wr ∧ Kq Bs Bn W wr) (fun x _ => (N + 2) - (intOf x).toNat)
  case atStart => exact ⟨0, by omega, rfl, h0, Kq.refl _ _ _⟩
  case round =>
    obtain ⟨k, hk, rfl, hJs, hq⟩ := hrel
    have hSr := hq.row (.inl rfl) hS
    have hIr := hq.row (.inr rfl) hI
    have hBr : wr.cell? ⟨Bs, 0, none⟩ = some (.slice ao N c) := by rw [hSr.cell]; rfl
    have hCr : wr.cell? ⟨Bn, 0, none⟩ = some (.int .i64 2) := by rw [hIr.cell]; rfl
    by_cases hlt : 2 * k < N
    · have hd : decide (((2 * k : Nat) : Int) < (N : Int)) = true := by simp; omega
      have hk2 : k < (N + 1) / 2 := by omega
      obtain ⟨m, hm⟩ : ∃ m, min (2 * k + 2) N = m := ⟨_, rfl⟩
      have hm1 : 2 * k < m := by omega
      have hmN : m ≤ N := by omega
      have emin : (if ((N - 2 * k : Nat) : Int) < 2 then ((N - 2 * k : Nat) : Int) else 2) = ((m - 2 * k : Nat) : Int) := by split <;> omega
      gi_wp2
      refine wpIn_wide.2 ?_
      refine region_mixD [(0, true), (1, true), (2, true), (3, true), (4, true), (5, true), (6, true)] (fun w => Row w Bs 46 #[.slice ao N c] ∧ Row w Bn 3 #[.int .i64 2]) (by kernel_rfl) (by kernel_rfl) rfl ?_
      intro z0 hBd hsd
      clear hsd
      have hJ0 := hJd _ _ _ hJs ⟨hBd.os, hBd.tape, hBd.output, hBd.size, fun k hk _ => hBd.block k hk⟩
      have hS0 := hSr.below hBd hSr.lt
      have hI0 := hIr.below hBd hIr.lt
      have hS := (⟨hS0, hI0⟩ : Row z0 Bs 46 #[.slice ao N c] ∧ Row z0 Bn 3 #[.int .i64 2])
      have hq0 : Kq Bs Bn W z0 := ⟨Nat.le_trans hq.1 hBd.size, fun j hj => by
        have hjl : j < wr.heap.size := hj.elim (fun e => by rw [e]; exact hSr.lt) (fun e => by rw [e]; exact hIr.lt)
        rw [hBd.block j hjl]; exact hq.2 j hj⟩
      clear hJs hSr hIr hBr hCr hq hBd
      simp only [List.map_cons, List.map_nil]
      dsimp only [List.filterMap, List.getElem?_cons_zero, List.getElem?_cons_succ]
      refine dY _ hS (yLoad1 _ _ _ Bn 0 _ (.int .i64 2) _ rfl rfl rfl (fun _ h => h.2) Tryz.underlying3 rfl rfl) ?_; go_frame
      refine dY _ hS (yLoad1 _ _ _ Bs 0 _ (.slice ao N c) _ rfl rfl rfl (fun _ h => h.1) Tryz.underlying46 rfl rfl) ?_; go_frame
      refine dY _ hS (yMove _ (.int .i64 ((2 * k : Nat) : Int)) rfl rfl rfl) ?_; go_frame
      refine dY _ hS (ySliceL Tryz.underlying46 info_HashCo _ _ ao N c (2 * k) (Nat.le_of_lt hlt) rfl rfl rfl rfl) ?_; go_frame
      refine dY _ hS (yLenSl Tryz.underlying46 _ _ (N - 2 * k) _ rfl rfl rfl) ?_; go_frame
      refine dY _ hS (yMinZ _ _ 2 ((N - 2 * k : Nat) : Int) ((m - 2 * k : Nat) : Int) emin rfl rfl rfl rfl) ?_; go_frame
      refine dY _ hS (yAssign _ (.int .i64 ((m - 2 * k : Nat) : Int)) rfl rfl rfl) ?_; go_frame
      refine dDone ?_
      obtain ⟨fn, tmps, assign, body, hy, hR⟩ := hY _ ⟨k, hk2⟩ z0 hJ0 (by rw [List.length_take]; omega)
      dsimp only at hy
      have hpart : partV ao N k = .slice (ao.map (fun x => x.add (2 * k * 32))) (m - 2 * k) (m - 2 * k) := by unfold partV; rw [hm]; unfold sliced; rw [if_neg (by omega)]
      rw [hpart] at hy
      rw [← pairs_take hk2] at hR
      have hBr : z0.cell? ⟨Bs, 0, none⟩ = some (.slice ao N c) := by rw [hS0.cell]; rfl
      have hCr : z0.cell? ⟨Bn, 0, none⟩ = some (.int .i64 2) := by rw [hI0.cell]; rfl
      clear hpart hJ0 emin
      gi_wp2_with (first
        | ((with_reducible change wpListIn _ _ _ _ _ (Oper.mk (some 24) _ _ _ _ _ :: _) _ _); refine kYIn (fun c h => by cases h) (yAddI _ _ _ _ ((2 * k : Nat) : Int) ((m - 2 * k : Nat) : Int) (m : Int) (by omega) rfl rfl rfl rfl) ?_)
        | ((with_reducible change wpListIn _ _ _ _ _ (Oper.mk (some 27) _ _ _ _ _ :: _) _ _); refine kYIn (fun c h => by cases h) (yAddI _ _ _ _ ((2 * k : Nat) : Int) ((m - 2 * k : Nat) : Int) (m : Int) (by omega) rfl rfl rfl rfl) ?_)
        | ((with_reducible change wpListIn _ _ _ _ _ (Oper.mk (some 28) _ _ _ _ _ :: _) _ _); refine kYIn (fun c h => by cases h) (ySliceLHM Tryz.underlying46 info_HashCo _ _ _ _ ao N c (2 * k) m m (Nat.le_of_lt hm1) (Nat.le_refl _) (Nat.le_trans hmN hNc) rfl rfl rfl rfl rfl rfl) ?_))
      refine hR.mono ?_
      rintro e W3 (⟨rfl, hJ3, hk3⟩ | ⟨rfl, hJx3⟩)
      · have hS3 := hk3.row (.inl rfl) hS0
        have hI3 := hk3.row (.inr rfl) hI0
        have hC3 : W3.cell? ⟨Bn, 0, none⟩ = some (.int .i64 2) := by rw [hI3.cell]; rfl
        gi_wp2_with ((with_reducible change wpListIn _ _ _ _ _ (Oper.mk (some 12) _ _ _ _ _ :: _) _ _); refine kYIn (fun c h => by cases h) (yAddI _ _ _ _ ((2 * k : Nat) : Int) 2 ((2 * (k + 1) : Nat) : Int) (by omega) rfl rfl rfl rfl) ?_)
        go_roundw
        case rel => exact ⟨k + 1, by omega, rfl, hJ3, hq0.trans hk3⟩
        case measure => simp [intOf]; omega
      · gi_wp2
        refine bodyPost_ret (results_none rfl _ _ _) rfl ?_
        exact ⟨⟨_, rfl⟩, .inr ⟨_, trivial, hJx3⟩⟩
    · have hk2 : k = (N + 1) / 2 := by omega
      have hd : decide (((2 * k : Nat) : Int) < (N : Int)) = false := by simp; omega
      gi_wp2
      go_end0
      exact ⟨⟨_, rfl⟩, .inl ⟨_, by rw [hk2]; unfold pairs; exact List.take_of_length_le (by simp), hJs⟩⟩
set_option maxRecDepth 100000 in
set_option maxHeartbeats 8000000 in
theorem chunk_any (ao : Option Addr) (n c : Nat) (w : World) :
    Calls Tryz.prog 59 #[.slice ao n c, .int .i64 2] w fun e w' => ∃ w1, w1 = w.alloc (.cells #[.slice ao n c] 46) ∧ e = .returned (.func (.func 93) #[] #[.pointer (some ⟨w.heap.size, 0, none⟩), .pointer (some ⟨w.heap.size + 1, 0, none⟩)]) ∧ w' = w1.alloc (.cells #[.int .i64 2] 3) := by
  refine (callsIn_wide (n := 9)).1 ?_
  refine callsIn_of_wp Tryz.func59 rfl trivial ?_ rfl
  simp only [Tryz.ntmps59, List.size_toArray, List.length_cons, List.length_nil, Nat.reduceAdd, Nat.reduceSub, Array.replicate_succ, Array.replicate_zero, List.push_toArray, List.append_toArray, List.nil_append, List.cons_append]
  gi_wp2
  go_ret
  refine ⟨_, rfl, ?_, rfl⟩
  simp
/-- what Chunk hands back goes over the pairs -/
theorem chunk_stops (n : Nat) (hn : 1 ≤ n) (Bs Bn N c : Nat) (ao : Option Addr) (hNc : N ≤ c) (hN : N ≤ 1000000) (w : World) (hS : Row w Bs 46 #[.slice ao N c]) (hI : Row w Bn 3 #[.int .i64 2]) :
    SeqStopsK Fence.wide n Tryz.prog 93 #[.pointer (some ⟨Bs, 0, none⟩), .pointer (some ⟨Bn, 0, none⟩)] (fun x : Fin ((N + 1) / 2) => #[partV ao N x.1]) (Kq Bs Bn) (fun ys => ys = pairs N) (fun _ => True) ((N + 1) / 2) w := fun lp J Jx W hW hJ _ hY h0 =>
  chunk1_in n hn lp Bs Bn N c ao hNc hN J Jx hY W (hS.below hW hS.lt) (hI.below hW hI.lt) h0 (fun s A B h hg => hJ s A B none h hg (fun r e => by cases e))
end Go.Proofs.YtmfjgehlkbndjaaGreatDoor

/-
  Layer 11: hashes, two by two.
-/
namespace Go.Proofs.YtmfjgehlkbndjaaGreatDoor
open Go Go.RowKit Go.Shelf

attribute [local go_sem] Oper.semAt_some
section
variable {A B : World} {row : Option Nat}
theorem cells_keep (hg : A.grownBy B row) (hr : ∀ r, row = some r → ∃ o : Obj, A.heap[r]? = some o ∧ o.isCells = false) {k : Nat} {cs : Array Value} {T : TypeId} {m : Nat × Nat} (h : A.heap[k]? = some (.cells cs T m)) : B.heap[k]? = some (.cells cs T m) :=
  (hg.block k (Array.getElem?_eq_some_iff.1 h).1 (fun e => by obtain ⟨o, ho, hc⟩ := hr k e.symm; rw [h] at ho; cases ho; cases hc)).trans h
theorem Row.keepC {g : Nat} {T : TypeId} {cs : Array Value} (h : Row A g T cs) (hg : A.grownBy B row) (hr : ∀ r, row = some r → ∃ o : Obj, A.heap[r]? = some o ∧ o.isCells = false) : Row B g T cs := cells_keep hg hr h
theorem OwnR.keepC {n b : Nat} {E : TypeId} {v : Value} {L : List (List Value)} (h : OwnR n E A b v L) (hg : A.grownBy B row) (hr : ∀ r, row = some r → ∃ o : Obj, A.heap[r]? = some o ∧ o.isCells = false) : OwnR n E B b v L := by
  obtain ⟨⟨h1, h2⟩, h3⟩ := h
  refine ⟨⟨h1, ?_⟩, h3⟩
  rcases h2 with h2 | ⟨g, cap, cur, rfl, hb, hk, rest⟩
  · exact .inl h2
  · exact .inr ⟨g, cap, cur, rfl, hb, cells_keep hg hr hk, rest⟩
theorem IsRows.keepC {n : Nat} {v : Value} {L : List (List Value)} (h : IsRows n A v L) (hg : A.grownBy B row) (hr : ∀ r, row = some r → ∃ o : Obj, A.heap[r]? = some o ∧ o.isCells = false) : IsRows n B v L := by
  obtain ⟨⟨ao, c, rfl, hc, hn, hj⟩, hl⟩ := h
  refine ⟨⟨ao, c, rfl, hc, hn, fun k x hx => ?_⟩, hl⟩
  obtain ⟨a, rfl, hcell⟩ := hj k x hx
  exact ⟨a, rfl, fun j u hu => cell_kept (hcell j u hu) hg hr⟩
end
/-- what is no cells lies as it lay -/
theorem keeps_below {B : Nat} {W W' : World} (h : Below W.heap.size W W') : KeepsFrom B W W' := ⟨h.size, fun k _ _ hk _ => (h.block k (Array.getElem?_eq_some_iff.1 hk).1).trans hk⟩
theorem keeps_wrote {B g : Nat} {W W' : World} {T : TypeId} {cs : Array Value} (h : Wrote g W W') (hr : Row W g T cs) : KeepsFrom B W W' := ⟨Nat.le_of_eq h.size.symm, fun k o _ hk ho => by
  have hne : k ≠ g := fun e => by subst e; have hr' : W.heap[k]? = _ := hr; rw [hr'] at hk; cases hk; cases ho
  exact (h.other k hne).trans hk⟩
theorem keeps_app {B n b : Nat} {E : TypeId} {W W' : World} {v : Value} {L : List (List Value)} (ho : OwnR n E W b v L) (h : W.grownBy W' v.ownBlock) : KeepsFrom B W W' := ⟨h.size, fun k o _ hk hc => by
  refine (h.block k (Array.getElem?_eq_some_iff.1 hk).1 (fun e => ?_)).trans hk
  rcases ho.1.2 with ⟨rfl, _⟩ | ⟨g, cap, cur, rfl, _, hg, _⟩
  · simp [Value.ownBlock] at e
  · simp only [Value.ownBlock, Option.some.injEq] at e
    subst e
    rw [hg] at hk; cases hk; cases hc⟩
theorem kq_below {Bs Bn : Nat} {B : Nat} {W W' : World} (h : Below B W W') (hs : Bs < B) (hn : Bn < B) : Kq Bs Bn W W' := ⟨h.size, fun j hj => h.block j (hj.elim (fun e => by rw [e]; exact hs) (fun e => by rw [e]; exact hn))⟩
theorem kq_wrote {Bs Bn g : Nat} {W W' : World} (h : Wrote g W W') (hs : Bs ≠ g) (hn : Bn ≠ g) : Kq Bs Bn W W' := ⟨Nat.le_of_eq h.size.symm, fun j hj => h.other j (hj.elim (fun e => by rw [e]; exact hs) (fun e => by rw [e]; exact hn))⟩
theorem own_lt {n b : Nat} {E : TypeId} {W : World} {v : Value} {L : List (List Value)} (ho : OwnR n E W b v L) : ∀ r, v.ownBlock = some r → r < W.heap.size := fun r e => by
  rcases ho.1.2 with ⟨rfl, _⟩ | ⟨g, cap, cur, rfl, _, hg, _⟩
  · simp [Value.ownBlock] at e
  · simp only [Value.ownBlock, Option.some.injEq] at e
    subst e
    exact (Array.getElem?_eq_some_iff.1 hg).1
theorem row_appJ {g : Nat} {W W' : World} {row : Option Nat} {T : TypeId} {cs : Array Value} (h : Row W g T cs) (hg : W.grownBy W' row) (hr : ∀ r, row = some r → r ≠ g) : Row W' g T cs := (hg.block g h.lt (fun e => hr g e.symm rfl)).trans h
theorem bool_info : (Tryz.prog.info? 4).map (·.size) = some 1 := by kernel_rfl
theorem hashes_info : (Tryz.prog.info? 46).map (·.size) = some 1 := by kernel_rfl
theorem results_tmp2J {fn : Func} {t u : Tmp} (h : fn.results = #[.tmp t, .tmp u]) (tmps : Array Value) (P : Program) (w : World) :
    (results fn tmps).run P w = .ok (.tuple #[tmps.getD t undef, tmps.getD u undef]) w := by
  simp [results, h]
/-- the chunk and what lies in it -/
theorem part_of {w : World} {ao : Option Addr} {N c : Nat} {l : List (List UInt8)} (hN : l.length = N) (hv : HashesOf w (.slice ao N c) l) (hNc : N ≤ c) (i : Fin ((N + 1) / 2)) :
    ∃ m, min (2 * i.1 + 2) N = m ∧ 2 * i.1 < m ∧ m ≤ N ∧ m ≤ 2 * i.1 + 2 ∧ partV ao N i.1 = .slice (ao.map (fun x => x.add (2 * i.1 * 32))) (m - 2 * i.1) (m - 2 * i.1) ∧ HashesOf w (partV ao N i.1) ((l.take m).drop (2 * i.1)) ∧ ((l.take m).drop (2 * i.1)).length = m - 2 * i.1 ∧ ((l.take m).drop (2 * i.1))[0]? = some (hAt l (2 * i.1)) ∧ ((l.take m).drop (2 * i.1))[m - 2 * i.1 - 1]? = some (lastAt l i.1) := by
  obtain ⟨i, hi⟩ := i
  dsimp only
  have hlt : 2 * i < N := by omega
  obtain ⟨m, hm⟩ : ∃ m, min (2 * i + 2) N = m := ⟨_, rfl⟩
  have e : partV ao N i = sliced ao (2 * i) m m 32 := by unfold partV; rw [hm]
  refine ⟨m, hm, by omega, by omega, by omega, ?_, ?_, ?_, ?_, ?_⟩
  · rw [e]; unfold sliced; rw [if_neg (by omega)]
  · rw [e]
    have hv' : IsRows 32 w (.slice ao (l.map hashR).length c) (l.map hashR) := by rw [List.length_map, hN]; exact hv
    have h := rows_cut hv' (l := 2 * i) (q := m) (m := m) (by omega) (by rw [List.length_map]; omega) (Nat.le_refl _) (by omega)
    rw [← List.map_take, ← List.map_drop] at h
    exact h
  · rw [List.length_drop, List.length_take]; omega
  · rw [List.getElem?_drop, List.getElem?_take, if_pos (by omega)]
    unfold hAt
    rw [List.getD_eq_getElem?_getD, Nat.add_zero, List.getElem?_eq_getElem (by omega)]; rfl
  · rw [List.getElem?_drop, List.getElem?_take, if_pos (by omega)]
    unfold lastAt hAt
    by_cases h : 2 * i + 1 < l.length
    · rw [if_pos h, show 2 * i + (m - 2 * i - 1) = 2 * i + 1 by omega, List.getD_eq_getElem?_getD, List.getElem?_eq_getElem h]; rfl
    · rw [if_neg h, show 2 * i + (m - 2 * i - 1) = 2 * i by omega, List.getD_eq_getElem?_getD, List.getElem?_eq_getElem (by omega)]; rfl
set_option maxRecDepth 100000 in
set_option maxHeartbeats 8000000 in
theorem blJoined_any {l : List (List UInt8)} {v : Value} (W0 : World) (hv : HashesOf W0 v l) (h32 : ∀ x ∈ l, x.length = 32) (hn : l.length ≤ 1000) (hK : Keys W0) : Calls Tryz.prog 33 #[v] W0 fun e w' => ∃ u, e = .returned (.tuple #[u, .bool (joinL l).2]) ∧ OwnHs w' W0.heap.size u (joinL l).1 ∧ Below W0.heap.size W0 w' := by
  obtain ⟨N, hN⟩ : ∃ N, l.length = N := ⟨_, rfl⟩
  have hv0 := hv
  obtain ⟨⟨ao, c, rfl, hNc, -, -⟩, -⟩ := hv0
  rw [List.length_map, hN] at hv hNc ⊢
  refine (callsIn_wide (n := 9)).1 ?_
  refine callsIn_of_wp_marks Tryz.func33 rfl trivial ?_ rfl
  simp only [Tryz.ntmps33, List.size_toArray, List.length_cons, List.length_nil, Nat.reduceAdd, Nat.reduceSub, Array.replicate_succ, Array.replicate_zero, List.push_toArray, List.append_toArray, List.nil_append, List.cons_append]
  gi_wp2_with (first
    | (refine ⟨trivial, ?_⟩; gi_at_call 59; refine (callsIn_wide.2 (chunk_any _ _ _ _)).mono ?_; rintro e w3 ⟨w2, hw2, rfl, rfl⟩))
  clear hw2
  obtain ⟨wa, ha⟩ : ∃ wa, W0.alloc (.cells #[.slice none 0 0] 46) = wa := ⟨_, rfl⟩
  rw [ha]
  obtain ⟨wb, hb⟩ : ∃ wb, wa.alloc (.cells #[.bool false] 4) = wb := ⟨_, rfl⟩
  rw [hb]
  obtain ⟨wc, hc⟩ : ∃ wc, wb.alloc (.cells #[.slice ao N c] 46) = wc := ⟨_, rfl⟩
  rw [hc]
  obtain ⟨wd, hd⟩ : ∃ wd, wc.alloc (.cells #[.int .i64 2] 3) = wd := ⟨_, rfl⟩
  rw [hd]
  have sa : wa.heap.size = W0.heap.size + 1 := by rw [← ha]; simp
  have sb : wb.heap.size = W0.heap.size + 2 := by rw [← hb, World.size_alloc, sa]
  have sc : wc.heap.size = W0.heap.size + 3 := by rw [← hc, World.size_alloc, sb]
  have sd : wd.heap.size = W0.heap.size + 4 := by rw [← hd, World.size_alloc, sc]
  have ba : Below W0.heap.size W0 wa := by rw [← ha]; exact (Below.refl _ _).alloc (Nat.le_refl _) _
  have bb : Below wa.heap.size wa wb := by rw [← hb]; exact (Below.refl _ _).alloc (Nat.le_refl _) _
  have bc : Below wb.heap.size wb wc := by rw [← hc]; exact (Below.refl _ _).alloc (Nat.le_refl _) _
  have bd : Below wc.heap.size wc wd := by rw [← hd]; exact (Below.refl _ _).alloc (Nat.le_refl _) _
  have rA : Row wd W0.heap.size 46 #[.slice none 0 0] := by
    have h : Row wa W0.heap.size 46 #[.slice none 0 0] := by rw [← ha]; exact heap_alloc_new W0 _
    exact ((h.below bb (by omega)).below bc (by omega)).below bd (by omega)
  have rT : Row wd (W0.heap.size + 1) 4 #[.bool false] := by
    have h : Row wb wa.heap.size 4 #[.bool false] := by rw [← hb]; exact heap_alloc_new wa _
    rw [sa] at h
    exact (h.below bc (by omega)).below bd (by omega)
  have rS : Row wd (W0.heap.size + 1 + 1) 46 #[.slice ao N c] := by
    have h : Row wc wb.heap.size 46 #[.slice ao N c] := by rw [← hc]; exact heap_alloc_new wb _
    rw [sb] at h
    exact h.below bd (by omega)
  have rI : Row wd (W0.heap.size + 1 + 1 + 1) 3 #[.int .i64 2] := by
    have h : Row wd wc.heap.size 3 #[.int .i64 2] := by rw [← hd]; exact heap_alloc_new wc _
    rw [sc] at h
    exact h
  have bD : Below W0.heap.size W0 wd := ((ba.trans (bb.mono (by omega))).trans (bc.mono (by omega))).trans (bd.mono (by omega))
  clear ha hb hc hd ba bb bc bd sa sb sc
  have hvd := hv.below bD
  have hKd := hK.below bD
  refine wpIn_rangeFunc_ownG (F := Fence.wide) rfl (by decide) (gf := 93) (lb := #[.pointer (some ⟨W0.heap.size + 1 + 1, 0, none⟩), .pointer (some ⟨W0.heap.size + 1 + 1 + 1, 0, none⟩)]) rfl trivial (enters_of Tryz.func93 (by kernel_rfl) rfl)
    (chunk_stops (9 - 1) (by decide) (W0.heap.size + 1 + 1) (W0.heap.size + 1 + 1 + 1) N c ao hNc (by omega) wd rS rI) (fun h k => h.trans k)
    (fun W l o o' hl ho _ _ => ⟨by simp [World.putObj], fun j hj => World.putObj_heap_other (by omega)⟩) (Below.refl _ _) (fun _ => rfl)
    (fun pre W => (∃ u, Row W W0.heap.size 46 #[u] ∧ OwnHs W wd.heap.size u (pre.map fun x => pairAt l x.1)) ∧ Row W (W0.heap.size + 1) 4 #[.bool (pre.any fun x => sameAt l x.1)] ∧ HashesOf W (.slice ao N c) l ∧ Keys W ∧ Below W0.heap.size W0 W ∧ wd.heap.size ≤ W.heap.size)
    (fun _ _ _ => False)
    (fun s A B row hs hg hr => by
      obtain ⟨⟨u, h1, h2⟩, h3, h4, h5, h6, h7⟩ := hs
      have hr' := fun r e => (hr r e).2
      exact ⟨⟨u, h1.keepC hg hr', OwnR.keepC h2 hg hr'⟩, h3.keepC hg hr', IsRows.keepC h4 hg hr', fun i hi => cell_kept (h5 i hi) hg hr', h6.grown hg h6.size (fun k e => Nat.le_trans (by omega) (hr k e).1), Nat.le_trans h7 hg.size⟩)
    (fun _ _ _ _ _ hs _ _ => hs)
    ⟨⟨_, rA, ownHs_nil _ _⟩, rT, hvd, hKd, bD, Nat.le_refl _⟩
    (fun x => { tmps := #[.slice ao N c, undef, .slice none 0 0, .bool false, .pointer (some ⟨W0.heap.size, 0, none⟩), .pointer (some ⟨W0.heap.size + 1, 0, none⟩), partV ao N x.1, undef, undef, .slice ao N c, .func (.func 93) #[] #[.pointer (some ⟨W0.heap.size + 1 + 1, 0, none⟩), .pointer (some ⟨W0.heap.size + 1 + 1 + 1, 0, none⟩)], partV ao N x.1, undef, undef, undef, undef, undef, undef, undef, undef, undef, undef, undef, undef, undef, undef, undef, undef, undef, undef, undef, undef, undef, undef, undef, undef, undef, undef, undef, undef, undef], defers := [] }) ?assign ?body ?done ?stop
  case assign =>
    intro l x W K hK
    gi_wp2
    exact hK
  case stop =>
    rintro D c pre W _ _ h _
    exact h.elim
  case done =>
    rintro D ys W hD rfl ⟨⟨u, h1, h2⟩, h3, h4, h5, h6, h7⟩ hKD
    rename_i QQ KK hKK
    clear rA rT rS rI hvd hKd h4 h5 bD
    have hB0 := Below.refl W.heap.size W
    apply hKK
    refine wpIn_wide.2 ?_
    clear hKK
    apply wp_seq_k
    intro K8 hK8
    refine region_mixD [(0, true), (1, true), (2, true), (3, true)] (fun w => Row w W0.heap.size 46 #[u] ∧ Row w (W0.heap.size + 1) 4 #[.bool ((pairs N).any fun x => sameAt l x.1)]) (by kernel_rfl) (by kernel_rfl) rfl ?_
    intro w3 hBd hsd
    have hS : Row w3 W0.heap.size 46 #[u] ∧ Row w3 (W0.heap.size + 1) 4 #[.bool ((pairs N).any fun x => sameAt l x.1)] := ⟨h1.below hBd h1.lt, h3.below hBd h3.lt⟩
    have hO := h2.below hBd
    have hB := h6.trans (hBd.mono h6.size)
    have hKD3 := (hBd.block D (Array.getElem?_eq_some_iff.1 hKD).1).trans hKD
    clear hsd hBd h1 h2 h3 h6 hKD
    simp only [List.map_cons, List.map_nil]
    dsimp only [List.filterMap, List.getElem?_cons_zero, List.getElem?_cons_succ]
    refine dY _ hS (yLoad1 _ _ _ W0.heap.size 0 #[u] u _ rfl rfl rfl (fun _ h => h.1) Tryz.underlying46 rfl rfl) ?_; go_frame
    refine dY _ hS (yLoad1 _ _ _ (W0.heap.size + 1) 0 #[.bool ((pairs N).any fun x => sameAt l x.1)] (.bool ((pairs N).any fun x => sameAt l x.1)) _ rfl rfl rfl (fun _ h => h.2) Tryz.underlying4 rfl rfl) ?_; go_frame
    refine dY _ hS (yAssign _ u rfl rfl rfl) ?_; go_frame
    refine dY _ hS (yAssign _ (.bool ((pairs N).any fun x => sameAt l x.1)) rfl rfl rfl) ?_; go_frame
    refine dDone ?_
    change K8 _ w3
    apply hK8
    apply wp_ret
    refine ⟨by simp, .inl ⟨_, _, rfl, run_takeDeferred hKD3, ?_⟩⟩
    have hg := grownBy_putObj' w3 D (.deferred none)
    refine ⟨_, results_tmp2J rfl _ _ _, u, ?_, ?_, hB.grown hg hB.size (fun r e => by cases e; omega)⟩
    · rw [join_pairs, hN]; rfl
    · rw [join_pairs, hN]
      exact OwnR.keepC (OwnR.less (by omega) hO) hg (fun r e => by cases e; exact ⟨_, hKD3, rfl⟩)
  case body =>
    rintro lp pre x W ⟨⟨u, hA, hO⟩, hT, hV, hKW, hB, hsz⟩ hpl
    obtain ⟨m, hmin, hm1, hmN, hm2, hpe, hPW, hPl, hP0, hP1⟩ := part_of hN hv hNc x
    have hP := hPW.below hB
    have hpre : (pre.map fun x => pairAt l x.1).length ≤ 600 := by rw [List.length_map]; omega
    have hmp : ((pre ++ [x]).map fun x => pairAt l x.1) = (pre.map fun x => pairAt l x.1) ++ [pairAt l x.1] := by simp
    have han : ((pre ++ [x]).any fun x => sameAt l x.1) = ((pre.any fun x => sameAt l x.1) || sameAt l x.1) := by simp
    have hsame : sameAt l x.1 = (decide (m - 2 * x.1 = 2) && decide (hAt l (2 * x.1) = lastAt l x.1)) := by
      unfold sameAt
      congr 1
      exact decide_eq_decide.2 (by omega)
    obtain ⟨a, hxa⟩ : ∃ a, hAt l (2 * x.1) = a := ⟨_, rfl⟩
    obtain ⟨b, hxb⟩ : ∃ b, lastAt l x.1 = b := ⟨_, rfl⟩
    have hpair : pairAt l x.1 = pairL a b := by unfold pairAt; rw [hxa, hxb]
    have ea : a.length = 32 := by
      rw [hxa] at hP0; exact h32 a (List.mem_of_mem_take (List.mem_of_mem_drop (List.mem_of_getElem? hP0)))
    have eb : b.length = 32 := by
      rw [hxb] at hP1; exact h32 b (List.mem_of_mem_take (List.mem_of_mem_drop (List.mem_of_getElem? hP1)))
    rw [hpair] at hmp
    rw [hxa, hxb] at hsame
    rw [hxa] at hP0
    rw [hxb] at hP1
    obtain ⟨e, he⟩ : ∃ e, m - 2 * x.1 = e := ⟨_, rfl⟩
    rw [he] at hpe hPl hP1 hsame
    have he1 : 1 ≤ e := by omega
    have he2 : e ≤ 2 := by omega
    obtain ⟨p0, hi0, hc0⟩ := hs_addr hP hP0
    obtain ⟨p1, hi1, hc1⟩ := hs_addr hP hP1
    obtain ⟨PV, hPV⟩ : ∃ PV, partV ao N x.1 = PV := ⟨_, rfl⟩
    rw [hPV] at hpe hP hPW hi0 hi1 ⊢
    obtain ⟨tw, htw⟩ : ∃ tw, (pre.any fun x => sameAt l x.1) = tw := ⟨_, rfl⟩
    rw [htw] at hT han
    obtain ⟨pp, hpp⟩ : ∃ pp, (pre.map fun x => pairAt l x.1) = pp := ⟨_, rfl⟩
    rw [hpp] at hO hpre hmp
    clear hmin hP0 hP1 hxa hxb hm1 hmN hm2 he hpl htw hpp hpair hPV hvd hKd rA rT rS rI bD
    refine wpIn_block ?_
    apply wpIn_seq_k
    intro K5 hK5
    refine region_inD (fun _ _ h => h) (by kernel_rfl) (by kernel_rfl) ?_
    refine region_symT_any 11 _ [9, 10] [7, 8] [.val (PV), .val (.pointer (some p0)), .val (HV a), .val (PV), .val (PV), .val (.int .i64 (e : Int)), .val (.int .i64 ((e - 1 : Nat) : Int)), .val (.pointer (some p1)), .val (HV b), .hold W.heap.size 24 (tab 32 fun _ => VB 0), .hold W.heap.size 24 (tab 32 fun _ => VB 0)] rfl (by kernel_rfl) (by kernel_rfl) (by kernel_rfl) rfl (apartAll_start (by intro s hs; simp at hs; rcases hs with rfl | rfl <;> rfl)) (steps_all ⟨?_, ?_, ?_, ?_, ?_, ?_, ?_, ?_, ?_, ?_, ?_, trivial⟩) ?_
    · exact fun A W sz ot hbel ap dp => kMoveV _ _ rfl rfl (tO ot 6) (sVB ap sz (Below.refl _ _) rfl)
    · exact fun A W sz ot hbel ap dp => kY (yIndexAt _ _ _ PV 0 p0 hi0 rfl rfl (tD dp 0 .data) rfl) (sVB ap sz (Below.refl _ _) rfl)
    · exact fun A W sz ot hbel ap dp => kY (yLoadHsAt _ p0 a (fun _ e => by cases e; exact cells_below hc0 hbel) rfl rfl (tD dp 1 .data)) (sVB ap sz (Below.refl _ _) rfl)
    · exact fun A W sz ot hbel ap dp => kMoveV _ _ rfl rfl (tO ot 6) (sVB ap sz (Below.refl _ _) rfl)
    · exact fun A W sz ot hbel ap dp => kMoveV _ _ rfl rfl (tO ot 6) (sVB ap sz (Below.refl _ _) rfl)
    · exact fun A W sz ot hbel ap dp => kY (yLenHs _ PV _ e (fun _ e => by cases e; exact hP.below hbel) hPl rfl rfl (tD dp 4 .data)) (sVB ap sz (Below.refl _ _) rfl)
    · exact fun A W sz ot hbel ap dp => kY (ySubI _ _ _ _ (e : Int) 1 ((e - 1 : Nat) : Int) (by omega) rfl rfl (tD dp 5 .data) rfl) (sVB ap sz (Below.refl _ _) rfl)
    · exact fun A W sz ot hbel ap dp => kY (yIndexAt _ _ _ PV (e - 1) p1 hi1 rfl rfl (tD dp 3 .data) (tD dp 6 .data)) (sVB ap sz (Below.refl _ _) rfl)
    · exact fun A W sz ot hbel ap dp => kY (yLoadHsAt _ p1 b (fun _ e => by cases e; exact cells_below hc1 hbel) rfl rfl (tD dp 7 .data)) (sVB ap sz (Below.refl _ _) rfl)
    · exact fun A W sz ot hbel ap dp => kAllocL _ _ rfl rfl zero_Hash (fun W1 hR hz hB' => sAB ap sz hz hB' ⟨_, rfl, hbel.size, hR⟩ rfl)
    · exact fun A W sz ot hbel ap dp => kAllocL _ _ rfl rfl zero_Hash (fun W1 hR hz hB' => sAB ap sz hz hB' ⟨_, rfl, hbel.size, hR⟩ rfl)
    intro w1 hB1
    dsimp only [AllV]
    intro g7 hg7 hR7 g8 hg8 hR8 hap
    dsimp only [putAll, List.take, List.drop]
    go_frame
    clear hi0 hi1 hc0 hc1
    have hne : g7 ≠ g8 := fun e => hap 9 (by simp) 10 (by simp) (by decide) g7 rfl (by rw [e]; rfl)
    clear hap
    go_wp2_with (first
      | ((with_reducible change wpList _ _ _ (Oper.mk none (Op.store _ (Operand.tmp 7) _) _ _ _ _ :: _) _ _); refine kStoreHash _ _ g7 a _ hR7 (tab_size _ _) rfl rfl rfl rfl ?_; intro w2 hQ7 hW2; go_frame)
      | ((with_reducible change wpList _ _ _ (Oper.mk none (Op.store _ (Operand.tmp 8) _) _ _ _ _ :: _) _ _); refine kStoreHash _ _ g8 b _ (hW2.row hR8 (Ne.symm hne)) (tab_size _ _) rfl rfl rfl rfl ?_; intro w3 hQ8 hW3; go_frame))
    have hB3 := hB1.trans ((hW2.below hg7).trans (hW3.below hg8))
    have h73 := hW3.row hQ7 hne
    have hA3 := hA.below hB3 hA.lt
    have hT3 := hT.below hB3 hT.lt
    have hO3 := hO.below hB3
    have hB03 := hB.trans (hB3.mono hB.size)
    have hk3 : KeepsFrom wd.heap.size W w3 := keeps_below hB3
    have hq3 : Kq (W0.heap.size + 1 + 1) (W0.heap.size + 1 + 1 + 1) W w3 := kq_below hB3 (by omega) (by omega)
    have ho7 : ∀ r, u.ownBlock = some r → r ≠ g7 := fun r e => by have := own_lt hO r e; omega
    have ho8 : ∀ r, u.ownBlock = some r → r ≠ g8 := fun r e => by have := own_lt hO r e; omega
    have hsz3 := Nat.le_trans hsz hB3.size
    have hl7 : W0.heap.size + 4 ≤ g7 := by omega
    have hl8 : W0.heap.size + 4 ≤ g8 := by omega
    clear hW2 hW3 hB1 hR7 hR8 hQ7 hA hT hO hKW hV hP hg7 hg8 hB3 hsz
    apply wpIn_seq_k
    intro K6 hK6
    refine region_inD (fun _ _ h => h) (by kernel_rfl) (by kernel_rfl) ?_
    refine region_mixE_any [(0, true), (1, true), (2, true), (3, false), (4, false), (5, false), (6, false)] 7 _ (fun w => Row w W0.heap.size 46 #[u]) (by kernel_rfl) rfl rfl ?_
    intro w4 hBd hsd
    clear hsd
    have hA4 := hA3.below hBd hA3.lt
    have hT4 := hT3.below hBd hT3.lt
    have hO4 := hO3.below hBd
    have h74 := h73.below hBd h73.lt
    have h84 := hQ8.below hBd hQ8.lt
    have hv7 := row_vals h74 ea
    have hv8 := row_vals h84 eb
    have hB04 := hB03.trans (hBd.mono hB03.size)
    have hk4 : KeepsFrom wd.heap.size W w4 := hk3.trans (keeps_below hBd)
    have hq4 := hq3.trans (kq_below hBd (by omega) (by omega))
    have hsz4 := Nat.le_trans hsz3 hBd.size
    clear hA3 hT3 hO3 h73 hQ8 hB03 hk3 hq3 hBd hsz3
    simp only [List.map_cons, List.map_nil]
    dsimp only [List.filterMap, List.getElem?_cons_zero, List.getElem?_cons_succ]
    refine dY _ hA4 (yLoad1 _ _ _ W0.heap.size 0 #[u] u _ rfl rfl rfl (fun _ h => h) Tryz.underlying46 rfl rfl) ?_; go_frame
    refine dY _ hA4 (ySliceArrC Tryz.underlying24 info_b8P _ g7 0 rfl rfl rfl) ?_; go_frame
    refine dY _ hA4 (ySliceArrC Tryz.underlying24 info_b8P _ g8 0 rfl rfl rfl) ?_; go_frame
    refine dLoud ?_
    refine kBuildLists2 _ _ rfl rfl rfl rfl hv7 hv8 ?_
    intro w5 hL5 hB5
    refine mixOn ⟨_, (fun _ h => h), hA4.below hB5 hA4.lt, ?_⟩
    go_frame
    refine dLoud ?_
    refine kCall1 39 _ _ _ rfl rfl (by kernel_rfl) rfl ?_
    refine (twice_lists (l := a ++ b) (by simp) _ (hK.below (hB04.trans (hB5.mono hB04.size))) hL5 (by simp) (by rw [List.length_append, ea, eb]; decide)).mono ?_
    rintro e6 w6 ⟨rfl, hB6⟩
    have hB46 := hB5.trans (hB6.mono hB5.size)
    have hA6 := hA4.below hB46 hA4.lt
    clear hL5 hB5 hB6
    refine ⟨_, rfl, mixOn ⟨_, (fun _ h => h), hA6, ?_⟩⟩
    go_frame
    refine dLoud ?_
    refine kBuildHs1 _ (pairL a b) rfl rfl rfl ?_
    intro w7 hR7 hz7 hB7
    have hB47 := hB46.trans (hB7.mono hB46.size)
    have hA7 := hA4.below hB47 hA4.lt
    have hT7 := hT4.below hB47 hT4.lt
    have hO7 := hO4.below hB47
    have h77 := h74.below hB47 h74.lt
    have h87 := h84.below hB47 h84.lt
    have hB07 := hB04.trans (hB47.mono hB04.size)
    have hk7 : KeepsFrom wd.heap.size W w7 := hk4.trans (keeps_below hB47)
    have hq7 := hq4.trans (kq_below hB47 (by omega) (by omega))
    have hsz7 := Nat.le_trans hsz4 hB47.size
    clear hA4 hT4 hO4 h74 h84 hv7 hv8 hB04 hk4 hq4 hsz4 hB46 hB47 hA6 hB7 hz7
    refine mixOn ⟨_, (fun _ h => h), hA7, ?_⟩
    go_frame
    refine dLoud ?_
    refine kAppHs _ _ rfl rfl wd.heap.size u _ pp [pairL a b] rfl hO7 rfl ((isRows_one hR7 (hashR_len _) : HashesOf w7 _ [pairL a b])) (by simp; omega) hsz7 ?_
    intro v' w8 hO8 hB8 hg8
    have hA8 := hA7.below hB8 (by omega)
    have hT8 := hT7.below hB8 (by omega)
    have h78 := row_appJ h77 hg8 ho7
    have h88 := row_appJ h87 hg8 ho8
    have hB08 := hB07.trans (hB8.mono (by omega))
    have hk8 := hk7.trans (keeps_app (B := wd.heap.size) hO7 hg8)
    have hq8 := hq7.trans (kq_below hB8 (by omega) (by omega))
    have hsz8 := Nat.le_trans hsz7 hB8.size
    clear hA7 hT7 hO7 h77 h87 hB07 hk7 hq7 hsz7 hB8 hg8 hR7
    refine mixOn ⟨_, (fun _ h => h), hA8, ?_⟩
    go_frame
    refine dDone ?_
    refine kStore1 _ _ _ _ W0.heap.size 0 #[u] v' rfl rfl rfl rfl hA8 hashes_info (by simp) hO8.of.sl.one ?_
    intro w9 hA9 hW9
    have hT9 := hW9.row hT8 (by omega)
    have h79 := hW9.row h78 (by omega)
    have h89 := hW9.row h88 (by omega)
    have hO9 : OwnHs w9 wd.heap.size v' (pp ++ [pairL a b]) := OwnR.over hO8 (over_wrote hW9 (by omega))
    have hB09 := hB08.trans (hW9.below (Nat.le_refl _))
    have hk9 := hk8.trans (keeps_wrote (B := wd.heap.size) hW9 hA8)
    have hq9 := hq8.trans (kq_wrote hW9 (by omega) (by omega))
    have hsz9 := Nat.le_trans hsz8 (Nat.le_of_eq hW9.size.symm)
    clear hA8 hT8 h78 h88 hO8 hB08 hk8 hq8 hsz8 hW9 ho7 ho8
    clear hl7 hl8
    change K6 _ w9
    apply hK6
    clear hK6
    have hP9 := hPW.below hB09
    refine region_in (fun _ _ h => h) (by kernel_rfl) ?_
    have hfin : ∀ (ac : Act) t w, t = (tw || sameAt l x.1) → Row w (W0.heap.size + 1) 4 #[.bool t] → Wrote (W0.heap.size + 1) w9 w → ownPostG wd.heap.size (Kq (W0.heap.size + 1 + 1) (W0.heap.size + 1 + 1 + 1)) (fun pre W => (∃ u, Row W W0.heap.size 46 #[u] ∧ OwnHs W wd.heap.size u (pre.map fun x => pairAt l x.1)) ∧ Row W (W0.heap.size + 1) 4 #[.bool (pre.any fun x => sameAt l x.1)] ∧ HashesOf W (.slice ao N c) l ∧ Keys W ∧ Below W0.heap.size W0 W ∧ wd.heap.size ≤ W.heap.size) (fun _ _ _ => False) (pre ++ [x]) W .normal ac w := by
      intro ac t w ht hr hw
      have hBw := hB09.trans (hw.below (by omega))
      refine ⟨hk9.trans (keeps_wrote hw hT9), hq9.trans (kq_wrote hw (by omega) (by omega)), ⟨v', hw.row hA9 (by omega), by rw [hmp]; exact OwnR.over hO9 (over_wrote hw (by omega))⟩, by rw [han, ← ht]; exact hr, hv.below hBw, hK.below hBw, hBw, Nat.le_trans hsz9 (Nat.le_of_eq hw.size.symm)⟩
    rw [hsame] at hfin
    clear hO9 hk9 hq9 hB09 hsz9 hmp han hsame sd hpe
    rcases (by omega : e = 1 ∨ e = 2) with rfl | rfl
    · cases tw
      · have hfin := fun ac => hfin ac false
        go_wp2_with (first
          | ((with_reducible change wpList _ _ _ (Oper.mk (some 28) _ _ _ _ _ :: _) _ _); refine kY (yLoad1 _ _ _ (W0.heap.size + 1) 0 #[.bool false] (.bool false) _ rfl rfl rfl (fun _ e => by cases e; exact hT9) Tryz.underlying4 rfl rfl) ?_; go_frame)
          | ((with_reducible change wpList _ _ _ (Oper.mk (some 31) _ _ _ _ _ :: _) _ _); refine kY (yLenHs _ PV _ 1 (fun _ e => by cases e; exact hP9) hPl rfl rfl rfl) ?_; go_frame)
          | ((with_reducible change wpList _ _ _ (Oper.mk (some 32) _ _ _ _ _ :: _) _ _); refine kEqlI _ _ _ _ .i64 1 2 false rfl rfl rfl rfl (by decide) ?_; go_frame)
          | ((with_reducible change wpList _ _ _ (Oper.mk none _ _ _ _ _ :: _) _ _); refine kStore1 _ _ _ _ (W0.heap.size + 1) 0 #[.bool false] (.bool false) rfl rfl rfl rfl hT9 bool_info (by simp) rfl ?_; intro w10 hT10 hW10; go_frame))
        exact hfin _ _ (by simp) hT10 hW10
      · have hfin := fun ac => hfin ac true
        go_wp2_with (first
          | ((with_reducible change wpList _ _ _ (Oper.mk (some 28) _ _ _ _ _ :: _) _ _); refine kY (yLoad1 _ _ _ (W0.heap.size + 1) 0 #[.bool true] (.bool true) _ rfl rfl rfl (fun _ e => by cases e; exact hT9) Tryz.underlying4 rfl rfl) ?_; go_frame)
          | ((with_reducible change wpList _ _ _ (Oper.mk none _ _ _ _ _ :: _) _ _); refine kStore1 _ _ _ _ (W0.heap.size + 1) 0 #[.bool true] (.bool true) rfl rfl rfl rfl hT9 bool_info (by simp) rfl ?_; intro w10 hT10 hW10; go_frame))
        exact hfin _ _ (by simp) hT10 hW10
    · cases tw
      · have hfin := fun ac => hfin ac (decide (a = b))
        go_wp2_with (first
          | ((with_reducible change wpList _ _ _ (Oper.mk (some 28) _ _ _ _ _ :: _) _ _); refine kY (yLoad1 _ _ _ (W0.heap.size + 1) 0 #[.bool false] (.bool false) _ rfl rfl rfl (fun _ e => by cases e; exact hT9) Tryz.underlying4 rfl rfl) ?_; go_frame)
          | ((with_reducible change wpList _ _ _ (Oper.mk (some 31) _ _ _ _ _ :: _) _ _); refine kY (yLenHs _ PV _ 2 (fun _ e => by cases e; exact hP9) hPl rfl rfl rfl) ?_; go_frame)
          | ((with_reducible change wpList _ _ _ (Oper.mk (some 32) _ _ _ _ _ :: _) _ _); refine kEqlI _ _ _ _ .i64 2 2 true rfl rfl rfl rfl (by decide) ?_; go_frame)
          | ((with_reducible change wpList _ _ _ (Oper.mk (some 34) _ _ _ _ _ :: _) _ _); refine kLoadHash _ g7 a h79 rfl rfl rfl ?_; go_frame)
          | ((with_reducible change wpList _ _ _ (Oper.mk (some 35) _ _ _ _ _ :: _) _ _); refine kLoadHash _ g8 b h89 rfl rfl rfl ?_; go_frame)
          | ((with_reducible change wpList _ _ _ (Oper.mk (some 36) _ _ _ _ _ :: _) _ _); refine kEqlHash _ _ _ a b (decide (a = b)) ea eb rfl rfl rfl rfl rfl ?_; go_frame)
          | ((with_reducible change wpList _ _ _ (Oper.mk none _ _ _ _ _ :: _) _ _); refine kStore1 _ _ _ _ (W0.heap.size + 1) 0 #[.bool false] (.bool (decide (a = b))) rfl rfl rfl rfl hT9 bool_info (by simp) rfl ?_; intro w10 hT10 hW10; go_frame))
        exact hfin _ _ (by simp) hT10 hW10
      · have hfin := fun ac => hfin ac true
        go_wp2_with (first
          | ((with_reducible change wpList _ _ _ (Oper.mk (some 28) _ _ _ _ _ :: _) _ _); refine kY (yLoad1 _ _ _ (W0.heap.size + 1) 0 #[.bool true] (.bool true) _ rfl rfl rfl (fun _ e => by cases e; exact hT9) Tryz.underlying4 rfl rfl) ?_; go_frame)
          | ((with_reducible change wpList _ _ _ (Oper.mk none _ _ _ _ _ :: _) _ _); refine kStore1 _ _ _ _ (W0.heap.size + 1) 0 #[.bool true] (.bool true) rfl rfl rfl rfl hT9 bool_info (by simp) rfl ?_; intro w10 hT10 hW10; go_frame))
        exact hfin _ _ (by simp) hT10 hW10
end Go.Proofs.YtmfjgehlkbndjaaGreatDoor

/-
  Layer 11: what stands for all hashes.
-/
namespace Go.Proofs.YtmfjgehlkbndjaaGreatDoor
open Go Go.RowKit Go.Shelf

attribute [local go_sem] Oper.semAt_some
def Ap2 (p q : Value) (w : World) : Prop := (∀ g, p = .pointer (some ⟨g, 0, none⟩) → g < w.heap.size) ∧ (∀ g, q = .pointer (some ⟨g, 0, none⟩) → g < w.heap.size) ∧ ∀ g, p = .pointer (some ⟨g, 0, none⟩) → q = .pointer (some ⟨g, 0, none⟩) → False
theorem ap2_none (w : World) : Ap2 undef undef w := ⟨fun g e => (by cases e), fun g e => (by cases e), fun g e => (by cases e)⟩
theorem ap2_two {w : World} {g h : Nat} (hg : g < w.heap.size) (hh : h < w.heap.size) (hne : g ≠ h) : Ap2 (.pointer (some ⟨g, 0, none⟩)) (.pointer (some ⟨h, 0, none⟩)) w := ⟨fun k e => (by cases e; exact hg), fun k e => (by cases e; exact hh), fun k e e2 => (by cases e; cases e2; exact hne rfl)⟩
theorem ap2_all {a : Act} {w : World} {s t : Tmp} {p q : Value} (h : Ap2 p q w) (hs : a.tmps.getD s undef = p := by rfl) (ht : a.tmps.getD t undef = q := by rfl) : ApartAll [s, t] a w := by
  refine ⟨fun k hk g e => ?_, fun k hk l hl hne g e1 e2 => ?_⟩
  · simp only [List.mem_cons, List.not_mem_nil, or_false] at hk
    rcases hk with rfl | rfl
    · exact h.1 g (hs.symm.trans e)
    · exact h.2.1 g (ht.symm.trans e)
  · simp only [List.mem_cons, List.not_mem_nil, or_false] at hk hl
    rcases hk with rfl | rfl <;> rcases hl with rfl | rfl
    · exact hne rfl
    · exact h.2.2 g (hs.symm.trans e1) (ht.symm.trans e2)
    · exact h.2.2 g (hs.symm.trans e2) (ht.symm.trans e1)
    · exact hne rfl
def lenV : Value → Nat
  | .slice _ n _ => n
  | _ => 0
theorem HashesOf.lenV {w : World} {v : Value} {l : List (List UInt8)} (h : HashesOf w v l) : lenV v = l.length := by
  obtain ⟨⟨ao, c, rfl, -⟩, -⟩ := h
  simp [Proofs.YtmfjgehlkbndjaaGreatDoor.lenV]
theorem ownB_empty {w : World} {g base : Nat} (hb : base ≤ g) (h : Row w g 5 #[]) : OwnB w base (.slice (some ⟨g, 0, none⟩) 0 0) [] :=
  ⟨by simp, .inr ⟨g, 0, #[], rfl, hb, h, Nat.le_refl _, by simp [maxLen], by simp, by simp⟩⟩
theorem joinL_at {l : List (List UInt8)} {i : Nat} {a : List UInt8} (ha : l[i]? = some a) : (∀ b, l[i + 1]? = some b → joinL (l.drop i) = (pairL a b :: (joinL (l.drop (i + 2))).1, decide (a = b) || (joinL (l.drop (i + 2))).2)) ∧ (l.length ≤ i + 1 → joinL (l.drop i) = (pairL a a :: (joinL (l.drop (i + 2))).1, (joinL (l.drop (i + 2))).2)) := by
  obtain ⟨hi, rfl⟩ := List.getElem?_eq_some_iff.1 ha
  rw [List.drop_eq_getElem_cons hi]
  refine ⟨fun b hb => ?_, fun h => ?_⟩
  · obtain ⟨hi2, rfl⟩ := List.getElem?_eq_some_iff.1 hb
    rw [List.drop_eq_getElem_cons hi2]; rfl
  · rw [List.drop_of_length_le h, List.drop_of_length_le (by omega)]; rfl
set_option maxRecDepth 100000 in
set_option maxHeartbeats 8000000 in
theorem blRoot_any {l : List (List UInt8)} {v : Value} (W0 : World) (hv : HashesOf W0 v l) (h32 : ∀ x ∈ l, x.length = 32) (hn : l.length ≤ 1000) (hK : Keys W0) : Calls Tryz.prog 11 #[v] W0 fun e w' => e = .returned (.tuple #[HV (rootL l).1, .bool (rootL l).2]) ∧ Below W0.heap.size W0 w' := by
  obtain ⟨N, hN⟩ : ∃ N, l.length = N := ⟨_, rfl⟩
  have hn' : N ≤ 1000 := hN ▸ hn
  go_enter Tryz.func11, Tryz.ntmps11
  by_cases h0 : N = 0
  · obtain rfl : l = [] := List.eq_nil_of_length_eq_zero (by omega)
    have hd : decide ((N : Int) = 0) = true := by simp; omega
    go_wp2_with (first
      | ((with_reducible change wpList _ _ _ (Oper.mk (some 2) _ _ _ _ _ :: _) _ _); refine kAllocL _ _ rfl rfl zero_Hash ?_; intro w1 hRA hz1 hB; clear hz1; have hV := hv.below hB; go_frame)
      | ((with_reducible change wpList _ _ _ (Oper.mk (some 7) _ _ _ _ _ :: _) _ _); refine kY (yLenHs _ v [] N (fun _ e => by cases e; exact hV) hN rfl rfl rfl) ?_; go_frame)
      | ((with_reducible change wpList _ _ _ (Oper.mk (some 8) _ _ _ _ _ :: _) _ _); refine kEqlI _ _ _ _ .i64 (N : Int) 0 true rfl rfl rfl rfl hd ?_; go_frame)
      | ((with_reducible change wpList _ _ _ (Oper.mk (some 9) _ _ _ _ _ :: _) _ _); refine kY (yBuildHash0 rfl rfl) ?_; go_frame)
      | ((with_reducible change wpList _ _ _ (Oper.mk none _ _ _ _ _ :: _) _ _); refine kStoreHash _ _ W0.heap.size z32 _ hRA (tab_size _ _) rfl rfl rfl rfl ?_; intro w9 hRA9 hW9; have hB9 := hB.trans (hW9.below (Nat.le_refl _)); clear hRA hB hW9; go_frame))
    (try simp only [Exit.inBlock, Exit.then])
    exact result_row_tmp rfl rfl rfl hRA9 Tryz.underlying24 rfl info_HashT rfl ⟨rfl, hB9⟩
  · have hd : decide ((N : Int) = 0) = false := by simp; omega
    go_wp2_with (first
      | ((with_reducible change wpList _ _ _ (Oper.mk (some 2) _ _ _ _ _ :: _) _ _); refine kAllocL _ _ rfl rfl zero_Hash ?_; intro w1 hRA hz1 hB; clear hz1; have hV := hv.below hB; go_frame)
      | ((with_reducible change wpList _ _ _ (Oper.mk (some 7) _ _ _ _ _ :: _) _ _); refine kY (yLenHs _ v l N (fun _ e => by cases e; exact hV) hN rfl rfl rfl) ?_; go_frame)
      | ((with_reducible change wpList _ _ _ (Oper.mk (some 8) _ _ _ _ _ :: _) _ _); refine kEqlI _ _ _ _ .i64 (N : Int) 0 false rfl rfl rfl rfl hd ?_; go_frame))
    go_loopw [0, 4] (fun x y wr => ∃ (m : List (List UInt8)) (t : Bool), y = .bool t ∧ HashesOf wr x m ∧ (∀ z ∈ m, z.length = 32) ∧ 1 ≤ m.length ∧ m.length ≤ N ∧ (rootL l).1 = (rootL m).1 ∧ (rootL l).2 = (t || (rootL m).2) ∧ Row wr W0.heap.size 24 (tab 32 fun _ => VB 0) ∧ Below W0.heap.size W0 wr) (fun x _ _ => lenV x)
    case atStart => exact ⟨l, false, rfl, hV, h32, by omega, by omega, rfl, by simp, hRA, hB⟩
    case round =>
      clear hRA hV hB hd
      obtain ⟨m, t, rfl, hV, hm32, hm1, hmN, e1, e2, hRA, hB⟩ := hrel
      obtain ⟨M, hM⟩ : ∃ M, m.length = M := ⟨_, rfl⟩
      by_cases hlt : 1 < M
      · have hd : decide ((1 : Int) < (M : Int)) = true := by simp; omega
        obtain ⟨J, hJ⟩ : ∃ J, (joinL m).1 = J := ⟨_, rfl⟩
        obtain ⟨T, hT⟩ : ∃ T, (joinL m).2 = T := ⟨_, rfl⟩
        have hst := rootL_step (l := m) (by omega)
        have hJl := joinL_len m
        have hJ32 := joinL_32 m
        have hcj := blJoined_any _ hV hm32 (by omega) (hK.below hB)
        rw [hJ, hT] at hst hcj
        rw [hJ] at hJl hJ32
        have hle := hV.lenV
        cases t
        · go_wp2_with (first
            | ((with_reducible change wpList _ _ _ (Oper.mk (some 11) _ _ _ _ _ :: _) _ _); refine kY (yLenHs _ _ m M (fun _ e => by cases e; exact hV) hM rfl rfl rfl) ?_; go_frame)
            | ((with_reducible change wpList _ _ _ (Oper.mk (some 12) _ _ _ _ _ :: _) _ _); refine kY (yGtrI _ _ _ _ .i64 (M : Int) 1 true rfl rfl rfl rfl hd) ?_; go_frame)
            | (go_at_call 33; refine (hcj).mono ?_; rintro e w3 ⟨u, rfl, hO, hBq⟩; have hRA3 := hRA.below hBq hRA.lt; have hB3 := hB.trans (hBq.mono hB.size); have hVu := hO.of; clear hRA hB hV hBq hO hcj; go_frame)
            | ((with_reducible change wpList _ _ _ (Oper.mk (some 16) _ _ _ _ _ :: _) _ _); refine kY (yExtract _ 0 _ u rfl rfl rfl rfl) ?_; go_frame)
            | ((with_reducible change wpList _ _ _ (Oper.mk (some 17) _ _ _ _ _ :: _) _ _); refine kY (yExtract _ 1 _ (.bool T) rfl rfl rfl rfl) ?_; go_frame))
          go_roundw
          case rel => exact ⟨J, T, rfl, hVu, hJ32, by omega, by omega, by rw [e1, hst], by rw [e2, hst]; simp, hRA3, hB3⟩
          case measure => rw [hVu.lenV, hle]; omega
        · go_wp2_with (first
            | ((with_reducible change wpList _ _ _ (Oper.mk (some 11) _ _ _ _ _ :: _) _ _); refine kY (yLenHs _ _ m M (fun _ e => by cases e; exact hV) hM rfl rfl rfl) ?_; go_frame)
            | ((with_reducible change wpList _ _ _ (Oper.mk (some 12) _ _ _ _ _ :: _) _ _); refine kY (yGtrI _ _ _ _ .i64 (M : Int) 1 true rfl rfl rfl rfl hd) ?_; go_frame)
            | (go_at_call 33; refine (hcj).mono ?_; rintro e w3 ⟨u, rfl, hO, hBq⟩; have hRA3 := hRA.below hBq hRA.lt; have hB3 := hB.trans (hBq.mono hB.size); have hVu := hO.of; clear hRA hB hV hBq hO hcj; go_frame)
            | ((with_reducible change wpList _ _ _ (Oper.mk (some 16) _ _ _ _ _ :: _) _ _); refine kY (yExtract _ 0 _ u rfl rfl rfl rfl) ?_; go_frame)
            | ((with_reducible change wpList _ _ _ (Oper.mk (some 17) _ _ _ _ _ :: _) _ _); refine kY (yExtract _ 1 _ (.bool T) rfl rfl rfl rfl) ?_; go_frame))
          go_roundw
          case rel => exact ⟨J, true, rfl, hVu, hJ32, by omega, by omega, by rw [e1, hst], by rw [e2, hst]; simp, hRA3, hB3⟩
          case measure => rw [hVu.lenV, hle]; omega
      · have hd : decide ((1 : Int) < (M : Int)) = false := by simp; omega
        obtain ⟨x, rfl⟩ : ∃ x, m = [x] := List.length_eq_one_iff.1 (by omega)
        rw [rootL_one] at e1 e2
        obtain ⟨p0, hi0, hc0⟩ := hs_addr hV (k := 0) (x := x) rfl
        go_wp2_with (first
          | ((with_reducible change wpList _ _ _ (Oper.mk (some 11) _ _ _ _ _ :: _) _ _); refine kY (yLenHs _ _ [x] M (fun _ e => by cases e; exact hV) hM rfl rfl rfl) ?_; go_frame)
          | ((with_reducible change wpList _ _ _ (Oper.mk (some 12) _ _ _ _ _ :: _) _ _); refine kY (yGtrI _ _ _ _ .i64 (M : Int) 1 false rfl rfl rfl rfl hd) ?_; go_frame)
          | ((with_reducible change wpList _ _ _ (Oper.mk (some 23) _ _ _ _ _ :: _) _ _); refine kY (yIndexAt _ _ _ _ 0 p0 hi0 rfl rfl rfl rfl) ?_; go_frame)
          | ((with_reducible change wpList _ _ _ (Oper.mk (some 24) _ _ _ _ _ :: _) _ _); refine kY (yLoadHsAt _ p0 x (fun _ e => by cases e; exact hc0) rfl rfl rfl) ?_; go_frame)
          | ((with_reducible change wpList _ _ _ (Oper.mk none _ _ _ _ _ :: _) _ _); refine kStoreHash _ _ W0.heap.size x _ hRA (tab_size _ _) rfl rfl rfl rfl ?_; intro w9 hRA9 hW9; have hB9 := hB.trans (hW9.below (Nat.le_refl _)); clear hRA hB hW9; go_frame))
        (try simp only [Exit.inBlock, Exit.then])
        exact result_row_tmp rfl rfl rfl hRA9 Tryz.underlying24 rfl info_HashT rfl ⟨by (try rw [e1]); (try rw [e2]); (try rw [Bool.or_false]); rfl, hB9⟩
set_option maxRecDepth 100000 in
set_option maxHeartbeats 8000000 in
theorem xRoot_all (n : Nat) : ∀ (l : List (List UInt8)) (v : Value) (W0 : World), l.length ≤ n → HashesOf W0 v l → (∀ x ∈ l, x.length = 32) → l.length ≤ 1000 → Calls Tryz.prog 18 #[v] W0 fun e w' => e = .returned (.tuple #[HV (rootL l).1, .bool (rootL l).2]) ∧ Below W0.heap.size W0 w' := by
  obtain ⟨ih0, hih0⟩ : ∃ i, Tryz.prog.info? 24 = some i := by
    obtain ⟨j, z, e1, _⟩ := rowInfo hashInfo0; exact ⟨j, e1⟩
  obtain ⟨ib, hib, -, -⟩ := b8Info
  induction n with
  | zero =>
    intro l v W0 hle hv h32 hn
    obtain rfl : l = [] := List.eq_nil_of_length_eq_zero (by omega)
    go_enter Tryz.func18, Tryz.ntmps18
    go_wp2_with (first
      | ((with_reducible change wpList _ _ _ (Oper.mk (some 2) _ _ _ _ _ :: _) _ _); refine kAllocL _ _ rfl rfl zero_Hash ?_; intro w1 hRA hz1 hB; clear hz1; have hV := hv.below hB; go_frame)
      | ((with_reducible change wpList _ _ _ (Oper.mk (some 12) _ _ _ _ _ :: _) _ _); refine kY (yLenHs _ v [] 0 (fun _ e => by cases e; exact hV) rfl rfl rfl rfl) ?_; go_frame)
      | ((with_reducible change wpList _ _ _ (Oper.mk (some 13) _ _ _ _ _ :: _) _ _); refine kEqlI _ _ _ _ .i64 0 0 true rfl rfl rfl rfl rfl ?_; go_frame)
      | ((with_reducible change wpList _ _ _ (Oper.mk (some 14) _ _ _ _ _ :: _) _ _); refine kY (yBuildHash0 rfl rfl) ?_; go_frame)
      | ((with_reducible change wpList _ _ _ (Oper.mk none _ _ _ _ _ :: _) _ _); refine kStoreHash _ _ W0.heap.size z32 _ hRA (tab_size _ _) rfl rfl rfl rfl ?_; intro w9 hRA9 hW9; have hB9 := hB.trans (hW9.below (Nat.le_refl _)); clear hRA hB hW9; go_frame))
    (try simp only [Exit.inBlock, Exit.then])
    exact result_row_tmp rfl rfl rfl hRA9 Tryz.underlying24 rfl info_HashT rfl ⟨rfl, hB9⟩
  | succ n ih =>
    intro l v W0 hle hv h32 hn
    obtain ⟨N, hN⟩ : ∃ N, l.length = N := ⟨_, rfl⟩
    have hn' : N ≤ 1000 := hN ▸ hn
    go_enter Tryz.func18, Tryz.ntmps18
    by_cases h0 : N = 0
    · obtain rfl : l = [] := List.eq_nil_of_length_eq_zero (by omega)
      have hd : decide ((N : Int) = 0) = true := by simp; omega
      go_wp2_with (first
        | ((with_reducible change wpList _ _ _ (Oper.mk (some 2) _ _ _ _ _ :: _) _ _); refine kAllocL _ _ rfl rfl zero_Hash ?_; intro w1 hRA hz1 hB; clear hz1; have hV := hv.below hB; go_frame)
        | ((with_reducible change wpList _ _ _ (Oper.mk (some 12) _ _ _ _ _ :: _) _ _); refine kY (yLenHs _ v [] N (fun _ e => by cases e; exact hV) hN rfl rfl rfl) ?_; go_frame)
        | ((with_reducible change wpList _ _ _ (Oper.mk (some 13) _ _ _ _ _ :: _) _ _); refine kEqlI _ _ _ _ .i64 (N : Int) 0 true rfl rfl rfl rfl hd ?_; go_frame)
        | ((with_reducible change wpList _ _ _ (Oper.mk (some 14) _ _ _ _ _ :: _) _ _); refine kY (yBuildHash0 rfl rfl) ?_; go_frame)
        | ((with_reducible change wpList _ _ _ (Oper.mk none _ _ _ _ _ :: _) _ _); refine kStoreHash _ _ W0.heap.size z32 _ hRA (tab_size _ _) rfl rfl rfl rfl ?_; intro w9 hRA9 hW9; have hB9 := hB.trans (hW9.below (Nat.le_refl _)); clear hRA hB hW9; go_frame))
      (try simp only [Exit.inBlock, Exit.then])
      exact result_row_tmp rfl rfl rfl hRA9 Tryz.underlying24 rfl info_HashT rfl ⟨rfl, hB9⟩
    have hd : decide ((N : Int) = 0) = false := by simp; omega
    by_cases h1 : N = 1
    · obtain ⟨x, rfl⟩ : ∃ x, l = [x] := List.length_eq_one_iff.1 (by omega)
      have hd1 : decide ((N : Int) = 1) = true := by simp; omega
      obtain ⟨p0, hi0, hc0⟩ := hs_addr hv (k := 0) (x := x) rfl
      go_wp2_with (first
        | ((with_reducible change wpList _ _ _ (Oper.mk (some 2) _ _ _ _ _ :: _) _ _); refine kAllocL _ _ rfl rfl zero_Hash ?_; intro w1 hRA hz1 hB; clear hz1; have hV := hv.below hB; have hc1 := fun j u e => (cells_below hc0 hB) j u e; go_frame)
        | ((with_reducible change wpList _ _ _ (Oper.mk (some 12) _ _ _ _ _ :: _) _ _); refine kY (yLenHs _ v [x] N (fun _ e => by cases e; exact hV) hN rfl rfl rfl) ?_; go_frame)
        | ((with_reducible change wpList _ _ _ (Oper.mk (some 13) _ _ _ _ _ :: _) _ _); refine kEqlI _ _ _ _ .i64 (N : Int) 0 false rfl rfl rfl rfl hd ?_; go_frame)
        | ((with_reducible change wpList _ _ _ (Oper.mk (some 16) _ _ _ _ _ :: _) _ _); refine kY (yLenHs _ v [x] N (fun _ e => by cases e; exact hV) hN rfl rfl rfl) ?_; go_frame)
        | ((with_reducible change wpList _ _ _ (Oper.mk (some 17) _ _ _ _ _ :: _) _ _); refine kEqlI _ _ _ _ .i64 (N : Int) 1 true rfl rfl rfl rfl hd1 ?_; go_frame)
        | ((with_reducible change wpList _ _ _ (Oper.mk (some 19) _ _ _ _ _ :: _) _ _); refine kY (yIndexAt _ _ _ _ 0 p0 hi0 rfl rfl rfl rfl) ?_; go_frame)
        | ((with_reducible change wpList _ _ _ (Oper.mk (some 20) _ _ _ _ _ :: _) _ _); refine kY (yLoadHsAt _ p0 x (fun _ e => by cases e; exact hc1) rfl rfl rfl) ?_; go_frame)
        | ((with_reducible change wpList _ _ _ (Oper.mk none _ _ _ _ _ :: _) _ _); refine kStoreHash _ _ W0.heap.size x _ hRA (tab_size _ _) rfl rfl rfl rfl ?_; intro w9 hRA9 hW9; have hB9 := hB.trans (hW9.below (Nat.le_refl _)); clear hRA hB hW9; go_frame))
      (try simp only [Exit.inBlock, Exit.then])
      exact result_row_tmp rfl rfl rfl hRA9 Tryz.underlying24 rfl info_HashT rfl ⟨rfl, hB9⟩
    have hd1 : decide ((N : Int) = 1) = false := by simp; omega
    have hst := rootL_step (l := l) (by omega)
    have hJl := joinL_len l
    have hJ32 := joinL_32 l
    go_wp2_with (first
      | ((with_reducible change wpList _ _ _ (Oper.mk (some 2) _ _ _ _ _ :: _) _ _); refine kAllocL _ _ rfl rfl zero_Hash ?_; intro w1 hRA hz1 hB; clear hz1; have hV := hv.below hB; go_frame)
      | ((with_reducible change wpList _ _ _ (Oper.mk (some 12) _ _ _ _ _ :: _) _ _); refine kY (yLenHs _ v l N (fun _ e => by cases e; exact hV) hN rfl rfl rfl) ?_; go_frame)
      | ((with_reducible change wpList _ _ _ (Oper.mk (some 13) _ _ _ _ _ :: _) _ _); refine kEqlI _ _ _ _ .i64 (N : Int) 0 false rfl rfl rfl rfl hd ?_; go_frame)
      | ((with_reducible change wpList _ _ _ (Oper.mk (some 16) _ _ _ _ _ :: _) _ _); refine kY (yLenHs _ v l N (fun _ e => by cases e; exact hV) hN rfl rfl rfl) ?_; go_frame)
      | ((with_reducible change wpList _ _ _ (Oper.mk (some 17) _ _ _ _ _ :: _) _ _); refine kEqlI _ _ _ _ .i64 (N : Int) 1 false rfl rfl rfl rfl hd1 ?_; go_frame)
      | ((with_reducible change wpList _ _ _ (Oper.mk (some 21) _ _ _ _ _ :: _) _ _); refine kBuildSlice0 _ _ rfl rfl Tryz.underlying46 ih0 hih0 ?_; intro w2 hRe hze hBq; have hO1 : OwnHs w2 (W0.heap.size + 1) (.slice (some ⟨w1.heap.size, 0, none⟩) 0 0) [] := ownR_empty hRA.lt hRe; have hRA2 := hRA.below hBq hRA.lt; have hB2 := hB.trans (hBq.mono hB.size); clear hRe hze hRA hB hBq hV; go_frame))
    go_loopw [6, 4, 5, 7, 8] (fun x y z p q wr => ∃ (i : Nat) (X : List (List UInt8)) (s : Bool), x = .int .i64 (i : Int) ∧ z = .bool s ∧ i ≤ N + 1 ∧ X.length ≤ i ∧ OwnHs wr (W0.heap.size + 1) y X ∧ (joinL l).1 = X ++ (joinL (l.drop i)).1 ∧ (joinL l).2 = (s || (joinL (l.drop i)).2) ∧ Ap2 p q wr ∧ Row wr W0.heap.size 24 (tab 32 fun _ => VB 0) ∧ Below W0.heap.size W0 wr) (fun x _ _ _ _ _ => N + 1 - (intOf x).toNat)
    case atStart => exact ⟨0, [], false, rfl, rfl, by omega, Nat.le_refl _, hO1, rfl, by simp, ap2_none _, hRA2, hB2⟩
    case round =>
      clear hO1 hRA2 hB2 hd hd1
      obtain ⟨i, X, s, rfl, rfl, hi, hX, hO, e1, e2, h78, hRA, hB⟩ := hrel
      have hV := hv.below hB
      by_cases hlt : i < N
      · have hd : decide ((i : Int) < (N : Int)) = true := by simp; omega
        obtain ⟨a, hia⟩ : ∃ a, l[i]? = some a := ⟨_, List.getElem?_eq_getElem (by omega)⟩
        have ha32 := h32 a (List.mem_of_getElem? hia)
        have hja := joinL_at hia
        obtain ⟨p0, hi0, hc0⟩ := hs_addr hV hia
        by_cases h2 : i + 1 < N
        · have hd2 : decide (((i + 1 : Nat) : Int) < (N : Int)) = true := by simp; omega
          obtain ⟨b, hib1⟩ : ∃ b, l[i + 1]? = some b := ⟨_, List.getElem?_eq_getElem (by omega)⟩
          have hb32 := h32 b (List.mem_of_getElem? hib1)
          have hja := hja.1 b hib1
          obtain ⟨p1, hi1, hc1⟩ := hs_addr hV hib1
          go_wp2_with (first
            | ((with_reducible change wpList _ _ _ (Oper.mk (some 24) _ _ _ _ _ :: _) _ _); refine kY (yLenHs _ v l N (fun _ e => by cases e; exact hV) hN rfl rfl rfl) ?_; go_frame)
            | ((with_reducible change wpList _ _ _ (Oper.mk (some 25) _ _ _ _ _ :: _) _ _); refine kLssI _ _ _ _ .i64 (i : Int) (N : Int) true rfl rfl rfl rfl hd ?_; go_frame))
          refine wp_region_any (by kernel_rfl) ?_
          refine region_symT_any 10 _ [8, 9] [7, 8] [.val (v), .val (.int .i64 (i : Int)), .val (.pointer (some p0)), .val (HV a), .val (v), .val (.int .i64 (i : Int)), .val (.pointer (some p0)), .val (HV a), .hold wr.heap.size 24 (tab 32 fun _ => VB 0), .hold wr.heap.size 24 (tab 32 fun _ => VB 0)] rfl (by kernel_rfl) (by kernel_rfl) (by kernel_rfl) rfl (ap2_all h78) (steps_all ⟨?_, ?_, ?_, ?_, ?_, ?_, ?_, ?_, ?_, ?_, trivial⟩) ?_
          · exact fun A W sz ot hbel ap dp => kMoveV _ _ rfl rfl (tO ot 0) (sVB ap sz (Below.refl _ _) rfl)
          · exact fun A W sz ot hbel ap dp => kMoveV _ _ rfl rfl (tO ot 6) (sVB ap sz (Below.refl _ _) rfl)
          · exact fun A W sz ot hbel ap dp => kY (yIndexAt _ _ _ v i p0 hi0 rfl rfl (tD dp 0 .data) (tD dp 1 .data)) (sVB ap sz (Below.refl _ _) rfl)
          · exact fun A W sz ot hbel ap dp => kY (yLoadHsAt _ p0 a (fun _ e => by cases e; exact cells_below hc0 hbel) rfl rfl (tD dp 2 .data)) (sVB ap sz (Below.refl _ _) rfl)
          · exact fun A W sz ot hbel ap dp => kMoveV _ _ rfl rfl (tO ot 0) (sVB ap sz (Below.refl _ _) rfl)
          · exact fun A W sz ot hbel ap dp => kMoveV _ _ rfl rfl (tO ot 6) (sVB ap sz (Below.refl _ _) rfl)
          · exact fun A W sz ot hbel ap dp => kY (yIndexAt _ _ _ v i p0 hi0 rfl rfl (tD dp 4 .data) (tD dp 5 .data)) (sVB ap sz (Below.refl _ _) rfl)
          · exact fun A W sz ot hbel ap dp => kY (yLoadHsAt _ p0 a (fun _ e => by cases e; exact cells_below hc0 hbel) rfl rfl (tD dp 6 .data)) (sVB ap sz (Below.refl _ _) rfl)
          · exact fun A W sz ot hbel ap dp => kAllocL _ _ rfl rfl zero_Hash (fun W1 hR hz hB' => sAB ap sz hz hB' ⟨_, rfl, hbel.size, hR⟩ rfl)
          · exact fun A W sz ot hbel ap dp => kAllocL _ _ rfl rfl zero_Hash (fun W1 hR hz hB' => sAB ap sz hz hB' ⟨_, rfl, hbel.size, hR⟩ rfl)
          intro w4 hB4
          dsimp only [AllV]
          intro g7 hg7 hR7 g8 hg8 hR8 hap
          dsimp only [putAll, List.take, List.drop]
          go_frame
          have hne : g7 ≠ g8 := fun e => hap 8 (by simp) 9 (by simp) (by decide) g7 rfl (by rw [e]; rfl)
          clear hap hi0 hc0 h78
          cases s
          · go_wp2_with (first
              | ((with_reducible change wpList _ _ _ (Oper.mk none (Op.store _ (Operand.tmp 7) _) _ _ _ _ :: _) _ _); refine kStoreHash _ _ g7 a _ hR7 (tab_size _ _) rfl rfl rfl rfl ?_; intro w5 h75 hW5; have hR85 := hW5.row hR8 (Ne.symm hne); have hB5 := hB4.trans (hW5.below hg7); clear hR7 hR8 hB4 hW5; go_frame)
              | ((with_reducible change wpList _ _ _ (Oper.mk none (Op.store _ (Operand.tmp 8) _) _ _ _ _ :: _) _ _); refine kStoreHash _ _ g8 a _ hR85 (tab_size _ _) rfl rfl rfl rfl ?_; intro w6 h86 hW6; have h76 := hW6.row h75 hne; have hB6 := hB5.trans (hW6.below hg8); have hV6 := hV.below hB6; have hc6 := fun j u e => cells_below hc1 hB6 j u e; clear h75 hR85 hB5 hV hW6 hc1; go_frame)
              | ((with_reducible change wpList _ _ _ (Oper.mk (some 37) _ _ _ _ _ :: _) _ _); refine kAddI _ _ _ _ (i : Int) 1 ((i + 1 : Nat) : Int) (by omega) rfl rfl rfl rfl ?_; go_frame)
              | ((with_reducible change wpList _ _ _ (Oper.mk (some 39) _ _ _ _ _ :: _) _ _); refine kY (yLenHs _ v l N (fun _ e => by cases e; exact hV6) hN rfl rfl rfl) ?_; go_frame)
              | ((with_reducible change wpList _ _ _ (Oper.mk (some 40) _ _ _ _ _ :: _) _ _); refine kLssI _ _ _ _ .i64 ((i + 1 : Nat) : Int) (N : Int) true rfl rfl rfl rfl hd2 ?_; go_frame)
              | ((with_reducible change wpList _ _ _ (Oper.mk (some 43) _ _ _ _ _ :: _) _ _); refine kAddI _ _ _ _ (i : Int) 1 ((i + 1 : Nat) : Int) (by omega) rfl rfl rfl rfl ?_; go_frame)
              | ((with_reducible change wpList _ _ _ (Oper.mk (some 44) _ _ _ _ _ :: _) _ _); refine kY (yIndexAt _ _ _ _ (i + 1) p1 hi1 rfl rfl rfl rfl) ?_; go_frame)
              | ((with_reducible change wpList _ _ _ (Oper.mk (some 45) _ _ _ _ _ :: _) _ _); refine kY (yLoadHsAt _ p1 b (fun _ e => by cases e; exact hc6) rfl rfl rfl) ?_; go_frame)
              | (guard_hyp hc6; (with_reducible change wpList _ _ _ (Oper.mk none (Op.store _ (Operand.tmp 8) _) _ _ _ _ :: _) _ _); refine kStoreHash _ _ g8 b _ h86 (tab_size _ _) rfl rfl rfl rfl ?_; intro w7 h87 hW7; clear hc6; have h77 := hW7.row h76 hne; have hB7 := hB6.trans (hW7.below hg8); have hO7 := hO.below hB7; have hRA7 := hRA.below hB7 hRA.lt; have hB07 := hB.trans (hB7.mono hB.size); clear h86 h76 hO hRA hB hB6 hB7 hW7 hV6; go_frame)
              | ((with_reducible change wpList _ _ _ (Oper.mk (some 48) _ _ _ _ _ :: _) _ _); refine kLoadHash _ g7 a h77 rfl rfl rfl ?_; go_frame)
              | ((with_reducible change wpList _ _ _ (Oper.mk (some 49) _ _ _ _ _ :: _) _ _); refine kLoadHash _ g8 b h87 rfl rfl rfl ?_; go_frame)
              | ((with_reducible change wpList _ _ _ (Oper.mk (some 50) _ _ _ _ _ :: _) _ _); refine kEqlHash _ _ _ a b (decide (a = b)) ha32 hb32 rfl rfl rfl rfl rfl ?_; go_frame))
            refine region_mixD [(0, true), (2, true), (4, true), (1, false), (3, false), (5, false), (6, false), (7, false), (8, false), (9, true)] (fun _ => True) (by kernel_rfl) (by kernel_rfl) rfl ?_
            intro z0 hBd hsd
            clear hsd
            have hS : True := trivial
            have h7 := h77.below hBd h77.lt
            have h8 := h87.below hBd h87.lt
            have hOz := hO7.below hBd
            have hRz := hRA7.below hBd hRA7.lt
            have hBz := hB07.trans (hBd.mono hB07.size)
            have hsz := Nat.lt_of_lt_of_le hRA7.lt hBd.size
            clear h77 h87 hO7 hRA7 hB07 hBd
            simp only [List.map_cons, List.map_nil]
            dsimp only [List.filterMap, List.getElem?_cons_zero, List.getElem?_cons_succ]
            refine dY _ hS (yMove _ _ rfl rfl rfl) ?_; go_frame
            refine dY _ hS (ySliceArrC Tryz.underlying24 info_b8P _ g7 0 rfl rfl rfl) ?_; go_frame
            refine dY _ hS (ySliceArrC Tryz.underlying24 info_b8P _ g8 0 rfl rfl rfl) ?_; go_frame
            refine dLoud ?_
            refine kBuildSlice0 _ _ rfl rfl Tryz.underlying38 ib hib ?_
            intro z1 hRe hze hB1
            clear hze
            have hE : OwnB z1 z0.heap.size (.slice (some ⟨z0.heap.size, 0, none⟩) 0 0) [] := ownB_empty (Nat.le_refl _) hRe
            refine mixOn ⟨_, (fun _ h => h), hS, ?_⟩
            go_frame
            refine dLoud ?_
            refine kAppB _ _ rfl rfl z0.heap.size _ _ [] a hE (row_vals (h7.below hB1 h7.lt) ha32) rfl rfl (by simp [ha32]) hB1.size ?_
            intro v2 z2 hE2 hBq
            have hB2 := hB1.trans hBq
            clear hE hRe hB1 hBq
            refine mixOn ⟨_, (fun _ h => h), hS, ?_⟩
            go_frame
            refine dLoud ?_
            refine kAppB _ _ rfl rfl z0.heap.size v2 _ ([] ++ a) b hE2 (row_vals (h8.below hB2 h8.lt) hb32) rfl rfl (by simp [ha32, hb32]) hB2.size ?_
            intro v3 z3 hE3 hBq
            have hB3 := hB2.trans hBq
            clear hE2 hB2 hBq
            refine mixOn ⟨_, (fun _ h => h), hS, ?_⟩
            go_frame
            refine dLoud ?_
            refine kCall1 40 _ _ _ rfl rfl (by kernel_rfl) rfl ?_
            refine (rTwice_any ([] ++ a ++ b) v3 z3 hE3.vals (by simp [ha32, hb32])).mono ?_
            rintro e4 z4 ⟨rfl, hBq⟩
            have hB4 := hB3.trans (hBq.mono hB3.size)
            clear hE3 hB3 hBq
            refine ⟨_, rfl, mixOn ⟨_, (fun _ h => h), hS, ?_⟩⟩
            go_frame
            refine dLoud ?_
            refine kBuildHs1 _ (pairL a b) rfl rfl rfl ?_
            intro z5 hR5 hz5 hBq
            clear hz5
            have hB5 := hB4.trans (hBq.mono hB4.size)
            clear hB4 hBq
            refine mixOn ⟨_, (fun _ h => h), hS, ?_⟩
            go_frame
            refine dLoud ?_
            refine kAppHs _ _ rfl rfl (W0.heap.size + 1) _ _ X [pairL a b] rfl (hOz.below hB5) rfl (isRows_one hR5 (hashR_len _) : HashesOf z5 _ [pairL a b]) (by simp; omega) (Nat.le_trans hsz hB5.size) ?_
            intro v6 z6 hO6 hBq hgr
            have hR6 := (hRz.below hB5 hRz.lt).below hBq (Nat.lt_succ_self _)
            have hB6 := (hBz.trans (hB5.mono hBz.size)).trans (hBq.mono (Nat.le_succ _))
            have hl7 := Nat.lt_of_lt_of_le h7.lt (Nat.le_trans hB5.size hBq.size)
            have hl8 := Nat.lt_of_lt_of_le h8.lt (Nat.le_trans hB5.size hBq.size)
            clear hOz hRz hBz hB5 hBq hgr hR5 hsz h7 h8
            refine mixOn ⟨_, (fun _ h => h), hS, ?_⟩
            go_frame
            refine dY _ hS (yAssign _ v6 rfl rfl rfl) ?_; go_frame
            refine dDone ?_
            go_wp2_with (first
              | ((with_reducible change wpList _ _ _ (Oper.mk (some 27) _ _ _ _ _ :: _) _ _); refine kAddI _ _ _ _ (i : Int) 2 ((i + 2 : Nat) : Int) (by omega) rfl rfl rfl rfl ?_; go_frame))
            go_roundw
            case rel => exact ⟨i + 2, X ++ [pairL a b], (decide (a = b)), rfl, rfl, by omega, by rw [List.length_append]; exact Nat.le_trans (Nat.succ_le_succ hX) (Nat.le_succ _), hO6, by rw [e1, hja]; simp, by rw [e2, hja]; try simp, ap2_two hl7 hl8 hne, hR6, hB6⟩
            case measure => simp [intOf]; omega
          · go_wp2_with (first
              | ((with_reducible change wpList _ _ _ (Oper.mk none (Op.store _ (Operand.tmp 7) _) _ _ _ _ :: _) _ _); refine kStoreHash _ _ g7 a _ hR7 (tab_size _ _) rfl rfl rfl rfl ?_; intro w5 h75 hW5; have hR85 := hW5.row hR8 (Ne.symm hne); have hB5 := hB4.trans (hW5.below hg7); clear hR7 hR8 hB4 hW5; go_frame)
              | ((with_reducible change wpList _ _ _ (Oper.mk none (Op.store _ (Operand.tmp 8) _) _ _ _ _ :: _) _ _); refine kStoreHash _ _ g8 a _ hR85 (tab_size _ _) rfl rfl rfl rfl ?_; intro w6 h86 hW6; have h76 := hW6.row h75 hne; have hB6 := hB5.trans (hW6.below hg8); have hV6 := hV.below hB6; have hc6 := fun j u e => cells_below hc1 hB6 j u e; clear h75 hR85 hB5 hV hW6 hc1; go_frame)
              | ((with_reducible change wpList _ _ _ (Oper.mk (some 37) _ _ _ _ _ :: _) _ _); refine kAddI _ _ _ _ (i : Int) 1 ((i + 1 : Nat) : Int) (by omega) rfl rfl rfl rfl ?_; go_frame)
              | ((with_reducible change wpList _ _ _ (Oper.mk (some 39) _ _ _ _ _ :: _) _ _); refine kY (yLenHs _ v l N (fun _ e => by cases e; exact hV6) hN rfl rfl rfl) ?_; go_frame)
              | ((with_reducible change wpList _ _ _ (Oper.mk (some 40) _ _ _ _ _ :: _) _ _); refine kLssI _ _ _ _ .i64 ((i + 1 : Nat) : Int) (N : Int) true rfl rfl rfl rfl hd2 ?_; go_frame)
              | ((with_reducible change wpList _ _ _ (Oper.mk (some 43) _ _ _ _ _ :: _) _ _); refine kAddI _ _ _ _ (i : Int) 1 ((i + 1 : Nat) : Int) (by omega) rfl rfl rfl rfl ?_; go_frame)
              | ((with_reducible change wpList _ _ _ (Oper.mk (some 44) _ _ _ _ _ :: _) _ _); refine kY (yIndexAt _ _ _ _ (i + 1) p1 hi1 rfl rfl rfl rfl) ?_; go_frame)
              | ((with_reducible change wpList _ _ _ (Oper.mk (some 45) _ _ _ _ _ :: _) _ _); refine kY (yLoadHsAt _ p1 b (fun _ e => by cases e; exact hc6) rfl rfl rfl) ?_; go_frame)
              | (guard_hyp hc6; (with_reducible change wpList _ _ _ (Oper.mk none (Op.store _ (Operand.tmp 8) _) _ _ _ _ :: _) _ _); refine kStoreHash _ _ g8 b _ h86 (tab_size _ _) rfl rfl rfl rfl ?_; intro w7 h87 hW7; clear hc6; have h77 := hW7.row h76 hne; have hB7 := hB6.trans (hW7.below hg8); have hO7 := hO.below hB7; have hRA7 := hRA.below hB7 hRA.lt; have hB07 := hB.trans (hB7.mono hB.size); clear h86 h76 hO hRA hB hB6 hB7 hW7 hV6; go_frame))
            refine region_mixD [(0, true), (2, true), (4, true), (1, false), (3, false), (5, false), (6, false), (7, false), (8, false), (9, true)] (fun _ => True) (by kernel_rfl) (by kernel_rfl) rfl ?_
            intro z0 hBd hsd
            clear hsd
            have hS : True := trivial
            have h7 := h77.below hBd h77.lt
            have h8 := h87.below hBd h87.lt
            have hOz := hO7.below hBd
            have hRz := hRA7.below hBd hRA7.lt
            have hBz := hB07.trans (hBd.mono hB07.size)
            have hsz := Nat.lt_of_lt_of_le hRA7.lt hBd.size
            clear h77 h87 hO7 hRA7 hB07 hBd
            simp only [List.map_cons, List.map_nil]
            dsimp only [List.filterMap, List.getElem?_cons_zero, List.getElem?_cons_succ]
            refine dY _ hS (yMove _ _ rfl rfl rfl) ?_; go_frame
            refine dY _ hS (ySliceArrC Tryz.underlying24 info_b8P _ g7 0 rfl rfl rfl) ?_; go_frame
            refine dY _ hS (ySliceArrC Tryz.underlying24 info_b8P _ g8 0 rfl rfl rfl) ?_; go_frame
            refine dLoud ?_
            refine kBuildSlice0 _ _ rfl rfl Tryz.underlying38 ib hib ?_
            intro z1 hRe hze hB1
            clear hze
            have hE : OwnB z1 z0.heap.size (.slice (some ⟨z0.heap.size, 0, none⟩) 0 0) [] := ownB_empty (Nat.le_refl _) hRe
            refine mixOn ⟨_, (fun _ h => h), hS, ?_⟩
            go_frame
            refine dLoud ?_
            refine kAppB _ _ rfl rfl z0.heap.size _ _ [] a hE (row_vals (h7.below hB1 h7.lt) ha32) rfl rfl (by simp [ha32]) hB1.size ?_
            intro v2 z2 hE2 hBq
            have hB2 := hB1.trans hBq
            clear hE hRe hB1 hBq
            refine mixOn ⟨_, (fun _ h => h), hS, ?_⟩
            go_frame
            refine dLoud ?_
            refine kAppB _ _ rfl rfl z0.heap.size v2 _ ([] ++ a) b hE2 (row_vals (h8.below hB2 h8.lt) hb32) rfl rfl (by simp [ha32, hb32]) hB2.size ?_
            intro v3 z3 hE3 hBq
            have hB3 := hB2.trans hBq
            clear hE2 hB2 hBq
            refine mixOn ⟨_, (fun _ h => h), hS, ?_⟩
            go_frame
            refine dLoud ?_
            refine kCall1 40 _ _ _ rfl rfl (by kernel_rfl) rfl ?_
            refine (rTwice_any ([] ++ a ++ b) v3 z3 hE3.vals (by simp [ha32, hb32])).mono ?_
            rintro e4 z4 ⟨rfl, hBq⟩
            have hB4 := hB3.trans (hBq.mono hB3.size)
            clear hE3 hB3 hBq
            refine ⟨_, rfl, mixOn ⟨_, (fun _ h => h), hS, ?_⟩⟩
            go_frame
            refine dLoud ?_
            refine kBuildHs1 _ (pairL a b) rfl rfl rfl ?_
            intro z5 hR5 hz5 hBq
            clear hz5
            have hB5 := hB4.trans (hBq.mono hB4.size)
            clear hB4 hBq
            refine mixOn ⟨_, (fun _ h => h), hS, ?_⟩
            go_frame
            refine dLoud ?_
            refine kAppHs _ _ rfl rfl (W0.heap.size + 1) _ _ X [pairL a b] rfl (hOz.below hB5) rfl (isRows_one hR5 (hashR_len _) : HashesOf z5 _ [pairL a b]) (by simp; omega) (Nat.le_trans hsz hB5.size) ?_
            intro v6 z6 hO6 hBq hgr
            have hR6 := (hRz.below hB5 hRz.lt).below hBq (Nat.lt_succ_self _)
            have hB6 := (hBz.trans (hB5.mono hBz.size)).trans (hBq.mono (Nat.le_succ _))
            have hl7 := Nat.lt_of_lt_of_le h7.lt (Nat.le_trans hB5.size hBq.size)
            have hl8 := Nat.lt_of_lt_of_le h8.lt (Nat.le_trans hB5.size hBq.size)
            clear hOz hRz hBz hB5 hBq hgr hR5 hsz h7 h8
            refine mixOn ⟨_, (fun _ h => h), hS, ?_⟩
            go_frame
            refine dY _ hS (yAssign _ v6 rfl rfl rfl) ?_; go_frame
            refine dDone ?_
            go_wp2_with (first
              | ((with_reducible change wpList _ _ _ (Oper.mk (some 27) _ _ _ _ _ :: _) _ _); refine kAddI _ _ _ _ (i : Int) 2 ((i + 2 : Nat) : Int) (by omega) rfl rfl rfl rfl ?_; go_frame))
            go_roundw
            case rel => exact ⟨i + 2, X ++ [pairL a b], true, rfl, rfl, by omega, by rw [List.length_append]; exact Nat.le_trans (Nat.succ_le_succ hX) (Nat.le_succ _), hO6, by rw [e1, hja]; simp, by rw [e2, hja]; try simp, ap2_two hl7 hl8 hne, hR6, hB6⟩
            case measure => simp [intOf]; omega
        · have hd2 : decide (((i + 1 : Nat) : Int) < (N : Int)) = false := by simp; omega
          have hja := hja.2 (by omega)
          have hb32 := ha32
          go_wp2_with (first
            | ((with_reducible change wpList _ _ _ (Oper.mk (some 24) _ _ _ _ _ :: _) _ _); refine kY (yLenHs _ v l N (fun _ e => by cases e; exact hV) hN rfl rfl rfl) ?_; go_frame)
            | ((with_reducible change wpList _ _ _ (Oper.mk (some 25) _ _ _ _ _ :: _) _ _); refine kLssI _ _ _ _ .i64 (i : Int) (N : Int) true rfl rfl rfl rfl hd ?_; go_frame))
          refine wp_region_any (by kernel_rfl) ?_
          refine region_symT_any 10 _ [8, 9] [7, 8] [.val (v), .val (.int .i64 (i : Int)), .val (.pointer (some p0)), .val (HV a), .val (v), .val (.int .i64 (i : Int)), .val (.pointer (some p0)), .val (HV a), .hold wr.heap.size 24 (tab 32 fun _ => VB 0), .hold wr.heap.size 24 (tab 32 fun _ => VB 0)] rfl (by kernel_rfl) (by kernel_rfl) (by kernel_rfl) rfl (ap2_all h78) (steps_all ⟨?_, ?_, ?_, ?_, ?_, ?_, ?_, ?_, ?_, ?_, trivial⟩) ?_
          · exact fun A W sz ot hbel ap dp => kMoveV _ _ rfl rfl (tO ot 0) (sVB ap sz (Below.refl _ _) rfl)
          · exact fun A W sz ot hbel ap dp => kMoveV _ _ rfl rfl (tO ot 6) (sVB ap sz (Below.refl _ _) rfl)
          · exact fun A W sz ot hbel ap dp => kY (yIndexAt _ _ _ v i p0 hi0 rfl rfl (tD dp 0 .data) (tD dp 1 .data)) (sVB ap sz (Below.refl _ _) rfl)
          · exact fun A W sz ot hbel ap dp => kY (yLoadHsAt _ p0 a (fun _ e => by cases e; exact cells_below hc0 hbel) rfl rfl (tD dp 2 .data)) (sVB ap sz (Below.refl _ _) rfl)
          · exact fun A W sz ot hbel ap dp => kMoveV _ _ rfl rfl (tO ot 0) (sVB ap sz (Below.refl _ _) rfl)
          · exact fun A W sz ot hbel ap dp => kMoveV _ _ rfl rfl (tO ot 6) (sVB ap sz (Below.refl _ _) rfl)
          · exact fun A W sz ot hbel ap dp => kY (yIndexAt _ _ _ v i p0 hi0 rfl rfl (tD dp 4 .data) (tD dp 5 .data)) (sVB ap sz (Below.refl _ _) rfl)
          · exact fun A W sz ot hbel ap dp => kY (yLoadHsAt _ p0 a (fun _ e => by cases e; exact cells_below hc0 hbel) rfl rfl (tD dp 6 .data)) (sVB ap sz (Below.refl _ _) rfl)
          · exact fun A W sz ot hbel ap dp => kAllocL _ _ rfl rfl zero_Hash (fun W1 hR hz hB' => sAB ap sz hz hB' ⟨_, rfl, hbel.size, hR⟩ rfl)
          · exact fun A W sz ot hbel ap dp => kAllocL _ _ rfl rfl zero_Hash (fun W1 hR hz hB' => sAB ap sz hz hB' ⟨_, rfl, hbel.size, hR⟩ rfl)
          intro w4 hB4
          dsimp only [AllV]
          intro g7 hg7 hR7 g8 hg8 hR8 hap
          dsimp only [putAll, List.take, List.drop]
          go_frame
          have hne : g7 ≠ g8 := fun e => hap 8 (by simp) 9 (by simp) (by decide) g7 rfl (by rw [e]; rfl)
          clear hap hi0 hc0 h78
          go_wp2_with (first
            | ((with_reducible change wpList _ _ _ (Oper.mk none (Op.store _ (Operand.tmp 7) _) _ _ _ _ :: _) _ _); refine kStoreHash _ _ g7 a _ hR7 (tab_size _ _) rfl rfl rfl rfl ?_; intro w5 h75 hW5; have hR85 := hW5.row hR8 (Ne.symm hne); have hB5 := hB4.trans (hW5.below hg7); clear hR7 hR8 hB4 hW5; go_frame)
            | ((with_reducible change wpList _ _ _ (Oper.mk none (Op.store _ (Operand.tmp 8) _) _ _ _ _ :: _) _ _); refine kStoreHash _ _ g8 a _ hR85 (tab_size _ _) rfl rfl rfl rfl ?_; intro w6 h86 hW6; have h76 := hW6.row h75 hne; have hB6 := hB5.trans (hW6.below hg8); have hV6 := hV.below hB6; have hO6 := hO.below hB6; have hRA6 := hRA.below hB6 hRA.lt; have hB06 := hB.trans (hB6.mono hB.size); clear h75 hR85 hB5 hV hO hRA hB hW6; go_frame)
            | ((with_reducible change wpList _ _ _ (Oper.mk (some 37) _ _ _ _ _ :: _) _ _); refine kAddI _ _ _ _ (i : Int) 1 ((i + 1 : Nat) : Int) (by omega) rfl rfl rfl rfl ?_; go_frame)
            | ((with_reducible change wpList _ _ _ (Oper.mk (some 39) _ _ _ _ _ :: _) _ _); refine kY (yLenHs _ v l N (fun _ e => by cases e; exact hV6) hN rfl rfl rfl) ?_; go_frame)
            | ((with_reducible change wpList _ _ _ (Oper.mk (some 40) _ _ _ _ _ :: _) _ _); refine kLssI _ _ _ _ .i64 ((i + 1 : Nat) : Int) (N : Int) false rfl rfl rfl rfl hd2 ?_; go_frame))
          refine region_mixD [(0, true), (2, true), (4, true), (1, false), (3, false), (5, false), (6, false), (7, false), (8, false), (9, true)] (fun _ => True) (by kernel_rfl) (by kernel_rfl) rfl ?_
          intro z0 hBd hsd
          clear hsd
          have hS : True := trivial
          have h7 := h76.below hBd h76.lt
          have h8 := h86.below hBd h86.lt
          have hOz := hO6.below hBd
          have hRz := hRA6.below hBd hRA6.lt
          have hBz := hB06.trans (hBd.mono hB06.size)
          have hsz := Nat.lt_of_lt_of_le hRA6.lt hBd.size
          clear h76 h86 hO6 hRA6 hB06 hBd
          simp only [List.map_cons, List.map_nil]
          dsimp only [List.filterMap, List.getElem?_cons_zero, List.getElem?_cons_succ]
          refine dY _ hS (yMove _ _ rfl rfl rfl) ?_; go_frame
          refine dY _ hS (ySliceArrC Tryz.underlying24 info_b8P _ g7 0 rfl rfl rfl) ?_; go_frame
          refine dY _ hS (ySliceArrC Tryz.underlying24 info_b8P _ g8 0 rfl rfl rfl) ?_; go_frame
          refine dLoud ?_
          refine kBuildSlice0 _ _ rfl rfl Tryz.underlying38 ib hib ?_
          intro z1 hRe hze hB1
          clear hze
          have hE : OwnB z1 z0.heap.size (.slice (some ⟨z0.heap.size, 0, none⟩) 0 0) [] := ownB_empty (Nat.le_refl _) hRe
          refine mixOn ⟨_, (fun _ h => h), hS, ?_⟩
          go_frame
          refine dLoud ?_
          refine kAppB _ _ rfl rfl z0.heap.size _ _ [] a hE (row_vals (h7.below hB1 h7.lt) ha32) rfl rfl (by simp [ha32]) hB1.size ?_
          intro v2 z2 hE2 hBq
          have hB2 := hB1.trans hBq
          clear hE hRe hB1 hBq
          refine mixOn ⟨_, (fun _ h => h), hS, ?_⟩
          go_frame
          refine dLoud ?_
          refine kAppB _ _ rfl rfl z0.heap.size v2 _ ([] ++ a) a hE2 (row_vals (h8.below hB2 h8.lt) hb32) rfl rfl (by simp [ha32]) hB2.size ?_
          intro v3 z3 hE3 hBq
          have hB3 := hB2.trans hBq
          clear hE2 hB2 hBq
          refine mixOn ⟨_, (fun _ h => h), hS, ?_⟩
          go_frame
          refine dLoud ?_
          refine kCall1 40 _ _ _ rfl rfl (by kernel_rfl) rfl ?_
          refine (rTwice_any ([] ++ a ++ a) v3 z3 hE3.vals (by simp [ha32])).mono ?_
          rintro e4 z4 ⟨rfl, hBq⟩
          have hB4 := hB3.trans (hBq.mono hB3.size)
          clear hE3 hB3 hBq
          refine ⟨_, rfl, mixOn ⟨_, (fun _ h => h), hS, ?_⟩⟩
          go_frame
          refine dLoud ?_
          refine kBuildHs1 _ (pairL a a) rfl rfl rfl ?_
          intro z5 hR5 hz5 hBq
          clear hz5
          have hB5 := hB4.trans (hBq.mono hB4.size)
          clear hB4 hBq
          refine mixOn ⟨_, (fun _ h => h), hS, ?_⟩
          go_frame
          refine dLoud ?_
          refine kAppHs _ _ rfl rfl (W0.heap.size + 1) _ _ X [pairL a a] rfl (hOz.below hB5) rfl (isRows_one hR5 (hashR_len _) : HashesOf z5 _ [pairL a a]) (by simp; omega) (Nat.le_trans hsz hB5.size) ?_
          intro v6 z6 hO6 hBq hgr
          have hR6 := (hRz.below hB5 hRz.lt).below hBq (Nat.lt_succ_self _)
          have hB6 := (hBz.trans (hB5.mono hBz.size)).trans (hBq.mono (Nat.le_succ _))
          have hl7 := Nat.lt_of_lt_of_le h7.lt (Nat.le_trans hB5.size hBq.size)
          have hl8 := Nat.lt_of_lt_of_le h8.lt (Nat.le_trans hB5.size hBq.size)
          clear hOz hRz hBz hB5 hBq hgr hR5 hsz h7 h8
          refine mixOn ⟨_, (fun _ h => h), hS, ?_⟩
          go_frame
          refine dY _ hS (yAssign _ v6 rfl rfl rfl) ?_; go_frame
          refine dDone ?_
          go_wp2_with (first
            | ((with_reducible change wpList _ _ _ (Oper.mk (some 27) _ _ _ _ _ :: _) _ _); refine kAddI _ _ _ _ (i : Int) 2 ((i + 2 : Nat) : Int) (by omega) rfl rfl rfl rfl ?_; go_frame))
          go_roundw
          case rel => exact ⟨i + 2, X ++ [pairL a a], s, rfl, rfl, by omega, by rw [List.length_append]; exact Nat.le_trans (Nat.succ_le_succ hX) (Nat.le_succ _), hO6, by rw [e1, hja]; simp, by rw [e2, hja]; try simp, ap2_two hl7 hl8 hne, hR6, hB6⟩
          case measure => simp [intOf]; omega
      · have hd : decide ((i : Int) < (N : Int)) = false := by simp; omega
        rw [List.drop_of_length_le (by omega)] at e1 e2
        have e1' : (joinL l).1 = X := by rw [e1]; simp [joinL]
        have e2' : (joinL l).2 = s := by rw [e2]; simp [joinL]
        rw [e1', e2'] at hst
        rw [e1'] at hJl hJ32
        clear e1 e2 e1' e2' h78
        have hih := ih X _ wr (by omega) hO.of hJ32 (by omega)
        obtain ⟨r1, hr1⟩ : ∃ r, (rootL X).1 = r := ⟨_, rfl⟩
        obtain ⟨r2, hr2⟩ : ∃ r, (rootL X).2 = r := ⟨_, rfl⟩
        rw [hr1, hr2] at hst hih
        have f1 : (rootL l).1 = r1 := by rw [hst]
        have f2 : (rootL l).2 = (s || r2) := by rw [hst]
        clear hst hr1 hr2 hJl hJ32 ih
        cases s
        · go_wp2_with (first
            | ((with_reducible change wpList _ _ _ (Oper.mk (some 24) _ _ _ _ _ :: _) _ _); refine kY (yLenHs _ v l N (fun _ e => by cases e; exact hV) hN rfl rfl rfl) ?_; go_frame)
            | ((with_reducible change wpList _ _ _ (Oper.mk (some 25) _ _ _ _ _ :: _) _ _); refine kLssI _ _ _ _ .i64 (i : Int) (N : Int) false rfl rfl rfl rfl hd ?_; go_frame)
            | (go_at_call 18; refine (hih).mono ?_; rintro e w5 ⟨rfl, hBq⟩; have hRA5 := hRA.below hBq hRA.lt; have hB5 := hB.trans (hBq.mono hB.size); clear hRA hB hBq hih hO hV; go_frame)
            | ((with_reducible change wpList _ _ _ (Oper.mk (some 64) _ _ _ _ _ :: _) _ _); refine kY (yExtract _ 0 _ (HV r1) rfl rfl rfl rfl) ?_; go_frame)
            | ((with_reducible change wpList _ _ _ (Oper.mk (some 65) _ _ _ _ _ :: _) _ _); refine kY (yExtract _ 1 _ (.bool r2) rfl rfl rfl rfl) ?_; go_frame)
            | ((with_reducible change wpList _ _ _ (Oper.mk (some 9) _ _ _ _ _ :: _) _ _); refine kAllocL _ _ rfl rfl zero_Hash ?_; intro w6 hRN hz6 hBq; clear hz6; have hRA6 := hRA5.below hBq hRA5.lt; have hne : W0.heap.size ≠ w5.heap.size := Nat.ne_of_lt hRA5.lt; have hB6 := hB5.trans (hBq.mono hB5.size); have hlt5 : Hid (W0.heap.size ≤ w5.heap.size) := hB5.size; clear hRA5 hB5 hBq; go_frame)
            | ((with_reducible change wpList _ _ _ (Oper.mk none (Op.store _ (Operand.tmp 9) _) _ _ _ _ :: _) _ _); refine kStoreHash _ _ w5.heap.size r1 _ hRN (tab_size _ _) rfl rfl rfl rfl ?_; intro w7 hRN7 hW7; have hRA7 := hW7.row hRA6 hne; have hB7 := hB6.trans (hW7.below hlt5.out); clear hRA6 hB6 hW7 hne hlt5; go_frame)
            | ((with_reducible change wpList _ _ _ (Oper.mk (some 66) _ _ _ _ _ :: _) _ _); refine kLoadHash _ w5.heap.size r1 hRN7 rfl rfl rfl ?_; go_frame)
            | ((with_reducible change wpList _ _ _ (Oper.mk none (Op.store _ (Operand.tmp 2) _) _ _ _ _ :: _) _ _); refine kStoreHash _ _ W0.heap.size r1 _ hRA7 (tab_size _ _) rfl rfl rfl rfl ?_; intro w9 hRA9 hW9; have hB9 := hB7.trans (hW9.below (Nat.le_refl _)); clear hRA7 hB7 hW9; go_frame))
          (try simp only [Exit.inBlock, Exit.then])
          exact result_row_tmp rfl rfl rfl hRA9 Tryz.underlying24 rfl info_HashT rfl ⟨by (try rw [f1]); (try rw [f2]); (try simp only [Bool.false_or]); rfl, hB9⟩
        · go_wp2_with (first
            | ((with_reducible change wpList _ _ _ (Oper.mk (some 24) _ _ _ _ _ :: _) _ _); refine kY (yLenHs _ v l N (fun _ e => by cases e; exact hV) hN rfl rfl rfl) ?_; go_frame)
            | ((with_reducible change wpList _ _ _ (Oper.mk (some 25) _ _ _ _ _ :: _) _ _); refine kLssI _ _ _ _ .i64 (i : Int) (N : Int) false rfl rfl rfl rfl hd ?_; go_frame)
            | (go_at_call 18; refine (hih).mono ?_; rintro e w5 ⟨rfl, hBq⟩; have hRA5 := hRA.below hBq hRA.lt; have hB5 := hB.trans (hBq.mono hB.size); clear hRA hB hBq hih hO hV; go_frame)
            | ((with_reducible change wpList _ _ _ (Oper.mk (some 64) _ _ _ _ _ :: _) _ _); refine kY (yExtract _ 0 _ (HV r1) rfl rfl rfl rfl) ?_; go_frame)
            | ((with_reducible change wpList _ _ _ (Oper.mk (some 65) _ _ _ _ _ :: _) _ _); refine kY (yExtract _ 1 _ (.bool r2) rfl rfl rfl rfl) ?_; go_frame)
            | ((with_reducible change wpList _ _ _ (Oper.mk (some 9) _ _ _ _ _ :: _) _ _); refine kAllocL _ _ rfl rfl zero_Hash ?_; intro w6 hRN hz6 hBq; clear hz6; have hRA6 := hRA5.below hBq hRA5.lt; have hne : W0.heap.size ≠ w5.heap.size := Nat.ne_of_lt hRA5.lt; have hB6 := hB5.trans (hBq.mono hB5.size); have hlt5 : Hid (W0.heap.size ≤ w5.heap.size) := hB5.size; clear hRA5 hB5 hBq; go_frame)
            | ((with_reducible change wpList _ _ _ (Oper.mk none (Op.store _ (Operand.tmp 9) _) _ _ _ _ :: _) _ _); refine kStoreHash _ _ w5.heap.size r1 _ hRN (tab_size _ _) rfl rfl rfl rfl ?_; intro w7 hRN7 hW7; have hRA7 := hW7.row hRA6 hne; have hB7 := hB6.trans (hW7.below hlt5.out); clear hRA6 hB6 hW7 hne hlt5; go_frame)
            | ((with_reducible change wpList _ _ _ (Oper.mk (some 66) _ _ _ _ _ :: _) _ _); refine kLoadHash _ w5.heap.size r1 hRN7 rfl rfl rfl ?_; go_frame)
            | ((with_reducible change wpList _ _ _ (Oper.mk none (Op.store _ (Operand.tmp 2) _) _ _ _ _ :: _) _ _); refine kStoreHash _ _ W0.heap.size r1 _ hRA7 (tab_size _ _) rfl rfl rfl rfl ?_; intro w9 hRA9 hW9; have hB9 := hB7.trans (hW9.below (Nat.le_refl _)); clear hRA7 hB7 hW9; go_frame))
          (try simp only [Exit.inBlock, Exit.then])
          exact result_row_tmp rfl rfl rfl hRA9 Tryz.underlying24 rfl info_HashT rfl ⟨by (try rw [f1]); (try rw [f2]); (try simp only [Bool.true_or]); rfl, hB9⟩
theorem xRoot_any {l : List (List UInt8)} {v : Value} (W0 : World) (hv : HashesOf W0 v l) (h32 : ∀ x ∈ l, x.length = 32) (hn : l.length ≤ 1000) : Calls Tryz.prog 18 #[v] W0 fun e w' => e = .returned (.tuple #[HV (rootL l).1, .bool (rootL l).2]) ∧ Below W0.heap.size W0 w' := xRoot_all _ l v W0 (Nat.le_refl _) hv h32 hn
end Go.Proofs.YtmfjgehlkbndjaaGreatDoor

/-
  Layer 11: can it be.
-/
namespace Go.Proofs.YtmfjgehlkbndjaaGreatDoor
open Go Go.RowKit Go.Shelf

attribute [local go_sem] Oper.semAt_some
def isBase (t : TxP) : Bool := baseB t.ins
theorem drop_at {l : List TxP} {k : Nat} {t : TxP} (h : l[k]? = some t) : l.drop k = t :: l.drop (k + 1) := by
  obtain ⟨hk, rfl⟩ := List.getElem?_eq_some_iff.1 h
  exact List.drop_eq_getElem_cons hk
theorem firstE_at {l : List TxP} {k : Nat} {t : TxP} (h : l[k]? = some t) : firstE (l.drop k) = if checkN t ≠ 0 then checkN t else firstE (l.drop (k + 1)) := by rw [drop_at h]; rfl
theorem txs_cut1 {w : World} {v : Value} {l : List TxP} (h : TxsOf w v l) (hl : 1 ≤ l.length) : ∃ ao n c, v = .slice ao n c ∧ 1 ≤ n ∧ TxsOf w (sliced ao 1 n c 4) (l.drop 1) := by
  obtain ⟨zs, e, hr, hz⟩ := h
  have hlen := fst_lenT e
  obtain ⟨⟨ao, c, rfl, hc, -, -⟩, -⟩ := id hr
  rw [List.length_map] at hc
  refine ⟨ao, _, c, rfl, by rw [List.length_map]; omega, zs.drop 1, by rw [List.map_drop, e], ?_, fun z h => hz z (List.mem_of_mem_drop h)⟩
  have h2 := rows_cut hr (l := 1) (q := (zs.map txR).length) (m := c) (by rw [List.length_map]; omega) (Nat.le_refl _) (by rw [List.length_map]; exact hc) (Nat.le_refl _)
  rw [List.take_of_length_le (Nat.le_refl _), ← List.map_drop] at h2
  exact h2
set_option maxRecDepth 100000 in
set_option maxHeartbeats 8000000 in
theorem txIndex_any {l : List TxP} {v : Value} (W0 : World) (ht : TxsOf W0 v l) (his : ∀ t ∈ l, t.Is) (hlen : l.length ≤ 1000) : Calls Tryz.prog 95 #[v, .func (.func 60) #[] #[]] W0 fun e w' => ∃ z : Int, e = .returned (.int .i64 z) ∧ decide (z ≥ 0) = l.any isBase ∧ Below W0.heap.size W0 w' := by
  obtain ⟨zs, es, hT⟩ := id ht
  obtain ⟨N, hN⟩ : ∃ N, l.length = N := ⟨_, rfl⟩
  have hzN : zs.length = N := by rw [fst_lenT es, hN]
  have hN2 : N ≤ 1000 := hN ▸ hlen
  obtain ⟨R, hR⟩ : ∃ R, l.any isBase = R := ⟨_, rfl⟩
  rw [hR]
  go_enter Tryz.func95, Tryz.ntmps95
  go_wp2_with (first
    | ((with_reducible change wpList _ _ _ (Oper.mk (some 7) _ _ _ _ _ :: _) _ _); refine kY (yLenTxs _ v l N (fun _ e => by cases e; exact ht) hN rfl rfl rfl) ?_; go_frame))
  go_loopw [8] (fun x wr => ∃ k : Nat, k ≤ N ∧ x = .int .i64 (k : Int) ∧ (l.drop k).any isBase = R ∧ Below W0.heap.size W0 wr) (fun x _ => N - (intOf x).toNat)
  case atStart => exact ⟨0, by omega, rfl, by rw [List.drop_zero]; exact hR, Below.refl _ _⟩
  case round =>
    clear hR
    obtain ⟨k, hk, rfl, hR, hB⟩ := hrel
    by_cases hlt : k < N
    · have hd : decide ((k : Int) < (N : Int)) = true := by simp; omega
      obtain ⟨z, hz⟩ : ∃ z, zs[k]? = some z := ⟨_, List.getElem?_eq_getElem (by omega)⟩
      have hik := fst_atT es hz
      have hmem := List.mem_of_getElem? hik
      have htI := his _ hmem
      obtain ⟨bd, hbd, hcell⟩ := txs_addr (hT.below hB) hz
      obtain ⟨h1, h2⟩ := hT.2 z (List.mem_of_getElem? hz)
      have hi := h1.below hB
      have ho := h2.below hB
      obtain ⟨⟨t, u1, u2⟩, hze⟩ : ∃ y, y = z := ⟨_, rfl⟩
      subst hze
      dsimp only at hik htI h1 h2 hi ho
      clear h1 h2 hz
      have hti : ∀ i ∈ t.ins, i.id.length = 32 := fun i hi => (htI.2.2.1 i hi).1
      rw [drop_at hik, List.any_cons] at hR
      obtain ⟨c, hc⟩ : ∃ c, isBase t = c := ⟨_, rfl⟩
      rw [hc] at hR
      have hc : baseB t.ins = c := hc
      cases c
      · rw [Bool.false_or] at hR
        go_wp2_with (first
          | ((with_reducible change wpList _ _ _ (Oper.mk (some 9) _ _ _ _ _ :: _) _ _); refine kLssI _ _ _ _ .i64 (k : Int) (N : Int) true rfl rfl rfl rfl hd ?_; go_frame)
          | ((with_reducible change wpList _ _ _ (Oper.mk (some 14) _ _ _ _ _ :: _) _ _); refine kY (yIndexAt _ _ _ v k bd hbd rfl rfl rfl rfl) ?_; go_frame)
          | ((with_reducible change wpList _ _ _ (Oper.mk (some 15) _ _ _ _ _ :: _) _ _); refine kY (yLoadTxAt _ bd (t, u1, u2) (fun _ e => by cases e; exact hcell) rfl rfl rfl) ?_; clear hcell; dsimp only; go_frame)
          | (go_at_call 60; refine (tBase_any _ hi hti).mono ?_; rintro e w2 ⟨rfl, hBq⟩; have hB2 := hB.trans (hBq.mono hB.size); rw [hc]; clear hBq hB; go_frame)
          | ((with_reducible change wpList _ _ _ (Oper.mk (some 18) _ _ _ _ _ :: _) _ _); refine kAddI _ _ _ _ (k : Int) 1 ((k + 1 : Nat) : Int) (by omega) rfl rfl rfl rfl ?_; go_frame))
        go_roundw
        case rel => exact ⟨k + 1, by omega, rfl, hR, hB2⟩
        case measure => simp [intOf]; omega
      · rw [Bool.true_or] at hR
        subst hR
        go_wp2_with (first
          | ((with_reducible change wpList _ _ _ (Oper.mk (some 9) _ _ _ _ _ :: _) _ _); refine kLssI _ _ _ _ .i64 (k : Int) (N : Int) true rfl rfl rfl rfl hd ?_; go_frame)
          | ((with_reducible change wpList _ _ _ (Oper.mk (some 14) _ _ _ _ _ :: _) _ _); refine kY (yIndexAt _ _ _ v k bd hbd rfl rfl rfl rfl) ?_; go_frame)
          | ((with_reducible change wpList _ _ _ (Oper.mk (some 15) _ _ _ _ _ :: _) _ _); refine kY (yLoadTxAt _ bd (t, u1, u2) (fun _ e => by cases e; exact hcell) rfl rfl rfl) ?_; clear hcell; dsimp only; go_frame)
          | (go_at_call 60; refine (tBase_any _ hi hti).mono ?_; rintro e w2 ⟨rfl, hBq⟩; have hB2 := hB.trans (hBq.mono hB.size); rw [hc]; clear hBq hB; go_frame)
          | ((with_reducible change wpList _ _ _ (Oper.mk (some 18) _ _ _ _ _ :: _) _ _); refine kAddI _ _ _ _ (k : Int) 1 ((k + 1 : Nat) : Int) (by omega) rfl rfl rfl rfl ?_; go_frame))
        (try simp only [Exit.inBlock, Exit.then])
        refine retBT rfl rfl ?_
        exact ⟨(k : Int), rfl, by simp, hB2⟩
    · have hd : decide ((k : Int) < (N : Int)) = false := by simp; omega
      have hR1 : false = R := by rw [← hR, List.drop_of_length_le (by omega)]; rfl
      subst hR1
      go_wp2_with (first
        | ((with_reducible change wpList _ _ _ (Oper.mk (some 9) _ _ _ _ _ :: _) _ _); refine kLssI _ _ _ _ .i64 (k : Int) (N : Int) false rfl rfl rfl rfl hd ?_; go_frame))
      go_ret
      exact ⟨-1, rfl, by decide, hB⟩
set_option maxRecDepth 100000 in
set_option maxHeartbeats 8000000 in
theorem txHas_any {l : List TxP} {v : Value} (W0 : World) (ht : TxsOf W0 v l) (his : ∀ t ∈ l, t.Is) (hlen : l.length ≤ 1000) : Calls Tryz.prog 61 #[v, .func (.func 60) #[] #[]] W0 (BoolPost W0 (l.any isBase)) := by
  go_enter Tryz.func61, Tryz.ntmps61
  go_wp2_with (first
    | (go_at_call 95; refine (txIndex_any _ ht his hlen).mono ?_; rintro e w1 ⟨z, rfl, hz, hB⟩; go_frame)
    | ((with_reducible change wpList _ _ _ (Oper.mk (some 8) _ _ _ _ _ :: _) _ _); refine kGeqI _ _ _ _ .i64 z 0 _ rfl rfl rfl rfl hz ?_; go_frame))
  go_ret
  exact ⟨rfl, hB⟩
set_option maxRecDepth 100000 in
set_option maxHeartbeats 8000000 in
theorem blOnce_any {l : List TxP} {v : Value} (W0 : World) (ht : TxsOf W0 v l) (his : ∀ t ∈ l, t.Is) (hlen : l.length ≤ 1000) (hne : 1 ≤ l.length) : Calls Tryz.prog 34 #[v] W0 (BoolPost W0 (onceB l)) := by
  obtain ⟨zs, es, hT⟩ := id ht
  obtain ⟨z, hz⟩ : ∃ z, zs[0]? = some z := ⟨_, List.getElem?_eq_getElem (by rw [fst_lenT es]; omega)⟩
  have hik := fst_atT es hz
  have htI := his _ (List.mem_of_getElem? hik)
  obtain ⟨bd, hbd, hcell⟩ := txs_addr hT hz
  obtain ⟨h1, h2⟩ := hT.2 z (List.mem_of_getElem? hz)
  obtain ⟨⟨t, u1, u2⟩, hze⟩ : ∃ y, y = z := ⟨_, rfl⟩
  subst hze
  dsimp only at hik htI h1 h2
  have hti : ∀ i ∈ t.ins, i.id.length = 32 := fun i hi => (htI.2.2.1 i hi).1
  have hl : l = t :: l.drop 1 := by have := drop_at hik; rwa [List.drop_zero] at this
  have ho : onceB l = (isBase t && !((l.drop 1).any isBase)) := by rw [hl]; rfl
  obtain ⟨ao, n, c, rfl, hn1, hcut⟩ := txs_cut1 ht hne
  have hD : ∀ t ∈ l.drop 1, t.Is := fun t h => his t (List.mem_of_mem_drop h)
  have hDl : (l.drop 1).length ≤ 1000 := by rw [List.length_drop]; omega
  generalize l.drop 1 = m at *
  clear hl hT hz es ht hne hlen his hik htI h2
  rw [ho]
  clear ho
  obtain ⟨c0, hc⟩ : ∃ c, isBase t = c := ⟨_, rfl⟩
  rw [hc]
  have hc : baseB t.ins = c0 := hc
  cases c0
  · go_enter Tryz.func34, Tryz.ntmps34
    go_wp2_with (first
      | ((with_reducible change wpList _ _ _ (Oper.mk (some 4) _ _ _ _ _ :: _) _ _); refine kY (yIndexAt _ _ _ _ 0 bd hbd rfl rfl rfl rfl) ?_; go_frame)
      | ((with_reducible change wpList _ _ _ (Oper.mk (some 5) _ _ _ _ _ :: _) _ _); refine kY (yLoadTxAt _ bd (t, u1, u2) (fun _ e => by cases e; exact hcell) rfl rfl rfl) ?_; clear hcell; dsimp only; go_frame)
      | (go_at_call 60; refine (tBase_any _ h1 hti).mono ?_; rintro e w2 ⟨rfl, hB2⟩; rw [hc]; go_frame))
    go_ret
    exact ⟨rfl, hB2⟩
  · go_enter Tryz.func34, Tryz.ntmps34
    go_wp2_with (first
      | ((with_reducible change wpList _ _ _ (Oper.mk (some 4) _ _ _ _ _ :: _) _ _); refine kY (yIndexAt _ _ _ _ 0 bd hbd rfl rfl rfl rfl) ?_; go_frame)
      | ((with_reducible change wpList _ _ _ (Oper.mk (some 5) _ _ _ _ _ :: _) _ _); refine kY (yLoadTxAt _ bd (t, u1, u2) (fun _ e => by cases e; exact hcell) rfl rfl rfl) ?_; clear hcell; dsimp only; go_frame)
      | (go_at_call 60; refine (tBase_any _ h1 hti).mono ?_; rintro e w2 ⟨rfl, hB2⟩; rw [hc]; go_frame)
      | ((with_reducible change wpList _ _ _ (Oper.mk (some 9) _ _ _ _ _ :: _) _ _); refine kY (ySliceL Tryz.underlying27 info_TxC _ _ ao n c 1 hn1 rfl rfl rfl rfl) ?_; go_frame)
      | (go_at_call 61; refine (txHas_any _ (hcut.below hB2) hD hDl).mono ?_; rintro e w3 ⟨rfl, hB3⟩; go_frame)
      | ((with_reducible change wpList _ _ _ (Oper.mk (some 11) _ _ _ _ _ :: _) _ _); refine kNot _ _ _ rfl rfl rfl ?_; go_frame))
    go_ret
    exact ⟨rfl, hB2.trans (hB3.mono hB2.size)⟩
set_option maxRecDepth 100000 in
set_option maxHeartbeats 8000000 in
theorem blCheck_any {b : BlockP} {v : Value} (W0 : World) (hb : b.Is) (hf : b.Fits) (ht : TxsOf W0 v b.txs) (hK : Keys W0) : Calls Tryz.prog 13 #[.agg (blkC b.head v)] W0 (CheckPost W0 (checkB b)) := by
  obtain ⟨zs, es, hT⟩ := id ht
  obtain ⟨N, hN⟩ : ∃ N, b.txs.length = N := ⟨_, rfl⟩
  have hzN : zs.length = N := by rw [fst_lenT es, hN]
  have hN2 : N ≤ 100 := by rw [← hN]; exact hf.1
  obtain ⟨L, hL⟩ : ∃ L, (blockL b).length = L := ⟨_, rfl⟩
  obtain ⟨ON, hON⟩ : ∃ O, onceB b.txs = O := ⟨_, rfl⟩
  obtain ⟨F, hF⟩ : ∃ F, firstE b.txs = F := ⟨_, rfl⟩
  obtain ⟨r1, hr1⟩ : ∃ r, (rootL (idsL b.txs)).1 = r := ⟨_, rfl⟩
  obtain ⟨r2, hr2⟩ : ∃ r, (rootL (idsL b.txs)).2 = r := ⟨_, rfl⟩
  have hr32 : r1.length = 32 := by rw [← hr1]; exact rootL_len (idsL_32 _)
  have hrt : b.head.root.length = 32 := hb.1.2.2.1
  have his := hb.2
  obtain ⟨R, hR0⟩ : ∃ R, checkB b = R := ⟨_, rfl⟩
  rw [hR0]
  unfold checkB at hR0
  rw [hL, hON, hF, hr1, hr2] at hR0
  obtain ⟨c1, d1⟩ : ∃ c, decide ((N : Int) = 0) = c := ⟨_, rfl⟩
  obtain ⟨c2, d2⟩ : ∃ c, decide ((L : Int) > 20000) = c := ⟨_, rfl⟩
  cases c1
  case true =>
    have h1 : N = 0 := by simpa using d1
    rw [if_pos (List.eq_nil_of_length_eq_zero (hN.trans h1))] at hR0
    subst hR0
    go_enter Tryz.func13, Tryz.ntmps13
    go_wp2_with (first
      | ((with_reducible change wpList _ _ _ (Oper.mk (some 1) _ _ _ _ _ :: _) _ _); refine kBoxL _ _ _ rfl rfl rfl ?_; intro w1 hR hz1 hB; have ht1 := ht.below hB; clear hz1; go_frame)
      | ((with_reducible change wpList _ _ _ (Oper.mk (some 8) _ _ _ _ _ :: _) _ _); refine kY (yFld blkF1 _ _ 0 68 rfl rfl rfl rfl) ?_; go_frame)
      | ((with_reducible change wpList _ _ _ (Oper.mk (some 9) _ _ _ _ _ :: _) _ _); refine kY (yLoad1 _ _ _ W0.heap.size 68 (blkC b.head v) v _ rfl rfl rfl (fun _ e => by cases e; exact hR) Tryz.underlying27 rfl (blkC_68 _ _)) ?_; go_frame)
      | ((with_reducible change wpList _ _ _ (Oper.mk (some 10) _ _ _ _ _ :: _) _ _); refine kY (yLenTxs _ v b.txs N (fun _ e => by cases e; exact ht1) hN rfl rfl rfl) ?_; go_frame)
      | ((with_reducible change wpList _ _ _ (Oper.mk (some 11) _ _ _ _ _ :: _) _ _); refine kEqlI _ _ _ _ .i64 (N : Int) 0 _ rfl rfl rfl rfl d1 ?_; go_frame))
    (try simp only [Exit.inBlock, Exit.then])
    refine retBT rfl rfl ?_
    exact ⟨rfl, hB⟩
  have h1 : N ≠ 0 := by simpa using d1
  rw [if_neg (fun e => h1 (by rw [← hN, e]; rfl))] at hR0
  cases c2
  case true =>
    have h2 : 20000 < L := by have := of_decide_eq_true d2; omega
    rw [if_pos h2] at hR0
    subst hR0
    go_enter Tryz.func13, Tryz.ntmps13
    go_wp2_with (first
      | ((with_reducible change wpList _ _ _ (Oper.mk (some 1) _ _ _ _ _ :: _) _ _); refine kBoxL _ _ _ rfl rfl rfl ?_; intro w1 hR hz1 hB; have ht1 := ht.below hB; clear hz1; go_frame)
      | ((with_reducible change wpList _ _ _ (Oper.mk (some 8) _ _ _ _ _ :: _) _ _); refine kY (yFld blkF1 _ _ 0 68 rfl rfl rfl rfl) ?_; go_frame)
      | ((with_reducible change wpList _ _ _ (Oper.mk (some 9) _ _ _ _ _ :: _) _ _); refine kY (yLoad1 _ _ _ W0.heap.size 68 (blkC b.head v) v _ rfl rfl rfl (fun _ e => by cases e; exact hR) Tryz.underlying27 rfl (blkC_68 _ _)) ?_; go_frame)
      | ((with_reducible change wpList _ _ _ (Oper.mk (some 10) _ _ _ _ _ :: _) _ _); refine kY (yLenTxs _ v b.txs N (fun _ e => by cases e; exact ht1) hN rfl rfl rfl) ?_; go_frame)
      | ((with_reducible change wpList _ _ _ (Oper.mk (some 11) _ _ _ _ _ :: _) _ _); refine kEqlI _ _ _ _ .i64 (N : Int) 0 _ rfl rfl rfl rfl d1 ?_; go_frame)
      | ((with_reducible change wpList _ _ _ (Oper.mk (some 13) _ _ _ _ _ :: _) _ _); refine kLoadBlk _ _ b.head v hR rfl rfl rfl ?_; go_frame)
      | (go_at_call 20; refine (blBytes_any _ hb hf ht1).mono ?_; rintro e w2 ⟨v2, rfl, hO2, hBq⟩; have hR2 := hR.below hBq hR.lt; have ht2 := ht1.below hBq; have hB2 := hB.trans (hBq.mono hB.size); clear hBq hR ht1 hB; go_frame)
      | ((with_reducible change wpList _ _ _ (Oper.mk (some 15) _ _ _ _ _ :: _) _ _); refine kLenN _ _ _ v2 _ L rfl rfl rfl hO2.vals (by rw [List.length_map, hL]) Tryz.underlying38 ?_; go_frame)
      | ((with_reducible change wpList _ _ _ (Oper.mk (some 16) _ _ _ _ _ :: _) _ _); refine kGtrI _ _ _ _ .i64 (L : Int) 20000 _ rfl rfl rfl rfl d2 ?_; go_frame))
    (try simp only [Exit.inBlock, Exit.then])
    refine retBT rfl rfl ?_
    exact ⟨rfl, hB2⟩
  have h2 : ¬ 20000 < L := by have := of_decide_eq_false d2; omega
  rw [if_neg h2] at hR0
  cases ON
  · rw [if_pos rfl] at hR0
    subst hR0
    go_enter Tryz.func13, Tryz.ntmps13
    go_wp2_with (first
      | ((with_reducible change wpList _ _ _ (Oper.mk (some 1) _ _ _ _ _ :: _) _ _); refine kBoxL _ _ _ rfl rfl rfl ?_; intro w1 hR hz1 hB; have ht1 := ht.below hB; clear hz1; go_frame)
      | ((with_reducible change wpList _ _ _ (Oper.mk (some 8) _ _ _ _ _ :: _) _ _); refine kY (yFld blkF1 _ _ 0 68 rfl rfl rfl rfl) ?_; go_frame)
      | ((with_reducible change wpList _ _ _ (Oper.mk (some 9) _ _ _ _ _ :: _) _ _); refine kY (yLoad1 _ _ _ W0.heap.size 68 (blkC b.head v) v _ rfl rfl rfl (fun _ e => by cases e; exact hR) Tryz.underlying27 rfl (blkC_68 _ _)) ?_; go_frame)
      | ((with_reducible change wpList _ _ _ (Oper.mk (some 10) _ _ _ _ _ :: _) _ _); refine kY (yLenTxs _ v b.txs N (fun _ e => by cases e; exact ht1) hN rfl rfl rfl) ?_; go_frame)
      | ((with_reducible change wpList _ _ _ (Oper.mk (some 11) _ _ _ _ _ :: _) _ _); refine kEqlI _ _ _ _ .i64 (N : Int) 0 _ rfl rfl rfl rfl d1 ?_; go_frame)
      | ((with_reducible change wpList _ _ _ (Oper.mk (some 13) _ _ _ _ _ :: _) _ _); refine kLoadBlk _ _ b.head v hR rfl rfl rfl ?_; go_frame)
      | (go_at_call 20; refine (blBytes_any _ hb hf ht1).mono ?_; rintro e w2 ⟨v2, rfl, hO2, hBq⟩; have hR2 := hR.below hBq hR.lt; have ht2 := ht1.below hBq; have hB2 := hB.trans (hBq.mono hB.size); clear hBq hR ht1 hB; go_frame)
      | ((with_reducible change wpList _ _ _ (Oper.mk (some 15) _ _ _ _ _ :: _) _ _); refine kLenN _ _ _ v2 _ L rfl rfl rfl hO2.vals (by rw [List.length_map, hL]) Tryz.underlying38 ?_; go_frame)
      | ((with_reducible change wpList _ _ _ (Oper.mk (some 16) _ _ _ _ _ :: _) _ _); refine kGtrI _ _ _ _ .i64 (L : Int) 20000 _ rfl rfl rfl rfl d2 ?_; go_frame)
      | ((with_reducible change wpList _ _ _ (Oper.mk (some 19) _ _ _ _ _ :: _) _ _); refine kY (yFld blkF1 _ _ 0 68 rfl rfl rfl rfl) ?_; go_frame)
      | ((with_reducible change wpList _ _ _ (Oper.mk (some 20) _ _ _ _ _ :: _) _ _); refine kY (yLoad1 _ _ _ W0.heap.size 68 (blkC b.head v) v _ rfl rfl rfl (fun _ e => by cases e; exact hR2) Tryz.underlying27 rfl (blkC_68 _ _)) ?_; go_frame)
      | (go_at_call 34; refine (blOnce_any _ ht2 his (by omega) (by omega)).mono ?_; rintro e w3 ⟨rfl, hBq⟩; rw [hON]; have hR3 := hR2.below hBq hR2.lt; have ht3 := ht2.below hBq; have hB3 := hB2.trans (hBq.mono hB2.size); clear hBq hR2 ht2 hB2 hO2; go_frame)
      | ((with_reducible change wpList _ _ _ (Oper.mk (some 22) _ _ _ _ _ :: _) _ _); refine kNot _ _ _ rfl rfl rfl ?_; go_frame))
    (try simp only [Exit.inBlock, Exit.then])
    refine retBT rfl rfl ?_
    exact ⟨rfl, hB3⟩
  · rw [if_neg (by simp)] at hR0
    go_enter Tryz.func13, Tryz.ntmps13
    go_wp2_with (first
      | ((with_reducible change wpList _ _ _ (Oper.mk (some 1) _ _ _ _ _ :: _) _ _); refine kBoxL _ _ _ rfl rfl rfl ?_; intro w1 hR hz1 hB; have ht1 := ht.below hB; clear hz1; go_frame)
      | ((with_reducible change wpList _ _ _ (Oper.mk (some 8) _ _ _ _ _ :: _) _ _); refine kY (yFld blkF1 _ _ 0 68 rfl rfl rfl rfl) ?_; go_frame)
      | ((with_reducible change wpList _ _ _ (Oper.mk (some 9) _ _ _ _ _ :: _) _ _); refine kY (yLoad1 _ _ _ W0.heap.size 68 (blkC b.head v) v _ rfl rfl rfl (fun _ e => by cases e; exact hR) Tryz.underlying27 rfl (blkC_68 _ _)) ?_; go_frame)
      | ((with_reducible change wpList _ _ _ (Oper.mk (some 10) _ _ _ _ _ :: _) _ _); refine kY (yLenTxs _ v b.txs N (fun _ e => by cases e; exact ht1) hN rfl rfl rfl) ?_; go_frame)
      | ((with_reducible change wpList _ _ _ (Oper.mk (some 11) _ _ _ _ _ :: _) _ _); refine kEqlI _ _ _ _ .i64 (N : Int) 0 _ rfl rfl rfl rfl d1 ?_; go_frame)
      | ((with_reducible change wpList _ _ _ (Oper.mk (some 13) _ _ _ _ _ :: _) _ _); refine kLoadBlk _ _ b.head v hR rfl rfl rfl ?_; go_frame)
      | (go_at_call 20; refine (blBytes_any _ hb hf ht1).mono ?_; rintro e w2 ⟨v2, rfl, hO2, hBq⟩; have hR2 := hR.below hBq hR.lt; have ht2 := ht1.below hBq; have hB2 := hB.trans (hBq.mono hB.size); clear hBq hR ht1 hB; go_frame)
      | ((with_reducible change wpList _ _ _ (Oper.mk (some 15) _ _ _ _ _ :: _) _ _); refine kLenN _ _ _ v2 _ L rfl rfl rfl hO2.vals (by rw [List.length_map, hL]) Tryz.underlying38 ?_; go_frame)
      | ((with_reducible change wpList _ _ _ (Oper.mk (some 16) _ _ _ _ _ :: _) _ _); refine kGtrI _ _ _ _ .i64 (L : Int) 20000 _ rfl rfl rfl rfl d2 ?_; go_frame)
      | ((with_reducible change wpList _ _ _ (Oper.mk (some 19) _ _ _ _ _ :: _) _ _); refine kY (yFld blkF1 _ _ 0 68 rfl rfl rfl rfl) ?_; go_frame)
      | ((with_reducible change wpList _ _ _ (Oper.mk (some 20) _ _ _ _ _ :: _) _ _); refine kY (yLoad1 _ _ _ W0.heap.size 68 (blkC b.head v) v _ rfl rfl rfl (fun _ e => by cases e; exact hR2) Tryz.underlying27 rfl (blkC_68 _ _)) ?_; go_frame)
      | (go_at_call 34; refine (blOnce_any _ ht2 his (by omega) (by omega)).mono ?_; rintro e w3 ⟨rfl, hBq⟩; rw [hON]; have hR3 := hR2.below hBq hR2.lt; have ht3 := ht2.below hBq; have hB3 := hB2.trans (hBq.mono hB2.size); clear hBq hR2 ht2 hB2 hO2; go_frame)
      | ((with_reducible change wpList _ _ _ (Oper.mk (some 22) _ _ _ _ _ :: _) _ _); refine kNot _ _ _ rfl rfl rfl ?_; go_frame)
      | ((with_reducible change wpList _ _ _ (Oper.mk (some 24) _ _ _ _ _ :: _) _ _); refine kY (yFld blkF1 _ _ 0 68 rfl rfl rfl rfl) ?_; go_frame)
      | ((with_reducible change wpList _ _ _ (Oper.mk (some 25) _ _ _ _ _ :: _) _ _); refine kY (yLoad1 _ _ _ W0.heap.size 68 (blkC b.head v) v _ rfl rfl rfl (fun _ e => by cases e; exact hR3) Tryz.underlying27 rfl (blkC_68 _ _)) ?_; go_frame)
      | ((with_reducible change wpList _ _ _ (Oper.mk (some 26) _ _ _ _ _ :: _) _ _); refine kY (yLenTxs _ v b.txs N (fun _ e => by cases e; exact ht3) hN rfl rfl rfl) ?_; go_frame))
    go_loopw [27] (fun x wr => ∃ k : Nat, k ≤ N ∧ x = .int .i64 (k : Int) ∧ firstE (b.txs.drop k) = F ∧ Row wr W0.heap.size 29 (blkC b.head v) ∧ Below W0.heap.size W0 wr) (fun x _ => N - (intOf x).toNat)
    case atStart => exact ⟨0, by omega, rfl, by rw [List.drop_zero]; exact hF, hR3, hB3⟩
    case round =>
      clear hF
      clear hR3 hB3 ht3
      obtain ⟨k, hk, rfl, hF, hR, hB⟩ := hrel
      by_cases hlt : k < N
      · have hd : decide ((k : Int) < (N : Int)) = true := by simp; omega
        obtain ⟨z, hz⟩ : ∃ z, zs[k]? = some z := ⟨_, List.getElem?_eq_getElem (by omega)⟩
        have hik := fst_atT es hz
        have hmem := List.mem_of_getElem? hik
        have htI := hb.2 _ hmem
        have htF := hf.2 _ hmem
        obtain ⟨bd, hbd, hcell⟩ := txs_addr (hT.below hB) hz
        obtain ⟨h1, h2⟩ := hT.2 z (List.mem_of_getElem? hz)
        have hi := h1.below hB
        have ho := h2.below hB
        obtain ⟨⟨t, u1, u2⟩, hze⟩ : ∃ y, y = z := ⟨_, rfl⟩
        subst hze
        dsimp only at hik htI htF h1 h2 hi ho
        clear h1 h2 hz
        rw [firstE_at hik] at hF
        obtain ⟨E, hE⟩ : ∃ E, checkN t = E := ⟨_, rfl⟩
        rw [hE] at hF
        by_cases hE0 : E = 0
        · rw [if_neg (by simp [hE0])] at hF
          have dE : (!decide (E = 0)) = false := by simp [hE0]
          clear hE0
          go_wp2_with (first
            | ((with_reducible change wpList _ _ _ (Oper.mk (some 28) _ _ _ _ _ :: _) _ _); refine kLssI _ _ _ _ .i64 (k : Int) (N : Int) true rfl rfl rfl rfl hd ?_; go_frame)
            | ((with_reducible change wpList _ _ _ (Oper.mk (some 29) _ _ _ _ _ :: _) _ _); refine kY (yIndexAt _ _ _ v k bd hbd rfl rfl rfl rfl) ?_; go_frame)
            | ((with_reducible change wpList _ _ _ (Oper.mk (some 30) _ _ _ _ _ :: _) _ _); refine kY (yLoadTxAt _ bd (t, u1, u2) (fun _ e => by cases e; exact hcell) rfl rfl rfl) ?_; clear hcell; dsimp only; go_frame)
            | ((with_reducible change wpList _ _ _ (Oper.mk (some 4) _ _ _ _ _ :: _) _ _); refine kAllocL _ _ rfl rfl zero_TxC ?_; intro w1 hV hz1 hBq; clear hz1; have hg1 : Hid (W0.heap.size ≤ wr.heap.size) := hB.size; go_frame)
            | ((with_reducible change wpList _ _ _ (Oper.mk none (Op.store _ (Operand.tmp 4) _) _ _ _ _ :: _) _ _); refine kStoreTx _ _ _ t.version t.end' u1 u2 _ hV rfl hi.sl.one ho.sl.one rfl rfl rfl rfl ?_; intro w2 hV2 hWq; have hBq2 := hBq.trans (hWq.below (Nat.le_refl _)); have hR2 := hR.below hBq2 hR.lt; clear hR;  have hB2 := hB.trans (hBq2.mono hB.size); have hi2 := hi.below hBq2; have ho2 := ho.below hBq2; clear hBq hWq hB hi ho hV hBq2; go_frame)
            | ((with_reducible change wpList _ _ _ (Oper.mk (some 31) _ _ _ _ _ :: _) _ _); refine kLoadTx _ _ t.version t.end' u1 u2 hV2 rfl rfl rfl ?_; go_frame)
            | (go_at_call 35; refine (tCheck_any _ htI htF hi2 ho2).mono ?_; rintro e w3 ⟨rfl, hBq⟩; rw [hE]; have hR3 := hR2.below hBq hR2.lt; have hB3 := hB2.trans (hBq.mono hB2.size); clear hBq hR2 hB2 hV2 hi2 ho2; go_frame)
            | ((with_reducible change wpList _ _ _ (Oper.mk (some 34) _ _ _ _ _ :: _) _ _); refine kY (yNeqI _ _ _ _ .i64 E 0 false rfl rfl rfl rfl dE) ?_; go_frame)
            | ((with_reducible change wpList _ _ _ (Oper.mk (some 36) _ _ _ _ _ :: _) _ _); refine kAddI _ _ _ _ (k : Int) 1 ((k + 1 : Nat) : Int) (by omega) rfl rfl rfl rfl ?_; go_frame))
          go_roundw
          case rel => exact ⟨k + 1, by omega, rfl, hF, hR3, hB3⟩
          case measure => simp [intOf]; omega
        · rw [if_pos hE0] at hF
          subst hF
          rw [if_pos hE0] at hR0
          subst hR0
          have dE : (!decide (E = 0)) = true := by simp [hE0]
          clear hE0
          go_wp2_with (first
            | ((with_reducible change wpList _ _ _ (Oper.mk (some 28) _ _ _ _ _ :: _) _ _); refine kLssI _ _ _ _ .i64 (k : Int) (N : Int) true rfl rfl rfl rfl hd ?_; go_frame)
            | ((with_reducible change wpList _ _ _ (Oper.mk (some 29) _ _ _ _ _ :: _) _ _); refine kY (yIndexAt _ _ _ v k bd hbd rfl rfl rfl rfl) ?_; go_frame)
            | ((with_reducible change wpList _ _ _ (Oper.mk (some 30) _ _ _ _ _ :: _) _ _); refine kY (yLoadTxAt _ bd (t, u1, u2) (fun _ e => by cases e; exact hcell) rfl rfl rfl) ?_; clear hcell; dsimp only; go_frame)
            | ((with_reducible change wpList _ _ _ (Oper.mk (some 4) _ _ _ _ _ :: _) _ _); refine kAllocL _ _ rfl rfl zero_TxC ?_; intro w1 hV hz1 hBq; clear hz1; have hg1 : Hid (W0.heap.size ≤ wr.heap.size) := hB.size; go_frame)
            | ((with_reducible change wpList _ _ _ (Oper.mk none (Op.store _ (Operand.tmp 4) _) _ _ _ _ :: _) _ _); refine kStoreTx _ _ _ t.version t.end' u1 u2 _ hV rfl hi.sl.one ho.sl.one rfl rfl rfl rfl ?_; intro w2 hV2 hWq; have hBq2 := hBq.trans (hWq.below (Nat.le_refl _)); have hR2 := hR.below hBq2 hR.lt; clear hR;  have hB2 := hB.trans (hBq2.mono hB.size); have hi2 := hi.below hBq2; have ho2 := ho.below hBq2; clear hBq hWq hB hi ho hV hBq2; go_frame)
            | ((with_reducible change wpList _ _ _ (Oper.mk (some 31) _ _ _ _ _ :: _) _ _); refine kLoadTx _ _ t.version t.end' u1 u2 hV2 rfl rfl rfl ?_; go_frame)
            | (go_at_call 35; refine (tCheck_any _ htI htF hi2 ho2).mono ?_; rintro e w3 ⟨rfl, hBq⟩; rw [hE]; have hR3 := hR2.below hBq hR2.lt; have hB3 := hB2.trans (hBq.mono hB2.size); clear hBq hR2 hB2 hV2 hi2 ho2; go_frame)
            | ((with_reducible change wpList _ _ _ (Oper.mk (some 34) _ _ _ _ _ :: _) _ _); refine kY (yNeqI _ _ _ _ .i64 E 0 true rfl rfl rfl rfl dE) ?_; go_frame))
          (try simp only [Exit.inBlock, Exit.then])
          refine retBT rfl rfl ?_
          exact ⟨rfl, hB3⟩
      · have hd : decide ((k : Int) < (N : Int)) = false := by simp; omega
        have hF0 : F = 0 := by rw [← hF, List.drop_of_length_le (by omega)]; rfl
        rw [if_neg (by simp [hF0])] at hR0
        clear hF hF0
        by_cases hq : r1 = b.head.root
        · have dq : (!decide (r1 = b.head.root)) = false := by simp [hq]
          cases r2
          · rw [if_neg (by simp [hq])] at hR0
            subst hR0
            clear hq
            go_wp2_with (first
              | ((with_reducible change wpList _ _ _ (Oper.mk (some 28) _ _ _ _ _ :: _) _ _); refine kLssI _ _ _ _ .i64 (k : Int) (N : Int) false rfl rfl rfl rfl hd ?_; go_frame)
              | ((with_reducible change wpList _ _ _ (Oper.mk (some 38) _ _ _ _ _ :: _) _ _); refine kLoadBlk _ _ b.head v hR rfl rfl rfl ?_; go_frame)
              | (go_at_call 26; refine (blIds_any _ hb hf (ht.below hB) (hK.below hB)).mono ?_; rintro e w5 ⟨u, rfl, hO5, hBq⟩; have hR5 := hR.below hBq hR.lt; have hB5 := hB.trans (hBq.mono hB.size); clear hR hB hBq; go_frame)
              | (go_at_call 11; refine (blRoot_any (l := idsL b.txs) _ hO5.of (idsL_32 _) (by unfold idsL; rw [List.length_map]; omega) (hK.below hB5)).mono ?_; rintro e w6 ⟨rfl, hBq⟩; rw [hr1, hr2]; have hR6 := hR5.below hBq hR5.lt; have hB6 := hB5.trans (hBq.mono hB5.size); clear hR5 hB5 hBq hO5; go_frame)
              | ((with_reducible change wpList _ _ _ (Oper.mk (some 41) _ _ _ _ _ :: _) _ _); refine kY (yExtract _ 0 _ (HV r1) rfl rfl rfl rfl) ?_; go_frame)
              | ((with_reducible change wpList _ _ _ (Oper.mk (some 42) _ _ _ _ _ :: _) _ _); refine kY (yExtract _ 1 _ (.bool r2) rfl rfl rfl rfl) ?_; go_frame)
              | ((with_reducible change wpList _ _ _ (Oper.mk (some 6) _ _ _ _ _ :: _) _ _); refine kAllocL _ _ rfl rfl zero_Hash ?_; intro w7 hRN hz7 hBq; clear hz7; have hR7 := hR6.below hBq hR6.lt; have hB7 := hB6.trans (hBq.mono hB6.size); have hne : W0.heap.size ≠ w6.heap.size := Nat.ne_of_lt hR6.lt; have hle6 : Hid (W0.heap.size ≤ w6.heap.size) := hB6.size; clear hR6 hB6 hBq; go_frame)
              | ((with_reducible change wpList _ _ _ (Oper.mk none (Op.store _ (Operand.tmp 6) _) _ _ _ _ :: _) _ _); refine kStoreHash _ _ w6.heap.size r1 _ hRN (tab_size _ _) rfl rfl rfl rfl ?_; intro w8 hRN8 hW8; have hR8 := hW8.row hR7 hne; have hB8 := hB7.trans (hW8.below hle6.out); clear hRN hR7 hB7 hW8 hne hle6; go_frame)
              | ((with_reducible change wpList _ _ _ (Oper.mk (some 43) _ _ _ _ _ :: _) _ _); refine kLoadHash _ _ r1 hRN8 rfl rfl rfl ?_; go_frame)
              | ((with_reducible change wpList _ _ _ (Oper.mk (some 44) _ _ _ _ _ :: _) _ _); refine kY (yFld blkF0 _ _ 0 0 rfl rfl rfl rfl) ?_; go_frame)
              | ((with_reducible change wpList _ _ _ (Oper.mk (some 45) _ _ _ _ _ :: _) _ _); refine kY (yFld headF2 _ _ 0 33 rfl rfl rfl rfl) ?_; go_frame)
              | ((with_reducible change wpList _ _ _ (Oper.mk (some 46) _ _ _ _ _ :: _) _ _); refine kY (yLoadPartC Tryz.underlying24 rfl _ W0.heap.size 33 32 (blkC b.head v) _ info_HashCo (by rw [blkC_size]; decide) (blkC_root _ _) (fun _ e => by cases e; exact hR8) rfl rfl rfl) ?_; go_frame)
              | ((with_reducible change wpList _ _ _ (Oper.mk (some 47) _ _ _ _ _ :: _) _ _); refine kY (yNeqHash _ _ _ r1 b.head.root false hr32 hrt rfl rfl rfl rfl dq) ?_; go_frame))
            (try simp only [Exit.inBlock, Exit.then])
            refine retBT rfl rfl ?_
            exact ⟨rfl, hB8⟩
          · rw [if_pos (by simp)] at hR0
            subst hR0
            clear hq
            go_wp2_with (first
              | ((with_reducible change wpList _ _ _ (Oper.mk (some 28) _ _ _ _ _ :: _) _ _); refine kLssI _ _ _ _ .i64 (k : Int) (N : Int) false rfl rfl rfl rfl hd ?_; go_frame)
              | ((with_reducible change wpList _ _ _ (Oper.mk (some 38) _ _ _ _ _ :: _) _ _); refine kLoadBlk _ _ b.head v hR rfl rfl rfl ?_; go_frame)
              | (go_at_call 26; refine (blIds_any _ hb hf (ht.below hB) (hK.below hB)).mono ?_; rintro e w5 ⟨u, rfl, hO5, hBq⟩; have hR5 := hR.below hBq hR.lt; have hB5 := hB.trans (hBq.mono hB.size); clear hR hB hBq; go_frame)
              | (go_at_call 11; refine (blRoot_any (l := idsL b.txs) _ hO5.of (idsL_32 _) (by unfold idsL; rw [List.length_map]; omega) (hK.below hB5)).mono ?_; rintro e w6 ⟨rfl, hBq⟩; rw [hr1, hr2]; have hR6 := hR5.below hBq hR5.lt; have hB6 := hB5.trans (hBq.mono hB5.size); clear hR5 hB5 hBq hO5; go_frame)
              | ((with_reducible change wpList _ _ _ (Oper.mk (some 41) _ _ _ _ _ :: _) _ _); refine kY (yExtract _ 0 _ (HV r1) rfl rfl rfl rfl) ?_; go_frame)
              | ((with_reducible change wpList _ _ _ (Oper.mk (some 42) _ _ _ _ _ :: _) _ _); refine kY (yExtract _ 1 _ (.bool r2) rfl rfl rfl rfl) ?_; go_frame)
              | ((with_reducible change wpList _ _ _ (Oper.mk (some 6) _ _ _ _ _ :: _) _ _); refine kAllocL _ _ rfl rfl zero_Hash ?_; intro w7 hRN hz7 hBq; clear hz7; have hR7 := hR6.below hBq hR6.lt; have hB7 := hB6.trans (hBq.mono hB6.size); have hne : W0.heap.size ≠ w6.heap.size := Nat.ne_of_lt hR6.lt; have hle6 : Hid (W0.heap.size ≤ w6.heap.size) := hB6.size; clear hR6 hB6 hBq; go_frame)
              | ((with_reducible change wpList _ _ _ (Oper.mk none (Op.store _ (Operand.tmp 6) _) _ _ _ _ :: _) _ _); refine kStoreHash _ _ w6.heap.size r1 _ hRN (tab_size _ _) rfl rfl rfl rfl ?_; intro w8 hRN8 hW8; have hR8 := hW8.row hR7 hne; have hB8 := hB7.trans (hW8.below hle6.out); clear hRN hR7 hB7 hW8 hne hle6; go_frame)
              | ((with_reducible change wpList _ _ _ (Oper.mk (some 43) _ _ _ _ _ :: _) _ _); refine kLoadHash _ _ r1 hRN8 rfl rfl rfl ?_; go_frame)
              | ((with_reducible change wpList _ _ _ (Oper.mk (some 44) _ _ _ _ _ :: _) _ _); refine kY (yFld blkF0 _ _ 0 0 rfl rfl rfl rfl) ?_; go_frame)
              | ((with_reducible change wpList _ _ _ (Oper.mk (some 45) _ _ _ _ _ :: _) _ _); refine kY (yFld headF2 _ _ 0 33 rfl rfl rfl rfl) ?_; go_frame)
              | ((with_reducible change wpList _ _ _ (Oper.mk (some 46) _ _ _ _ _ :: _) _ _); refine kY (yLoadPartC Tryz.underlying24 rfl _ W0.heap.size 33 32 (blkC b.head v) _ info_HashCo (by rw [blkC_size]; decide) (blkC_root _ _) (fun _ e => by cases e; exact hR8) rfl rfl rfl) ?_; go_frame)
              | ((with_reducible change wpList _ _ _ (Oper.mk (some 47) _ _ _ _ _ :: _) _ _); refine kY (yNeqHash _ _ _ r1 b.head.root false hr32 hrt rfl rfl rfl rfl dq) ?_; go_frame))
            (try simp only [Exit.inBlock, Exit.then])
            refine retBT rfl rfl ?_
            exact ⟨rfl, hB8⟩
        · have dq : (!decide (r1 = b.head.root)) = true := by simp [hq]
          rw [if_pos (.inl hq)] at hR0
          subst hR0
          clear hq
          go_wp2_with (first
            | ((with_reducible change wpList _ _ _ (Oper.mk (some 28) _ _ _ _ _ :: _) _ _); refine kLssI _ _ _ _ .i64 (k : Int) (N : Int) false rfl rfl rfl rfl hd ?_; go_frame)
            | ((with_reducible change wpList _ _ _ (Oper.mk (some 38) _ _ _ _ _ :: _) _ _); refine kLoadBlk _ _ b.head v hR rfl rfl rfl ?_; go_frame)
            | (go_at_call 26; refine (blIds_any _ hb hf (ht.below hB) (hK.below hB)).mono ?_; rintro e w5 ⟨u, rfl, hO5, hBq⟩; have hR5 := hR.below hBq hR.lt; have hB5 := hB.trans (hBq.mono hB.size); clear hR hB hBq; go_frame)
            | (go_at_call 11; refine (blRoot_any (l := idsL b.txs) _ hO5.of (idsL_32 _) (by unfold idsL; rw [List.length_map]; omega) (hK.below hB5)).mono ?_; rintro e w6 ⟨rfl, hBq⟩; rw [hr1, hr2]; have hR6 := hR5.below hBq hR5.lt; have hB6 := hB5.trans (hBq.mono hB5.size); clear hR5 hB5 hBq hO5; go_frame)
            | ((with_reducible change wpList _ _ _ (Oper.mk (some 41) _ _ _ _ _ :: _) _ _); refine kY (yExtract _ 0 _ (HV r1) rfl rfl rfl rfl) ?_; go_frame)
            | ((with_reducible change wpList _ _ _ (Oper.mk (some 42) _ _ _ _ _ :: _) _ _); refine kY (yExtract _ 1 _ (.bool r2) rfl rfl rfl rfl) ?_; go_frame)
            | ((with_reducible change wpList _ _ _ (Oper.mk (some 6) _ _ _ _ _ :: _) _ _); refine kAllocL _ _ rfl rfl zero_Hash ?_; intro w7 hRN hz7 hBq; clear hz7; have hR7 := hR6.below hBq hR6.lt; have hB7 := hB6.trans (hBq.mono hB6.size); have hne : W0.heap.size ≠ w6.heap.size := Nat.ne_of_lt hR6.lt; have hle6 : Hid (W0.heap.size ≤ w6.heap.size) := hB6.size; clear hR6 hB6 hBq; go_frame)
            | ((with_reducible change wpList _ _ _ (Oper.mk none (Op.store _ (Operand.tmp 6) _) _ _ _ _ :: _) _ _); refine kStoreHash _ _ w6.heap.size r1 _ hRN (tab_size _ _) rfl rfl rfl rfl ?_; intro w8 hRN8 hW8; have hR8 := hW8.row hR7 hne; have hB8 := hB7.trans (hW8.below hle6.out); clear hRN hR7 hB7 hW8 hne hle6; go_frame)
            | ((with_reducible change wpList _ _ _ (Oper.mk (some 43) _ _ _ _ _ :: _) _ _); refine kLoadHash _ _ r1 hRN8 rfl rfl rfl ?_; go_frame)
            | ((with_reducible change wpList _ _ _ (Oper.mk (some 44) _ _ _ _ _ :: _) _ _); refine kY (yFld blkF0 _ _ 0 0 rfl rfl rfl rfl) ?_; go_frame)
            | ((with_reducible change wpList _ _ _ (Oper.mk (some 45) _ _ _ _ _ :: _) _ _); refine kY (yFld headF2 _ _ 0 33 rfl rfl rfl rfl) ?_; go_frame)
            | ((with_reducible change wpList _ _ _ (Oper.mk (some 46) _ _ _ _ _ :: _) _ _); refine kY (yLoadPartC Tryz.underlying24 rfl _ W0.heap.size 33 32 (blkC b.head v) _ info_HashCo (by rw [blkC_size]; decide) (blkC_root _ _) (fun _ e => by cases e; exact hR8) rfl rfl rfl) ?_; go_frame)
            | ((with_reducible change wpList _ _ _ (Oper.mk (some 47) _ _ _ _ _ :: _) _ _); refine kY (yNeqHash _ _ _ r1 b.head.root true hr32 hrt rfl rfl rfl rfl dq) ?_; go_frame))
          (try simp only [Exit.inBlock, Exit.then])
          refine retBT rfl rfl ?_
          exact ⟨rfl, hB8⟩
end Go.Proofs.YtmfjgehlkbndjaaGreatDoor

/-
  Layer 11: what the statements begin with: the example is alive.
-/
namespace Go.Proofs.YtmfjgehlkbndjaaGreatDoor
open Go Go.RowKit Go.Shelf

def one11 : TxP := ⟨0, [⟨z32, 4294967295, [1, 2], 0⟩], [(5, [])], 0⟩
theorem one_is : one11.Is := ⟨by decide, by decide, fun i hi => by simp [one11] at hi; subst hi; exact ⟨rfl, by decide, by decide⟩, fun x hx => by simp [one11] at hx; subst hx; exact ⟨by decide, by decide⟩⟩
theorem one_fits : one11.Fits := ⟨by decide, by decide, fun i hi => by simp [one11] at hi; subst hi; decide, fun x hx => by simp [one11] at hx; subst hx; decide⟩
def plainB : BlockP := ⟨⟨0, z32, idL one11, 7, 0, 0⟩, [one11]⟩
theorem plain_is : plainB.Is := ⟨⟨by decide, rfl, idL_len _, by decide, by decide, by decide⟩, fun t ht => by simp [plainB] at ht; subst ht; exact one_is⟩
theorem plain_fits : plainB.Fits := ⟨by decide, fun t ht => by simp [plainB] at ht; subst ht; exact one_fits⟩
theorem plain_parse : parseB (blockL plainB) = (plainB, 0) := parse_blockL plain_is plain_fits
set_option maxRecDepth 100000 in
theorem one_len : (txL one11).length ≤ 1000 := by decide +kernel
theorem plain_len1 : (blockL plainB).length ≤ 20000 := by
  have h1 := headL_len plain_is.1
  have h2 := countL_le 1
  have h3 := one_len
  show (headL plainB.head ++ (countL 1 ++ txsL [one11])).length ≤ 20000
  rw [List.length_append, List.length_append, h1, show txsL [one11] = txL one11 by simp [txsL]]
  omega
theorem plain_len : (blockL plainB).length ≤ 1000000 := Nat.le_trans plain_len1 (by decide)
theorem one_check : checkN one11 = 0 := by decide +kernel
theorem one_base : baseB one11.ins = true := by decide +kernel
theorem plain_check : checkB plainB = 0 := by
  unfold checkB
  rw [if_neg (by simp [plainB]), if_neg (by have := plain_len1; omega), if_neg (by show ¬ (baseB one11.ins && !(([] : List TxP).any fun t => baseB t.ins)) = false; rw [one_base]; simp), show firstE plainB.txs = 0 by show (if checkN one11 ≠ 0 then checkN one11 else 0) = 0; rw [one_check]; rfl, if_neg (by simp), show rootL (idsL plainB.txs) = (idL one11, false) from rootL_one _]
  exact if_neg (by simp [plainB])
set_option maxRecDepth 100000 in
theorem plain_id : (hidL plainB.head == z32) = false := by decide +kernel
theorem plain_id' : (!decide (hidL plainB.head = z32)) = true := by
  have h := plain_id
  simp only [beq_eq_false_iff_ne] at h
  simp [h]
theorem sameB_refl (b : BlockP) : (blockL b == blockL b) = true := by simp
theorem built_Tx12s (ao bo : Option Addr) (q c q' c' : Nat) : Tryz.prog.built 34 [(1, .slice ao q c), (2, .slice bo q' c')] = some (txC 0 (.slice ao q c) (.slice bo q' c') 0) := by kernel_rfl
section
variable {ops : Array Oper} {Q : Exit → Act → World → Prop} {rest : List Oper} {o : Oper} {a : Act} {w : World}
theorem kBuildTx12 (y z : Operand) (u v : Value) (hu : SliceV u) (hv : SliceV v) (ho : o.op = .build 34 #[(1, y), (2, z)]) (hg : Region.wanted o (yielded ops a.tmps) = true) (hy : a.eval y = u) (hz : a.eval z = v) (h : wpList Tryz.prog ops Q rest (a.put o.dst (.agg (txC 0 u v 0))) w) : wpList Tryz.prog ops Q (o :: rest) a w := by
  obtain ⟨_, _, _, rfl⟩ := hu
  obtain ⟨_, _, _, rfl⟩ := hv
  exact kBuildAny _ _ #[(1, _), (2, _)] _ ho hg (by simp [hy, hz]) (built_Tx12s _ _ _ _ _ _) h
end
theorem kSkipD {P : Program} {ops : Array Oper} {Q : Exit → Act → World → Prop} {rest : List Oper} {o : Oper} {a : Act} {w : World} (hg : Region.wanted o (yielded ops a.tmps) = false) (h : wpList P ops Q rest (a.put o.dst undef) w) : wpList P ops Q (o :: rest) a w := by
  unfold wpList
  rw [if_neg (by rw [hg]; simp)]
  exact h
theorem ownTxs_one {w : World} {g b : Nat} {t : TxP} {u v : Value} (hb : b ≤ g) (hr : Row w g 34 (txC t.version u v t.end')) (hu : OwnIns w b u t.ins) (hv : OwnOuts w b v t.outs) : OwnTxs w b (.slice (some ⟨g, 0, none⟩) 1 1) [t] :=
  ⟨[(t, u, v)], rfl, ownR_one hb hr rfl, fun z hz => by simp at hz; subst hz; exact ⟨hu, hv⟩⟩
set_option maxRecDepth 100000 in
set_option maxHeartbeats 8000000 in
theorem plain11_any (W0 : World) : Calls Tryz.prog 9 #[] W0 fun e w' => ∃ v, e = .returned (.agg (blkC plainB.head v)) ∧ OwnTxs w' W0.heap.size v plainB.txs ∧ Below W0.heap.size W0 w' := by
  obtain ⟨i, hi, hz, hs1, hby⟩ := b8Info
  go_enter Tryz.func9, Tryz.ntmps9
  go_wp2_with (first
    | ((with_reducible change wpList _ _ _ (Oper.mk (some 0) _ _ _ _ _ :: _) _ _); refine kAllocL _ _ rfl rfl zero_BlkC ?_; intro w1 hRA hz1 hB1; have hs : Hid (W0.heap.size < w1.heap.size) := hz1; clear hz1; go_frame)
    | ((with_reducible change wpList _ _ _ (Oper.mk (some 2) _ _ _ _ _ :: _) _ _); refine kBuildRefN _ rfl rfl rfl ?_; go_frame)
    | ((with_reducible change wpList _ _ _ (Oper.mk (some 3) _ _ _ _ _ :: _) _ _); refine kBuildSlice2 _ _ _ _ (VB 1) (VB 2) rfl rfl Tryz.underlying38 i _ hi hz hs1 rfl rfl rfl rfl ?_; intro w2 hR2 hz2 hB2; have hU : OwnB w2 w1.heap.size (.slice (some ⟨w1.heap.size, 0, none⟩) 2 2) [1, 2] := own_litT (base := w1.heap.size) [1, 2] (Nat.le_refl _) (by decide) hR2; have hRA2 := hRA.below hB2 hRA.lt; clear hz2 hR2 hRA; go_frame)
    | ((with_reducible change wpList _ _ _ (Oper.mk (some 4) _ _ _ _ _ :: _) _ _); refine kBuildIn2 _ _ z32 [1, 2] 4294967295 _ hU.vals.sl rfl rfl rfl rfl ?_; go_frame)
    | ((with_reducible change wpList _ _ _ (Oper.mk (some 5) _ _ _ _ _ :: _) _ _); refine kBuildIn1 _ ⟨z32, 4294967295, [1, 2], 0⟩ _ hU.vals.sl rfl rfl rfl ?_; intro w3 hR3 hz3 hB3; have hOI : OwnR 35 62 w3 w1.heap.size _ [inR ((⟨z32, 4294967295, [1, 2], 0⟩ : InP), _)] := ownR_one hB2.size hR3 (inR_len _); have hI3 : OwnIns w3 w1.heap.size _ one11.ins := ⟨[((⟨z32, 4294967295, [1, 2], 0⟩ : InP), _)], rfl, hOI, fun z hz => by simp at hz; subst hz; exact hU.below hB3⟩; have hRA3 := hRA2.below hB3 hRA2.lt; have hB4 := hB2.trans (hB3.mono hB2.size); clear hz3 hR3 hRA2 hB2 hB3 hOI hU; go_frame)
    | ((with_reducible change wpList _ _ _ (Oper.mk (some 6) _ _ _ _ _ :: _) _ _); refine kBuildOut1 _ 5 rfl rfl rfl ?_; go_frame)
    | ((with_reducible change wpList _ _ _ (Oper.mk (some 7) _ _ _ _ _ :: _) _ _); refine kBuildOut1T _ 5 [] (.slice none 0 0) ⟨_, _, _, rfl⟩ rfl rfl rfl ?_; intro w5 hR5 hz5 hB7; have hOO : OwnR 2 64 w5 w1.heap.size _ [outR (((5 : Int), []), _)] := ownR_one hB4.size hR5 (outR_len _); have hO5 : OwnOuts w5 w1.heap.size _ one11.outs := ⟨[(((5 : Int), []), _)], rfl, hOO, fun z hz => by simp at hz; subst hz; exact ownB_nil _ _⟩; have hRA5 := hRA3.below hB7 hRA3.lt; have hI5 := hI3.below hB7; have hB8 := hB4.trans (hB7.mono hB4.size); clear hz5 hR5 hRA3 hI3 hB4 hB7 hOO; go_frame)
    | ((with_reducible change wpList _ _ _ (Oper.mk (some 8) _ _ _ _ _ :: _) _ _); refine kBuildTx12 _ _ _ _ hI5.of.sl hO5.of.sl rfl rfl rfl rfl ?_; go_frame)
    | ((with_reducible change wpList _ _ _ (Oper.mk (some 1) _ _ _ _ _ :: _) _ _); refine kAllocL _ _ rfl rfl zero_TxC ?_; intro w6 hT6 hz6 hBq; clear hz6; have hRA6 := hRA5.below hBq hRA5.lt; have hI6 := hI5.below hBq; have hO6 := hO5.below hBq; have hle5 : Hid (w1.heap.size ≤ w5.heap.size) := hB8.size; have hB6 := hB8.trans (hBq.mono hB8.size); have hgt : Hid (W0.heap.size < w5.heap.size) := Nat.lt_of_lt_of_le hs.out hB8.size; have hOwn6 : OwnIns w6 w1.heap.size _ one11.ins ∧ OwnOuts w6 w1.heap.size _ one11.outs := ⟨hI6, hO6⟩; have hold := And.intro hI5 hO5; clear hRA5 hI5 hO5 hB8; go_frame)
    | ((with_reducible change wpList _ _ _ (Oper.mk none _ _ _ _ _ :: _) _ _); refine kStoreTx _ _ w5.heap.size 0 0 _ _ _ hT6 rfl hI6.of.sl.one hO6.of.sl.one rfl rfl rfl rfl ?_; intro w8 hT hW8; have hBn := hBq.trans (hW8.below (Nat.le_refl _)); have hRA8 := hW8.row hRA6 (Nat.ne_of_lt hgt.out); have hI := hold.1.below hBn; have hO := hold.2.below hBn; have hB := hB6.trans (hW8.below hle5.out); have hs8 := hB.size; clear hT6 hW8 hRA6 hI6 hO6 hB6 hOwn6 hold hBn hBq hle5 hgt; go_frame))
  generalize Value.slice (some ⟨w2.heap.size, 0, none⟩) 1 1 = u1 at *
  generalize Value.slice (some ⟨w3.heap.size, 0, none⟩) 1 1 = u2 at *
  refine region_symT 5 _ [] [] [.val (.agg (txC one11.version u1 u2 one11.end')), .val (HV (idL one11)), .val (.agg (headC plainB.head)), .val (.agg (txC one11.version u1 u2 one11.end')), .prop (fun w v => OwnTxs w w1.heap.size v [one11]) (fun _ _ _ hb h => h.below hb)] rfl (by kernel_rfl) (by kernel_rfl) (by kernel_rfl) (by kernel_rfl) rfl (by intro s hs; cases hs) (steps_all ⟨?_, ?_, ?_, ?_, ?_, trivial⟩) ?_
  · exact fun A W sz ot hbel ap dp => kY (yLoadRowC Tryz.underlying34 rfl _ w5.heap.size (txC 0 u1 u2 0) info_TxC (fun _ e => by cases e; exact hT.below hbel hT.lt) rfl rfl (tO ot 1)) (tV ap sz (Below.refl _ _) rfl)
  · exact fun A W sz ot hbel ap dp => kCall1 29 _ _ _ rfl rfl (by kernel_rfl) (tD dp 0 .data) ((yId_any (t := one11) _ one_is one_fits (hI.below hbel).of (hO.below hbel).of).mono (fun e W1 ⟨he, hB'⟩ => ⟨_, he, tV ap sz hB' rfl⟩))
  · exact fun A W sz ot hbel ap dp => kY (yBuildHead2 _ _ (idL one11) 7 rfl rfl (tD dp 1 .data) rfl) (tV ap sz (Below.refl _ _) rfl)
  · exact fun A W sz ot hbel ap dp => kY (yLoadRowC Tryz.underlying34 rfl _ w5.heap.size (txC 0 u1 u2 0) info_TxC (fun _ e => by cases e; exact hT.below hbel hT.lt) rfl rfl (tO ot 1)) (tV ap sz (Below.refl _ _) rfl)
  · exact fun A W sz ot hbel ap dp => kBuildTxs1 _ 0 0 u1 u2 hI.of.sl hO.of.sl rfl rfl (tD dp 3 .data) (fun W1 hR1 _ hB' => tV ap sz hB' (ownTxs_one (t := one11) (Nat.le_trans hs8 hbel.size) hR1 ((hI.below hbel).below hB') ((hO.below hbel).below hB')))
  intro w9 hB9
  dsimp only [AllV]
  rintro u4 hu4 hap
  dsimp only [putAll, List.take, List.drop]
  go_frame
  clear hap
  have hRA9 := hRA8.below hB9 hRA8.lt
  have hB10 := hB.trans (hB9.mono hB.size)
  have hlt : W0.heap.size < w1.heap.size := hs.out
  go_wp2_with (first
    | ((with_reducible change wpList _ _ _ (Oper.mk (some 14) _ _ _ _ _ :: _) _ _); refine kY (yBuildBlk2 _ _ plainB.head _ hu4.of.sl rfl rfl rfl rfl) ?_; go_frame)
    | ((with_reducible change wpList _ _ _ (Oper.mk none _ _ _ _ _ :: _) _ _); refine kStoreBlk _ _ W0.heap.size plainB.head _ _ hRA9 (blkC_size _ _) hu4.of.sl.one rfl rfl rfl rfl ?_; intro w10 hRA10 hW10; have hU10 := (hu4.over (over_wrote hW10 hlt)).less (Nat.le_of_lt hlt); have hB11 := (hB1.trans (hB10.mono (Nat.le_of_lt hlt))).trans (hW10.below (Nat.le_refl _)); go_frame))
  (try simp only [Exit.inBlock, Exit.then])
  exact result_row rfl rfl hRA10 Tryz.underlying29 rfl (info_BlkS _ _) rfl ⟨_, rfl, hU10, hB11⟩
set_option maxRecDepth 100000 in
set_option maxHeartbeats 8000000 in
theorem blockAlive_any (W0 : World) (hK : Keys W0) : Calls Tryz.prog 12 #[] W0 (BoolPost W0 true) := by
  have hB00 := Below.refl W0.heap.size W0
  go_enter Tryz.func12, Tryz.ntmps12
  go_wp2_with (first
    | (go_at_call 9; refine (plain11_any _).mono ?_; rintro e y1 ⟨tv1, rfl, hX1o, hBq⟩; have hB_1 := hB00.trans (hBq.mono hB00.size); clear hB00 hBq; have hX1 := hX1o.of; clear hX1o; go_frame)
    | (go_at_call 20; refine (blBytes_any (b := plainB) _ plain_is plain_fits hX1).mono ?_; rintro e y2 ⟨v2, rfl, hX2o, hBq⟩; have hX1_2 := hX1.below hBq; have hB_3 := hB_1.trans (hBq.mono hB_1.size); clear hX1 hB_1 hBq; have hX2 := hX2o.vals; clear hX2o; go_frame)
    | (go_at_call 21; refine (blParse_any (l := (blockL plainB)) _ hX2 plain_len).mono ?_; rintro e y3 ⟨tv3, rfl, hX3o, hBq⟩; have hX1_4 := hX1_2.below hBq; have hX2_5 := hX2.below hBq; have hB_6 := hB_3.trans (hBq.mono hB_3.size); clear hX1_2 hX2 hB_3 hBq; have hX3 := hX3o.of; clear hX3o; rw [plain_parse] at hX3 ⊢; go_frame)
    | ((with_reducible change wpList _ _ _ (Oper.mk (some 1) _ _ _ _ _ :: _) _ _); refine kAllocL _ _ rfl rfl zero_BlkC ?_; intro y4 hV1 hzq hBq; clear hzq; have hP := hBq; clear hBq; go_frame)
    | ((with_reducible change wpList _ _ _ (Oper.mk none (Op.store _ (Operand.tmp 1) _) _ _ _ _ :: _) _ _); refine kStoreBlk _ _ _ plainB.head tv3 _ hV1 (blkC_size _ _) (hX3).sl.one rfl rfl rfl rfl ?_; intro y5 hT1 hWq; have hPn := hP.trans (hWq.below (Nat.le_refl _)); clear hP; have hP := hPn; clear hPn; clear hWq hV1; have hX1_7 := hX1_4.below hP; have hX2_8 := hX2_5.below hP; have hX3_9 := hX3.below hP; have hB_10 := hB_6.trans (hP.mono hB_6.size); clear hX1_4 hX2_5 hX3 hB_6 hP; go_frame))
  refine region_mixD [(0, true), (1, true), (2, true), (3, true), (4, false), (5, false), (6, true), (7, true), (8, true), (9, false), (10, true), (11, true), (12, true), (13, true), (14, true), (16, true), (15, false), (17, true), (18, true), (19, true)] (fun w => (TxsOf w tv1 plainB.txs) ∧ (IsVals w v2 ((blockL plainB).map VB)) ∧ (TxsOf w tv3 plainB.txs) ∧ (Row w y3.heap.size 29 (blkC plainB.head tv3))) (by kernel_rfl) (by kernel_rfl) rfl ?_
  intro z0 hBd hsd
  clear hsd
  have hX1_11 := hX1_7.below hBd
  have hX2_12 := hX2_8.below hBd
  have hX3_13 := hX3_9.below hBd
  have hT1_14 := hT1.below hBd hT1.lt
  have hB_15 := hB_10.trans (hBd.mono hB_10.size)
  clear hX1_7 hX2_8 hX3_9 hT1 hB_10 hBd
  simp only [List.map_cons, List.map_nil]
  dsimp only [List.filterMap, List.getElem?_cons_zero, List.getElem?_cons_succ]
  have hS : (TxsOf z0 tv1 plainB.txs) ∧ (IsVals z0 v2 ((blockL plainB).map VB)) ∧ (TxsOf z0 tv3 plainB.txs) ∧ (Row z0 y3.heap.size 29 (blkC plainB.head tv3)) := ⟨hX1_11, hX2_12, hX3_13, hT1_14⟩
  refine dY _ hS (yMove _ (.int .i64 0) rfl rfl rfl) ?_; go_frame
  refine dY _ hS (yEqlIC _ _ _ _ .i64 0 0 true rfl rfl rfl rfl (by simp)) ?_; go_frame
  refine dY _ hS (yMove _ (.bool true) rfl rfl rfl) ?_; go_frame
  refine dY _ hS (yLoadRowC Tryz.underlying29 rfl _ _ (blkC plainB.head tv3) (info_BlkS _ _) (fun _ h => h.2.2.2) rfl rfl rfl) ?_; go_frame
  refine dLoud ?_
  refine kCall0 9 _ rfl rfl (by kernel_rfl) ?_
  refine (plain11_any _).mono ?_
  rintro e y6 ⟨tv4, rfl, hX4o, hBq⟩
  clear hS
  have hX1_16 := hX1_11.below hBq
  have hX2_17 := hX2_12.below hBq
  have hX3_18 := hX3_13.below hBq
  have hT1_19 := hT1_14.below hBq hT1_14.lt
  have hB_20 := hB_15.trans (hBq.mono hB_15.size)
  clear hX1_11 hX2_12 hX3_13 hT1_14 hB_15 hBq
  have hX4 := hX4o.of
  clear hX4o
  have hS : (TxsOf y6 tv1 plainB.txs) ∧ (IsVals y6 v2 ((blockL plainB).map VB)) ∧ (TxsOf y6 tv3 plainB.txs) ∧ (Row y6 y3.heap.size 29 (blkC plainB.head tv3)) ∧ (TxsOf y6 tv4 plainB.txs) := ⟨hX1_16, hX2_17, hX3_18, hT1_19, hX4⟩
  refine ⟨_, rfl, mixOn ⟨(fun w => (TxsOf w tv1 plainB.txs) ∧ (IsVals w v2 ((blockL plainB).map VB)) ∧ (TxsOf w tv3 plainB.txs) ∧ (Row w y3.heap.size 29 (blkC plainB.head tv3)) ∧ (TxsOf w tv4 plainB.txs)), (fun _ h => ⟨h.1, h.2.1, h.2.2.1, h.2.2.2.1⟩), hS, ?_⟩⟩
  go_frame
  refine dLoud ?_
  refine kCall2 23 _ _ _ _ _ rfl rfl (by kernel_rfl) rfl rfl ?_
  refine (blSame_any (b := plainB) (c := plainB) _ plain_is plain_fits plain_is plain_fits hX3_18 hX4).mono ?_
  rintro e y7 ⟨rfl, hBq⟩
  clear hS
  have hX1_21 := hX1_16.below hBq
  have hX2_22 := hX2_17.below hBq
  have hX3_23 := hX3_18.below hBq
  have hT1_24 := hT1_19.below hBq hT1_19.lt
  have hX4_25 := hX4.below hBq
  have hB_26 := hB_20.trans (hBq.mono hB_20.size)
  clear hX1_16 hX2_17 hX3_18 hT1_19 hX4 hB_20 hBq
  rw [sameB_refl]
  have hS : (TxsOf y7 tv1 plainB.txs) ∧ (IsVals y7 v2 ((blockL plainB).map VB)) ∧ (TxsOf y7 tv3 plainB.txs) ∧ (Row y7 y3.heap.size 29 (blkC plainB.head tv3)) ∧ (TxsOf y7 tv4 plainB.txs) := ⟨hX1_21, hX2_22, hX3_23, hT1_24, hX4_25⟩
  refine ⟨_, rfl, mixOn ⟨(fun w => (TxsOf w tv1 plainB.txs) ∧ (IsVals w v2 ((blockL plainB).map VB)) ∧ (TxsOf w tv3 plainB.txs) ∧ (Row w y3.heap.size 29 (blkC plainB.head tv3)) ∧ (TxsOf w tv4 plainB.txs)), (fun _ h => ⟨h.1, h.2.1, h.2.2.1, h.2.2.2.1, h.2.2.2.2⟩), hS, ?_⟩⟩
  go_frame
  refine dY _ hS (yPick _ _ _ true (.bool true) rfl rfl rfl rfl) ?_; go_frame
  refine dY _ hS (yMove _ (.bool true) rfl rfl rfl) ?_; go_frame
  refine dY _ hS (yLoadRowC Tryz.underlying29 rfl _ _ (blkC plainB.head tv3) (info_BlkS _ _) (fun _ h => h.2.2.2.1) rfl rfl rfl) ?_; go_frame
  refine dLoud ?_
  refine kCall1 13 _ _ _ rfl rfl (by kernel_rfl) rfl ?_
  refine (blCheck_any (b := plainB) _ plain_is plain_fits hX3_23 (hK.below hB_26)).mono ?_
  rintro e y8 ⟨rfl, hBq⟩
  clear hS
  have hX1_27 := hX1_21.below hBq
  have hX2_28 := hX2_22.below hBq
  have hX3_29 := hX3_23.below hBq
  have hT1_30 := hT1_24.below hBq hT1_24.lt
  have hX4_31 := hX4_25.below hBq
  have hB_32 := hB_26.trans (hBq.mono hB_26.size)
  clear hX1_21 hX2_22 hX3_23 hT1_24 hX4_25 hB_26 hBq
  rw [plain_check]
  have hS : (TxsOf y8 tv1 plainB.txs) ∧ (IsVals y8 v2 ((blockL plainB).map VB)) ∧ (TxsOf y8 tv3 plainB.txs) ∧ (Row y8 y3.heap.size 29 (blkC plainB.head tv3)) ∧ (TxsOf y8 tv4 plainB.txs) := ⟨hX1_27, hX2_28, hX3_29, hT1_30, hX4_31⟩
  refine ⟨_, rfl, mixOn ⟨(fun w => (TxsOf w tv1 plainB.txs) ∧ (IsVals w v2 ((blockL plainB).map VB)) ∧ (TxsOf w tv3 plainB.txs) ∧ (Row w y3.heap.size 29 (blkC plainB.head tv3)) ∧ (TxsOf w tv4 plainB.txs)), (fun _ h => ⟨h.1, h.2.1, h.2.2.1, h.2.2.2.1, h.2.2.2.2⟩), hS, ?_⟩⟩
  go_frame
  refine dY _ hS (yEqlIC _ _ _ _ .i64 0 0 true rfl rfl rfl rfl (by simp)) ?_; go_frame
  refine dY _ hS (yPick _ _ _ true (.bool true) rfl rfl rfl rfl) ?_; go_frame
  refine dY _ hS (yMove _ (.bool true) rfl rfl rfl) ?_; go_frame
  refine dY _ hS (yFld blkF0 _ _ 0 0 rfl rfl rfl rfl) ?_; go_frame
  refine dY _ hS (yLoadPartC Tryz.underlying26 rfl _ y3.heap.size 0 68 (blkC plainB.head tv3) _ info_HeadC (by rw [blkC_size]; decide) (blkC_head _ _) (fun _ h => h.2.2.2.1) rfl rfl rfl) ?_; go_frame
  refine dY _ hS (yBuildHash0 rfl rfl) ?_; go_frame
  refine dLoud ?_
  refine kCall1 16 _ _ _ rfl rfl (by kernel_rfl) rfl ?_
  refine (blId_any (h := plainB.head) _ plain_is.1 (hK.below hB_32)).mono ?_
  rintro e y9 ⟨rfl, hBq⟩
  clear hS
  have hX1_33 := hX1_27.below hBq
  have hX2_34 := hX2_28.below hBq
  have hX3_35 := hX3_29.below hBq
  have hT1_36 := hT1_30.below hBq hT1_30.lt
  have hX4_37 := hX4_31.below hBq
  have hB_38 := hB_32.trans (hBq.mono hB_32.size)
  clear hX1_27 hX2_28 hX3_29 hT1_30 hX4_31 hB_32 hBq
  have hS : (TxsOf y9 tv1 plainB.txs) ∧ (IsVals y9 v2 ((blockL plainB).map VB)) ∧ (TxsOf y9 tv3 plainB.txs) ∧ (Row y9 y3.heap.size 29 (blkC plainB.head tv3)) ∧ (TxsOf y9 tv4 plainB.txs) := ⟨hX1_33, hX2_34, hX3_35, hT1_36, hX4_37⟩
  refine ⟨_, rfl, mixOn ⟨(fun w => (TxsOf w tv1 plainB.txs) ∧ (IsVals w v2 ((blockL plainB).map VB)) ∧ (TxsOf w tv3 plainB.txs) ∧ (Row w y3.heap.size 29 (blkC plainB.head tv3)) ∧ (TxsOf w tv4 plainB.txs)), (fun _ h => ⟨h.1, h.2.1, h.2.2.1, h.2.2.2.1, h.2.2.2.2⟩), hS, ?_⟩⟩
  go_frame
  refine dY _ hS (yNeqHash _ _ _ (hidL plainB.head) z32 true (hidL_len _) (z32_len) rfl rfl rfl rfl plain_id') ?_; go_frame
  refine dY _ hS (yPick _ _ _ true (.bool true) rfl rfl rfl rfl) ?_; go_frame
  refine dY _ hS (yAssign _ (.bool true) rfl rfl rfl) ?_; go_frame
  refine dDone ?_
  go_wp2
  go_ret
  exact ⟨rfl, hB_38⟩
end Go.Proofs.YtmfjgehlkbndjaaGreatDoor
