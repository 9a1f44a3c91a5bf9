/-
  Layer 10: Parse of the reference; names; transactions held against each other; what makes something.
-/
import Derived.Test.YtmfjgehlkbndjaaGreatDoorTxReAll
import Derived.Test.YtmfjgehlkbndjaaGreatDoorCoKit2
import Derived.Test.YtmfjgehlkbndjaaGreatDoorCoSame
import Derived.Test.YtmfjgehlkbndjaaGreatDoorTwice
namespace Go.Proofs.YtmfjgehlkbndjaaGreatDoor
open Go Go.RowKit

variable {Lm : Nat}
section
variable {ops : Array Oper} {o : Oper} {a : Act} {S : World → Prop}
theorem yBuildAny {P : Program} (T : TypeId) (parts : Array (Nat × Operand)) (vs : Array (Nat × Value)) (cs : Array Value) (ho : o.op = .build T parts) (hg : Region.wanted o (yielded ops a.tmps) = true) (hp : (parts.map fun (i, x) => (i, a.eval x)) = vs) (hb : P.built T vs.toList = some cs) : YieldsIf P ops S o (.agg cs) a :=
  yOf hg fun w _ => by
    unfold execOp
    simp only [ho, Sem.run_bind, hp]
    have := run_build w T vs cs hb
    simp [this]
end
theorem retBT {fn : Func} {R : Ending → World → Prop} {P : Program} {a : Act} {w : World} {t : Tmp} (h : fn.results = #[.tmp t]) (hd : a.defers = []) (hR : R (.returned (a.tmps.getD t undef)) w) : bodyPost P fn R .ret a w :=
  bodyPost_ret (by simp [results, h]) hd hR
def HV (l : List UInt8) : Value := .agg (tab 32 fun p => VB (at8 l p))
def idL (t : TxP) : List UInt8 := sha (sha (txL t))
theorem idL_len (t : TxP) : (idL t).length = 32 := sha_len _
def HashPost (w : World) (l : List UInt8) (e : Ending) (w' : World) : Prop := e = .returned (HV l) ∧ Below w.heap.size w w'
def BoolPost (w : World) (b : Bool) (e : Ending) (w' : World) : Prop := e = .returned (.bool b) ∧ Below w.heap.size w w'
theorem txL_len {t : TxP} (h : t.Is) (hf : t.Fits) : (txL t).length ≤ 900000 := by
  rw [txL_split]
  have h1 := countL_le t.ins.length
  have h2 := countL_le t.outs.length
  have hi : ∀ l : List InP, (∀ i ∈ l, i.Is) → (∀ i ∈ l, i.unlock.length ≤ 2000) → (insL l).length ≤ l.length * 2060 := by
    intro l
    induction l with
    | nil => intro _ _; simp [insL]
    | cons x l ih =>
      intro g1 g2
      have a1 := ih (fun i hi => g1 i (by simp [hi])) (fun i hi => g2 i (by simp [hi]))
      have a2 := inL_le (g2 x (by simp)) (g1 x (by simp)).1
      have e : insL (x :: l) = inL x ++ insL l := by unfold insL; rw [List.map_cons, List.flatten_cons]
      rw [e, List.length_append, List.length_cons, Nat.add_mul]; omega
  have ho : ∀ l : List (Int × List UInt8), (∀ i ∈ l, i.2.length ≤ 2000) → (outsL l).length ≤ l.length * 2060 := by
    intro l
    induction l with
    | nil => intro _; simp [outsL]
    | cons x l ih =>
      intro g2
      have a1 := ih (fun i hi => g2 i (by simp [hi]))
      have a2 : (outPL x).length ≤ 2017 := outL_le (g2 x (by simp))
      have e : outsL (x :: l) = outPL x ++ outsL l := by unfold outsL; rw [List.map_cons, List.flatten_cons]
      rw [e, List.length_append, List.length_cons, Nat.add_mul]; omega
  have b1 := hi t.ins h.2.2.1 hf.2.2.1
  have b2 := ho t.outs hf.2.2.2
  have b3 := Nat.mul_le_mul_right 2060 hf.1
  have b4 := Nat.mul_le_mul_right 2060 hf.2.1
  simp only [List.length_append, fixedL_len]
  omega
set_option maxRecDepth 100000 in
set_option maxHeartbeats 8000000 in
theorem tId_any {t : TxP} {a b : Value} (W0 : World) (ht : t.Is) (hf : t.Fits) (ha : InsOf W0 a t.ins) (hb : OutsOf W0 b t.outs) (hK : Keys W0) : Calls Tryz.prog 49 #[.agg (txC t.version a b t.end')] W0 (HashPost W0 (idL t)) := by
  obtain ⟨iy, hiy, hzy, hsy⟩ := bysInfoC
  have hlen := txL_len ht hf
  go_enter Tryz.func49, Tryz.ntmps49
  go_wp2_with (first
    | ((with_reducible change wpList _ _ _ (Oper.mk (some 1) _ _ _ _ _ :: _) _ _); refine kBoxL _ _ _ rfl rfl rfl ?_; intro w1 hR hz1 hB1; have ha1 := ha.below hB1; have hb1 := hb.below hB1; clear hz1; go_frame)
    | ((with_reducible change wpList _ _ _ (Oper.mk (some 2) _ _ _ _ _ :: _) _ _); refine kAllocL _ _ rfl rfl zero_Hash ?_; intro w2 hRH hz2 hB2; have hR2 := hR.below hB2 hR.lt; have ha2 := ha1.below hB2; have hb2 := hb1.below hB2; have hB3 := hB1.trans (hB2.mono hB1.size); have hs1 : Hid (W0.heap.size ≤ w1.heap.size) := hB1.size; clear hR ha1 hb1 hB1 hB2 hz2; go_frame)
    | ((with_reducible change wpList _ _ _ (Oper.mk (some 3) _ _ _ _ _ :: _) _ _); refine kLoadTx _ _ t.version t.end' a b hR2 rfl rfl rfl ?_; go_frame)
    | (go_at_call 42; refine (tBytes_any _ ht hf ha2 hb2).mono ?_; rintro e w3 ⟨v, rfl, hO, hBq⟩; have hRH3 := hRH.below hBq hRH.lt; have hB4 := hB3.trans (hBq.mono hB3.size); clear hRH hB3 hBq ha2 hb2 hR2; go_frame)
    | ((with_reducible change wpList _ _ _ (Oper.mk (some 5) _ _ _ _ _ :: _) _ _); refine kBuildSlice1 _ _ _ v rfl rfl Tryz.underlying109 iy _ hiy hzy hsy rfl hO.vals.sl.one ?_; intro w4 hR4 hz4 hBq; have hAl := areLists_one hR4 (hO.vals.below hBq); have hRH4 := hRH3.below hBq hRH3.lt; have hB5 := hB4.trans (hBq.mono hB4.size); have hK5 := hK.below hB5; clear hR4 hz4 hBq hO hRH3 hB4; go_frame)
    | (go_at_call 39; refine (Twice_any [txL t] _ _ hK5 hAl (by simp) (by simp; omega)).mono ?_; rintro e w5 ⟨rfl, hBq⟩; have hRH5 := hRH4.below hBq hRH4.lt; have hB6 := hB5.trans (hBq.mono hB5.size); clear hBq hRH4 hB5 hAl hK5; rw [show [txL t].flatten = txL t by simp]; go_frame)
    | ((with_reducible change wpList _ _ _ (Oper.mk none (Op.store 24 _ _) _ _ _ _ :: _) _ _); refine kStoreRow _ _ _ _ _ _ _ rfl rfl rfl rfl hRH5 (by rw [tab_size]; exact info_Hash) (by simp only [tab_size]) (tab_one _ _ fun _ _ => rfl) ?_; intro w6 hRH6 hW6; have hB7 := hB6.trans (hW6.below hs1.out); go_frame))
  (try simp only [Exit.inBlock, Exit.then])
  exact result_row rfl rfl hRH6 Tryz.underlying24 rfl (by rw [tab_size]; exact info_Hash) rfl ⟨rfl, hB7⟩
set_option maxRecDepth 100000 in
set_option maxHeartbeats 8000000 in
theorem yId_any {t : TxP} {a b : Value} (W0 : World) (ht : t.Is) (hf : t.Fits) (ha : InsOf W0 a t.ins) (hb : OutsOf W0 b t.outs) : Calls Tryz.prog 29 #[.agg (txC t.version a b t.end')] W0 (HashPost W0 (idL t)) := by
  have hlen := txL_len ht hf
  go_enter Tryz.func29, Tryz.ntmps29
  go_wp2_with (first
    | ((with_reducible change wpList _ _ _ (Oper.mk (some 1) _ _ _ _ _ :: _) _ _); refine kBoxL _ _ _ rfl rfl rfl ?_; intro w1 hR hz1 hB1; have ha1 := ha.below hB1; have hb1 := hb.below hB1; clear hz1; go_frame)
    | ((with_reducible change wpList _ _ _ (Oper.mk (some 2) _ _ _ _ _ :: _) _ _); refine kAllocL _ _ rfl rfl zero_Hash ?_; intro w2 hRH hz2 hB2; have hR2 := hR.below hB2 hR.lt; have ha2 := ha1.below hB2; have hb2 := hb1.below hB2; have hB3 := hB1.trans (hB2.mono hB1.size); have hs1 : Hid (W0.heap.size ≤ w1.heap.size) := hB1.size; clear hR ha1 hb1 hB1 hB2 hz2; go_frame)
    | ((with_reducible change wpList _ _ _ (Oper.mk (some 3) _ _ _ _ _ :: _) _ _); refine kLoadTx _ _ t.version t.end' a b hR2 rfl rfl rfl ?_; go_frame)
    | (go_at_call 45; refine (yBytes_any _ ht hf ha2 hb2).mono ?_; rintro e w3 ⟨v, rfl, hO, hBq⟩; have hRH3 := hRH.below hBq hRH.lt; have hB4 := hB3.trans (hBq.mono hB3.size); clear hRH hB3 hBq ha2 hb2 hR2; go_frame)
    | (go_at_call 40; refine (rTwice_any (txL t) _ _ hO.vals (by omega)).mono ?_; rintro e w5 ⟨rfl, hBq⟩; have hRH5 := hRH3.below hBq hRH3.lt; have hB6 := hB4.trans (hBq.mono hB4.size); clear hBq hRH3 hB4; go_frame)
    | ((with_reducible change wpList _ _ _ (Oper.mk none (Op.store 24 _ _) _ _ _ _ :: _) _ _); refine kStoreRow _ _ _ _ _ _ _ rfl rfl rfl rfl hRH5 (by rw [tab_size]; exact info_Hash) (by simp only [tab_size]) (tab_one _ _ fun _ _ => rfl) ?_; intro w6 hRH6 hW6; have hB7 := hB6.trans (hW6.below hs1.out); go_frame))
  (try simp only [Exit.inBlock, Exit.then])
  exact result_row rfl rfl hRH6 Tryz.underlying24 rfl (by rw [tab_size]; exact info_Hash) rfl ⟨rfl, hB7⟩
end Go.Proofs.YtmfjgehlkbndjaaGreatDoor
