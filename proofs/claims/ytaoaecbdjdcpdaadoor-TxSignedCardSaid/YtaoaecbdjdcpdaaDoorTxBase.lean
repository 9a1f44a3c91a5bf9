/-
  Layer 10: what the statements begin with: the example, what is too great.
-/
import Derived.Test.YtaoaecbdjdcpdaaDoorHashAll
import Derived.Test.YtaoaecbdjdcpdaaDoorTxCheck2
namespace Go.Proofs.YtaoaecbdjdcpdaaDoor
open Go Go.RowKit

theorem info_HashT {l : List UInt8} : (Tryd.prog.info? 30).map (·.size) = some (tab 32 fun p => VB (at8 l p)).size := by rw [tab_size]; exact info_Hash
theorem eqGuard_HashT : Tryd.prog.eqGuardType Tryd.prog.depth 30 = false := by kernel_rfl
theorem run_eqHashT {l m : List UInt8} (hl : l.length = 32) (hm : m.length = 32) (w : World) : (Op.equalIn 10000 30 (.agg (tab 32 fun p => VB (at8 l p))) (.agg (tab 32 fun p => VB (at8 m p)))).run Tryd.prog w = .ok (decide (l = m)) w := run_equalBytes Tryd.underlying30 Tryd.underlying5 info_b8P 9998 hl hm
theorem built_HashT : Tryd.prog.built 30 [] = some (tab 32 fun p => VB (at8 z32 p)) := by
  have h : Tryd.prog.built 30 [] = some (tab 32 fun _ => VB 0) := by kernel_rfl
  rw [h]; exact congrArg some (tab_congr fun p hp => by rw [at_z32 p hp])
section
variable {P : Program} {ops : Array Oper} {Q : Exit → Act → World → Prop} {rest : List Oper} {o : Oper} {a : Act} {w : World} {S : World → Prop}
theorem yEqlHash (T2 : TypeId) (x y : Operand) (l m : List UInt8) (b : Bool) (hl : l.length = 32) (hm : m.length = 32) (ho : o.op = .binOp .eql 30 x y T2) (hg : Region.wanted o (yielded ops a.tmps) = true) (hx : a.eval x = HV l) (hy : a.eval y = HV m) (hb : decide (l = m) = b) : YieldsIf Tryd.prog ops S o (.bool b) a := by
  subst hb; exact yEqlSt T2 x y _ eqGuard_HashT (run_eqHashT hl hm) ho hg hx hy
theorem yNeqHash (T2 : TypeId) (x y : Operand) (l m : List UInt8) (b : Bool) (hl : l.length = 32) (hm : m.length = 32) (ho : o.op = .binOp .neq 30 x y T2) (hg : Region.wanted o (yielded ops a.tmps) = true) (hx : a.eval x = HV l) (hy : a.eval y = HV m) (hb : (!decide (l = m)) = b) : YieldsIf Tryd.prog ops S o (.bool b) a := by
  subst hb; exact yNeqSt T2 x y _ eqGuard_HashT (run_eqHashT hl hm) ho hg hx hy
theorem kEqlHash (T2 : TypeId) (x y : Operand) (l m : List UInt8) (b : Bool) (hl : l.length = 32) (hm : m.length = 32) (ho : o.op = .binOp .eql 30 x y T2) (hg : Region.wanted o (yielded ops a.tmps) = true) (hx : a.eval x = HV l) (hy : a.eval y = HV m) (hb : decide (l = m) = b) (h : wpList Tryd.prog ops Q rest (a.put o.dst (.bool b)) w) : wpList Tryd.prog ops Q (o :: rest) a w := by
  subst hb; exact kEqlSt T2 x y _ eqGuard_HashT (run_eqHashT hl hm) ho hg hx hy h
theorem yEqlBoolT (T T2 : TypeId) (x y : Operand) (b c d : Bool) (ho : o.op = .binOp .eql T x y T2) (hg : Region.wanted o (yielded ops a.tmps) = true) (hx : a.eval x = .bool b) (hy : a.eval y = .bool c) (ht : P.underlying T = some .bool) (hd : (b == c) = d) : YieldsIf P ops S o (.bool d) a :=
  yOf hg fun w _ => by
    subst hd
    have hr := run_eqlBool (P := P) (w := w) T b c x y ht
    unfold execOp; simp only [ho, hx, hy]; rw [Sem.run_bind, hr]; rfl
theorem yNeqBoolT (T T2 : TypeId) (x y : Operand) (b c d : Bool) (ho : o.op = .binOp .neq T x y T2) (hg : Region.wanted o (yielded ops a.tmps) = true) (hx : a.eval x = .bool b) (hy : a.eval y = .bool c) (ht : P.underlying T = some .bool) (hd : (b != c) = d) : YieldsIf P ops S o (.bool d) a :=
  yOf hg fun w _ => by
    subst hd
    have hr := run_neqBool (P := P) (w := w) T b c x y ht
    unfold execOp; simp only [ho, hx, hy]; rw [Sem.run_bind, hr]; rfl
theorem yBuildHash0 (ho : o.op = .build 30 #[]) (hg : Region.wanted o (yielded ops a.tmps) = true) : YieldsIf Tryd.prog ops S o (HV z32) a := yBuildAny _ #[] #[] _ ho hg (by simp) built_HashT
theorem kBuildIn2 (x y : Operand) (l t : List UInt8) (n : Nat) (u : Value) (hu : SliceV u) (ho : o.op = .build 34 #[(0, x), (1, y)]) (hg : Region.wanted o (yielded ops a.tmps) = true) (hx : a.eval x = .agg (refC l n)) (hy : a.eval y = u) (h : wpList Tryd.prog ops Q rest (a.put o.dst (.agg (inC ⟨l, n, t, 0⟩ u))) w) : wpList Tryd.prog ops Q (o :: rest) a w :=
  kBuildAny _ _ #[(0, .agg (refC l n)), (1, u)] _ ho hg (by simp [hx, hy]) (built_In2 hu l t n) h
end
theorem own_litT {w : World} {g base : Nat} (l : List UInt8) (hb : base ≤ g) (hl : l.length ≤ 10) (h : Row w g 5 (l.map VB).toArray) : OwnB w base (.slice (some ⟨g, 0, none⟩) l.length l.length) l :=
  ⟨by simp, .inr ⟨g, l.length, _, by simp, hb, h, by simp, by unfold maxLen; omega, by simp, by simp; exact List.take_of_length_le (by simp)⟩⟩
theorem ownR_one {n g base : Nat} {E : TypeId} {w : World} {x : List Value} (hb : base ≤ g) (h : Row w g E x.toArray) (hx : x.length = n) : OwnR n E w base (.slice (some ⟨g, 0, none⟩) 1 1) [x] :=
  ⟨⟨by simp [hx], .inr ⟨g, 1, x.toArray, rfl, hb, h, Nat.le_refl _, by decide, by simp [hx], by simp [List.take_of_length_le (Nat.le_of_eq hx)]⟩⟩, fun y hy => by simp at hy; subst hy; exact hx⟩
def baseT : TxP := ⟨1, [⟨z32, 4294967295, [1, 2], 0⟩], [(5, [81])], 0⟩
theorem base_is : baseT.Is := ⟨by decide, by decide, fun i hi => by simp [baseT] at hi; subst hi; exact ⟨rfl, by decide, by decide⟩, fun x hx => by simp [baseT] at hx; subst hx; exact ⟨by decide, by decide⟩⟩
theorem base_fits : baseT.Fits := ⟨by decide, by decide, fun i hi => by simp [baseT] at hi; subst hi; decide, fun x hx => by simp [baseT] at hx; subst hx; decide⟩
def BasePost (w : World) (e : Ending) (w' : World) : Prop := ∃ a b, e = .returned (.agg (txC baseT.version a b baseT.end')) ∧ OwnIns w' w.heap.size a baseT.ins ∧ OwnOuts w' w.heap.size b baseT.outs ∧ Below w.heap.size w w'
theorem parse_txL {t : TxP} (h : t.Is) (hf : t.Fits) : parseT (txL t) = (t, 0) := by
  have := tx_back h hf []
  rw [List.append_nil] at this
  unfold parseT
  rw [this]; rfl
theorem base_check : checkN baseT = 0 := by decide +kernel
theorem base_base : baseB baseT.ins = true := by decide +kernel
set_option maxRecDepth 100000 in
theorem base_id : (idL baseT == z32) = false := by decide +kernel
theorem base_id' : (!decide (idL baseT = z32)) = true := by
  have h := base_id
  simp only [beq_eq_false_iff_ne] at h
  simp [h]
theorem base_parse : parseT (txL baseT) = (baseT, 0) := parse_txL base_is base_fits
theorem base_len : (txL baseT).length ≤ 1000000 := Nat.le_trans (txL_len base_is base_fits) (by decide)
set_option maxRecDepth 100000 in
set_option maxHeartbeats 8000000 in
theorem base10_any (W0 : World) : Calls Tryd.prog 9 #[] W0 (BasePost W0) := by
  obtain ⟨i, hi, hz, hs1, hby⟩ := b8Info
  go_enter Tryd.func9, Tryd.ntmps9
  go_wp2_with (first
    | ((with_reducible change wpList _ _ _ (Oper.mk (some 0) _ _ _ _ _ :: _) _ _); refine kAllocL _ _ rfl rfl zero_TxC ?_; intro w1 hRA hz1 hB1; have hs : Hid (W0.heap.size < w1.heap.size) := hz1; clear hz1; go_frame)
    | ((with_reducible change wpList _ _ _ (Oper.mk (some 1) _ _ _ _ _ :: _) _ _); refine kBuildRefN _ rfl rfl rfl ?_; go_frame)
    | ((with_reducible change wpList _ _ _ (Oper.mk (some 2) _ _ _ _ _ :: _) _ _); refine kBuildSlice2 _ _ _ _ (VB 1) (VB 2) rfl rfl Tryd.underlying28 i _ hi hz hs1 rfl rfl rfl rfl ?_; intro w2 hR2 hz2 hB2; have hU : OwnB w2 w1.heap.size (.slice (some ⟨w1.heap.size, 0, none⟩) 2 2) [1, 2] := own_litT (base := w1.heap.size) [1, 2] (Nat.le_refl _) (by decide) hR2; have hRA2 := hRA.below hB2 hRA.lt; clear hz2 hR2 hRA; go_frame)
    | ((with_reducible change wpList _ _ _ (Oper.mk (some 3) _ _ _ _ _ :: _) _ _); refine kBuildIn2 _ _ z32 [1, 2] 4294967295 _ hU.vals.sl rfl rfl rfl rfl ?_; go_frame)
    | ((with_reducible change wpList _ _ _ (Oper.mk (some 4) _ _ _ _ _ :: _) _ _); refine kBuildIn1 _ ⟨z32, 4294967295, [1, 2], 0⟩ _ hU.vals.sl rfl rfl rfl ?_; intro w3 hR3 hz3 hB3; have hOI : OwnR 35 34 w3 w1.heap.size _ [inR ((⟨z32, 4294967295, [1, 2], 0⟩ : InP), _)] := ownR_one hB2.size hR3 (inR_len _); have hI3 : OwnIns w3 w1.heap.size _ baseT.ins := ⟨[((⟨z32, 4294967295, [1, 2], 0⟩ : InP), _)], rfl, hOI, fun z hz => by simp at hz; subst hz; exact hU.below hB3⟩; have hRA3 := hRA2.below hB3 hRA2.lt; have hB4 := hB2.trans (hB3.mono hB2.size); clear hz3 hR3 hRA2 hB2 hB3 hOI hU; go_frame)
    | ((with_reducible change wpList _ _ _ (Oper.mk (some 5) _ _ _ _ _ :: _) _ _); refine kBuildSlice1 _ _ _ (VB 81) rfl rfl Tryd.underlying28 i _ hi hz hs1 rfl rfl ?_; intro w4 hR4 hz4 hB5; have hU : OwnB w4 w1.heap.size (.slice (some ⟨w3.heap.size, 0, none⟩) 1 1) [81] := own_litT (base := w1.heap.size) [81] hB4.size (by decide) hR4; have hRA4 := hRA3.below hB5 hRA3.lt; have hI4 := hI3.below hB5; have hB6 := hB4.trans (hB5.mono hB4.size); clear hz4 hR4 hRA3 hI3 hB4 hB5; go_frame)
    | ((with_reducible change wpList _ _ _ (Oper.mk (some 6) _ _ _ _ _ :: _) _ _); refine kBuildOut2 _ _ 5 _ hU.vals rfl rfl rfl rfl ?_; go_frame)
    | ((with_reducible change wpList _ _ _ (Oper.mk (some 7) _ _ _ _ _ :: _) _ _); refine kBuildOut1T _ 5 [81] _ hU.vals.sl rfl rfl rfl ?_; intro w5 hR5 hz5 hB7; have hOO : OwnR 2 36 w5 w1.heap.size _ [outR (((5 : Int), [81]), _)] := ownR_one hB6.size hR5 (outR_len _); have hO5 : OwnOuts w5 w1.heap.size _ baseT.outs := ⟨[(((5 : Int), [81]), _)], rfl, hOO, fun z hz => by simp at hz; subst hz; exact hU.below hB7⟩; have hRA5 := hRA4.below hB7 hRA4.lt; have hI5 := hI4.below hB7; have hB8 := hB6.trans (hB7.mono hB6.size); clear hz5 hR5 hRA4 hI4 hB6 hB7 hOO hU; go_frame)
    | ((with_reducible change wpList _ _ _ (Oper.mk (some 8) _ _ _ _ _ :: _) _ _); refine kBuildTx3 _ _ _ 1 _ _ hI5.of.sl hO5.of.sl rfl rfl rfl rfl rfl ?_; go_frame)
    | ((with_reducible change wpList _ _ _ (Oper.mk none _ _ _ _ _ :: _) _ _); refine kStoreTx _ _ W0.heap.size 1 0 _ _ _ hRA5 rfl hI5.of.sl.one hO5.of.sl.one rfl rfl rfl rfl ?_; intro w6 hRA6 hW6; have hI6 := (hI5.over (over_wrote hW6 hs.out)).less (Nat.le_of_lt hs.out); have hO6 := (hO5.over (over_wrote hW6 hs.out)).less (Nat.le_of_lt hs.out); have hB9 := (hB1.trans (hB8.mono (Nat.le_of_lt hs.out))).trans (hW6.below (Nat.le_refl _)); go_frame))
  (try simp only [Exit.inBlock, Exit.then])
  exact result_row rfl rfl hRA6 Tryd.underlying26 rfl info_TxC rfl ⟨_, _, rfl, hI6, hO6, hB9⟩
end Go.Proofs.YtaoaecbdjdcpdaaDoor
