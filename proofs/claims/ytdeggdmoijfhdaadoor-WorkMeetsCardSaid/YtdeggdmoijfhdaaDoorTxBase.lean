/-
  Layer 10: what the statements begin with: the example, what is too great.
-/
import Derived.Test.YtdeggdmoijfhdaaDoorHashAll
import Derived.Test.YtdeggdmoijfhdaaDoorTxChAll
namespace Go.Proofs.YtdeggdmoijfhdaaDoor
open Go Go.RowKit

theorem info_HashT {l : List UInt8} : (Tryd.prog.info? 24).map (·.size) = some (tab 32 fun p => VB (at8 l p)).size := by rw [tab_size]; exact info_Hash
theorem eqGuard_HashT : Tryd.prog.eqGuardType Tryd.prog.depth 24 = false := by kernel_rfl
theorem run_eqHashT {l m : List UInt8} (hl : l.length = 32) (hm : m.length = 32) (w : World) : (Op.equalIn 10000 24 (.agg (tab 32 fun p => VB (at8 l p))) (.agg (tab 32 fun p => VB (at8 m p)))).run Tryd.prog w = .ok (decide (l = m)) w := run_equalBytes Tryd.underlying24 Tryd.underlying5 info_b8P 9998 hl hm
theorem built_HashT : Tryd.prog.built 24 [] = some (tab 32 fun p => VB (at8 z32 p)) := by
  have h : Tryd.prog.built 24 [] = some (tab 32 fun _ => VB 0) := by kernel_rfl
  rw [h]; exact congrArg some (tab_congr fun p hp => by rw [at_z32 p hp])
section
variable {P : Program} {ops : Array Oper} {Q : Exit → Act → World → Prop} {rest : List Oper} {o : Oper} {a : Act} {w : World} {S : World → Prop}
theorem yEqlHash (T2 : TypeId) (x y : Operand) (l m : List UInt8) (b : Bool) (hl : l.length = 32) (hm : m.length = 32) (ho : o.op = .binOp .eql 24 x y T2) (hg : Region.wanted o (yielded ops a.tmps) = true) (hx : a.eval x = HV l) (hy : a.eval y = HV m) (hb : decide (l = m) = b) : YieldsIf Tryd.prog ops S o (.bool b) a := by
  subst hb; exact yEqlSt T2 x y _ eqGuard_HashT (run_eqHashT hl hm) ho hg hx hy
theorem yNeqHash (T2 : TypeId) (x y : Operand) (l m : List UInt8) (b : Bool) (hl : l.length = 32) (hm : m.length = 32) (ho : o.op = .binOp .neq 24 x y T2) (hg : Region.wanted o (yielded ops a.tmps) = true) (hx : a.eval x = HV l) (hy : a.eval y = HV m) (hb : (!decide (l = m)) = b) : YieldsIf Tryd.prog ops S o (.bool b) a := by
  subst hb; exact yNeqSt T2 x y _ eqGuard_HashT (run_eqHashT hl hm) ho hg hx hy
theorem kEqlHash (T2 : TypeId) (x y : Operand) (l m : List UInt8) (b : Bool) (hl : l.length = 32) (hm : m.length = 32) (ho : o.op = .binOp .eql 24 x y T2) (hg : Region.wanted o (yielded ops a.tmps) = true) (hx : a.eval x = HV l) (hy : a.eval y = HV m) (hb : decide (l = m) = b) (h : wpList Tryd.prog ops Q rest (a.put o.dst (.bool b)) w) : wpList Tryd.prog ops Q (o :: rest) a w := by
  subst hb; exact kEqlSt T2 x y _ eqGuard_HashT (run_eqHashT hl hm) ho hg hx hy h
theorem yEqlBoolT (T T2 : TypeId) (x y : Operand) (b c d : Bool) (ho : o.op = .binOp .eql T x y T2) (hg : Region.wanted o (yielded ops a.tmps) = true) (hx : a.eval x = .bool b) (hy : a.eval y = .bool c) (ht : P.underlying T = some .bool) (hd : (b == c) = d) : YieldsIf P ops S o (.bool d) a :=
  yOf hg fun w _ => by
    subst hd
    have hr := run_eqlBool (P := P) (w := w) T b c x y ht
    unfold execOp; simp only [ho, hx, hy]; rw [Sem.run_bind, hr]; rfl
theorem yNeqBoolT (T T2 : TypeId) (x y : Operand) (b c d : Bool) (ho : o.op = .binOp .neq T x y T2) (hg : Region.wanted o (yielded ops a.tmps) = true) (hx : a.eval x = .bool b) (hy : a.eval y = .bool c) (ht : P.underlying T = some .bool) (hd : (b != c) = d) : YieldsIf P ops S o (.bool d) a :=
  yOf hg fun w _ => by
    subst hd
    have hr := run_neqBool (P := P) (w := w) T b c x y ht
    unfold execOp; simp only [ho, hx, hy]; rw [Sem.run_bind, hr]; rfl
theorem yBuildHash0 (ho : o.op = .build 24 #[]) (hg : Region.wanted o (yielded ops a.tmps) = true) : YieldsIf Tryd.prog ops S o (HV z32) a := yBuildAny _ #[] #[] _ ho hg (by simp) built_HashT
end
theorem own_litT {w : World} {g base : Nat} (l : List UInt8) (hb : base ≤ g) (hl : l.length ≤ 10) (h : Row w g 5 (l.map VB).toArray) : OwnB w base (.slice (some ⟨g, 0, none⟩) l.length l.length) l :=
  ⟨by simp, .inr ⟨g, l.length, _, by simp, hb, h, by simp, by unfold maxLen; omega, by simp, by simp; exact List.take_of_length_le (by simp)⟩⟩
theorem ownR_one {n g base : Nat} {E : TypeId} {w : World} {x : List Value} (hb : base ≤ g) (h : Row w g E x.toArray) (hx : x.length = n) : OwnR n E w base (.slice (some ⟨g, 0, none⟩) 1 1) [x] :=
  ⟨⟨by simp [hx], .inr ⟨g, 1, x.toArray, rfl, hb, h, Nat.le_refl _, by decide, by simp [hx], by simp [List.take_of_length_le (Nat.le_of_eq hx)]⟩⟩, fun y hy => by simp at hy; subst hy; exact hx⟩
def baseT : TxP := ⟨1, [⟨z32, 4294967295, [1, 2], 0⟩], [(5, [81])], 0⟩
theorem base_is : baseT.Is := ⟨by decide, by decide, fun i hi => by simp [baseT] at hi; subst hi; exact ⟨rfl, by decide, by decide⟩, fun x hx => by simp [baseT] at hx; subst hx; exact ⟨by decide, by decide⟩⟩
theorem base_fits : baseT.Fits := ⟨by decide, by decide, fun i hi => by simp [baseT] at hi; subst hi; decide, fun x hx => by simp [baseT] at hx; subst hx; decide⟩
theorem parse_txL {t : TxP} (h : t.Is) (hf : t.Fits) : parseT (txL t) = (t, 0) := by
  have := tx_back h hf []
  rw [List.append_nil] at this
  unfold parseT
  rw [this]; rfl
theorem base_check : checkN baseT = 0 := by decide +kernel
theorem base_base : baseB baseT.ins = true := by decide +kernel
set_option maxRecDepth 100000 in
theorem base_id : (idL baseT == z32) = false := by decide +kernel
theorem base_id' : (!decide (idL baseT = z32)) = true := by
  have h := base_id
  simp only [beq_eq_false_iff_ne] at h
  simp [h]
theorem base_parse : parseT (txL baseT) = (baseT, 0) := parse_txL base_is base_fits
theorem base_len : (txL baseT).length ≤ 1000000 := Nat.le_trans (txL_len base_is base_fits) (by decide)
end Go.Proofs.YtdeggdmoijfhdaaDoor
