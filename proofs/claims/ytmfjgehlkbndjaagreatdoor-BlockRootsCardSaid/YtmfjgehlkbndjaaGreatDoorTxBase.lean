/-
  Layer 10: what the statements begin with: the example, what is too great.
-/
import Derived.Test.YtmfjgehlkbndjaaGreatDoorHashAll
import Derived.Test.YtmfjgehlkbndjaaGreatDoorTxChAll
namespace Go.Proofs.YtmfjgehlkbndjaaGreatDoor
open Go Go.RowKit

theorem info_HashT {l : List UInt8} : (Tryz.prog.info? 24).map (·.size) = some (tab 32 fun p => VB (at8 l p)).size := by rw [tab_size]; exact info_Hash
theorem eqGuard_HashT : Tryz.prog.eqGuardType Tryz.prog.depth 24 = false := by kernel_rfl
theorem run_eqHashT {l m : List UInt8} (hl : l.length = 32) (hm : m.length = 32) (w : World) : (Op.equalIn 10000 24 (.agg (tab 32 fun p => VB (at8 l p))) (.agg (tab 32 fun p => VB (at8 m p)))).run Tryz.prog w = .ok (decide (l = m)) w := run_equalBytes Tryz.underlying24 Tryz.underlying5 info_b8P 9998 hl hm
theorem built_HashT : Tryz.prog.built 24 [] = some (tab 32 fun p => VB (at8 z32 p)) := by
  have h : Tryz.prog.built 24 [] = some (tab 32 fun _ => VB 0) := by kernel_rfl
  rw [h]; exact congrArg some (tab_congr fun p hp => by rw [at_z32 p hp])
section
variable {P : Program} {ops : Array Oper} {Q : Exit → Act → World → Prop} {rest : List Oper} {o : Oper} {a : Act} {w : World} {S : World → Prop}
theorem yEqlHash (T2 : TypeId) (x y : Operand) (l m : List UInt8) (b : Bool) (hl : l.length = 32) (hm : m.length = 32) (ho : o.op = .binOp .eql 24 x y T2) (hg : Region.wanted o (yielded ops a.tmps) = true) (hx : a.eval x = HV l) (hy : a.eval y = HV m) (hb : decide (l = m) = b) : YieldsIf Tryz.prog ops S o (.bool b) a := by
  subst hb; exact yEqlSt T2 x y _ eqGuard_HashT (run_eqHashT hl hm) ho hg hx hy
theorem yNeqHash (T2 : TypeId) (x y : Operand) (l m : List UInt8) (b : Bool) (hl : l.length = 32) (hm : m.length = 32) (ho : o.op = .binOp .neq 24 x y T2) (hg : Region.wanted o (yielded ops a.tmps) = true) (hx : a.eval x = HV l) (hy : a.eval y = HV m) (hb : (!decide (l = m)) = b) : YieldsIf Tryz.prog ops S o (.bool b) a := by
  subst hb; exact yNeqSt T2 x y _ eqGuard_HashT (run_eqHashT hl hm) ho hg hx hy
theorem kEqlHash (T2 : TypeId) (x y : Operand) (l m : List UInt8) (b : Bool) (hl : l.length = 32) (hm : m.length = 32) (ho : o.op = .binOp .eql 24 x y T2) (hg : Region.wanted o (yielded ops a.tmps) = true) (hx : a.eval x = HV l) (hy : a.eval y = HV m) (hb : decide (l = m) = b) (h : wpList Tryz.prog ops Q rest (a.put o.dst (.bool b)) w) : wpList Tryz.prog ops Q (o :: rest) a w := by
  subst hb; exact kEqlSt T2 x y _ eqGuard_HashT (run_eqHashT hl hm) ho hg hx hy h
theorem yEqlBoolT (T T2 : TypeId) (x y : Operand) (b c d : Bool) (ho : o.op = .binOp .eql T x y T2) (hg : Region.wanted o (yielded ops a.tmps) = true) (hx : a.eval x = .bool b) (hy : a.eval y = .bool c) (ht : P.underlying T = some .bool) (hd : (b == c) = d) : YieldsIf P ops S o (.bool d) a :=
  yOf hg fun w _ => by
    subst hd
    have hr := run_eqlBool (P := P) (w := w) T b c x y ht
    unfold execOp; simp only [ho, hx, hy]; rw [Sem.run_bind, hr]; rfl
theorem yNeqBoolT (T T2 : TypeId) (x y : Operand) (b c d : Bool) (ho : o.op = .binOp .neq T x y T2) (hg : Region.wanted o (yielded ops a.tmps) = true) (hx : a.eval x = .bool b) (hy : a.eval y = .bool c) (ht : P.underlying T = some .bool) (hd : (b != c) = d) : YieldsIf P ops S o (.bool d) a :=
  yOf hg fun w _ => by
    subst hd
    have hr := run_neqBool (P := P) (w := w) T b c x y ht
    unfold execOp; simp only [ho, hx, hy]; rw [Sem.run_bind, hr]; rfl
theorem yBuildHash0 (ho : o.op = .build 24 #[]) (hg : Region.wanted o (yielded ops a.tmps) = true) : YieldsIf Tryz.prog ops S o (HV z32) a := yBuildAny _ #[] #[] _ ho hg (by simp) built_HashT
theorem kBuildIn2 (x y : Operand) (l t : List UInt8) (n : Nat) (u : Value) (hu : SliceV u) (ho : o.op = .build 62 #[(0, x), (1, y)]) (hg : Region.wanted o (yielded ops a.tmps) = true) (hx : a.eval x = .agg (refC l n)) (hy : a.eval y = u) (h : wpList Tryz.prog ops Q rest (a.put o.dst (.agg (inC ⟨l, n, t, 0⟩ u))) w) : wpList Tryz.prog ops Q (o :: rest) a w :=
  kBuildAny _ _ #[(0, .agg (refC l n)), (1, u)] _ ho hg (by simp [hx, hy]) (built_In2 hu l t n) h
end
theorem own_litT {w : World} {g base : Nat} (l : List UInt8) (hb : base ≤ g) (hl : l.length ≤ 10) (h : Row w g 5 (l.map VB).toArray) : OwnB w base (.slice (some ⟨g, 0, none⟩) l.length l.length) l :=
  ⟨by simp, .inr ⟨g, l.length, _, by simp, hb, h, by simp, by unfold maxLen; omega, by simp, by simp; exact List.take_of_length_le (by simp)⟩⟩
theorem ownR_one {n g base : Nat} {E : TypeId} {w : World} {x : List Value} (hb : base ≤ g) (h : Row w g E x.toArray) (hx : x.length = n) : OwnR n E w base (.slice (some ⟨g, 0, none⟩) 1 1) [x] :=
  ⟨⟨by simp [hx], .inr ⟨g, 1, x.toArray, rfl, hb, h, Nat.le_refl _, by decide, by simp [hx], by simp [List.take_of_length_le (Nat.le_of_eq hx)]⟩⟩, fun y hy => by simp at hy; subst hy; exact hx⟩
end Go.Proofs.YtmfjgehlkbndjaaGreatDoor
