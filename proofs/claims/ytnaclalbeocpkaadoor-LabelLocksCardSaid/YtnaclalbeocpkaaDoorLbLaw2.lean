/-
  Layer 8: the walk of LabelLocks.
-/
import Derived.Test.YtnaclalbeocpkaaDoorLbLaw1
import Derived.Test.YtnaclalbeocpkaaDoorLbParse
namespace Go.Proofs.YtnaclalbeocpkaaDoor
open Go Go.RowKit

section
variable {P : Program} {ops : Array Oper} {o : Oper} {a : Act} {S : World → Prop}
theorem yEqlI8 (T T2 : TypeId) (x y : Operand) (k : IntKind) (m n : Int) (b : Bool) (ho : o.op = .binOp .eql T x y T2) (hg : Region.wanted o (yielded ops a.tmps) = true) (hx : a.eval x = .int k m) (hy : a.eval y = .int k n) (hb : decide (m = n) = b) : YieldsIf P ops S o (.bool b) a :=
  yOf hg fun w _ => by
    subst hb
    unfold execOp
    simp only [ho, hx, hy]
    simp [eqGuard, binOp, Op.intCmp]
    rfl
theorem yNeqBool8 (T T2 : TypeId) (x y : Operand) (b c d : Bool) (ho : o.op = .binOp .neq T x y T2) (hg : Region.wanted o (yielded ops a.tmps) = true) (hx : a.eval x = .bool b) (hy : a.eval y = .bool c) (ht : P.underlying T = some .bool) (hd : (b != c) = d) : YieldsIf P ops S o (.bool d) a :=
  yOf hg fun w _ => by
    subst hd
    have hr := run_neqBool (P := P) (w := w) T b c x y ht
    unfold execOp
    simp only [ho, hx, hy]
    rw [Sem.run_bind, hr]; rfl
theorem yNeqArr8 (T T2 elem : TypeId) (x y : Operand) (len : Nat) (k k' : IntKind) (f g : Nat → Int) (b : Bool) (ho : o.op = .binOp .neq T x y T2) (hg : Region.wanted o (yielded ops a.tmps) = true) (hx : a.eval x = .agg (tab len fun j => .int k (f j))) (hy : a.eval y = .agg (tab len fun j => .int k (g j))) (hu : P.underlying T = some (.array len elem)) (he : P.underlying elem = some (.int k')) (hs : (P.info? elem).map (·.size) = some 1) (hq : P.eqGuardType P.depth T = false) (hb : (!(List.range len).all fun j => f j == g j) = b) : YieldsIf P ops S o (.bool b) a :=
  yOf hg fun w _ => by
    subst hb
    have hr := run_neqArr (P := P) (w := w) (k := k) hu he hs hq f g x y
    unfold execOp
    simp only [ho, hx, hy]
    rw [Sem.run_bind, hr]; rfl
end
section
variable {ops : Array Oper} {o : Oper} {a : Act} {S : World → Prop}
theorem yDeed0 (x : Operand) (b : Nat) (ho : o.op = .fieldAddr 29 x 0) (hg : Region.wanted o (yielded ops a.tmps) = true) (hx : a.eval x = .pointer (some ⟨b, 0, none⟩)) : YieldsIf Tryd.prog ops S o (.pointer (some ⟨b, 0, none⟩)) a := by
  obtain ⟨f, fs, h1, h2, h3, h4⟩ := deedF0
  have := yField (S := S) _ x 0 0 0 fs f b 0 ho hg hx h1 h2 h3 h4
  rw [Nat.zero_add] at this
  exact this
theorem yDeed1 (x : Operand) (b : Nat) (ho : o.op = .fieldAddr 29 x 1) (hg : Region.wanted o (yielded ops a.tmps) = true) (hx : a.eval x = .pointer (some ⟨b, 0, none⟩)) : YieldsIf Tryd.prog ops S o (.pointer (some ⟨b, 1, none⟩)) a := by
  obtain ⟨f, fs, h1, h2, h3, h4⟩ := deedF1
  have := yField (S := S) _ x 1 0 1 fs f b 0 ho hg hx h1 h2 h3 h4
  rw [Nat.zero_add] at this
  exact this
theorem yDeed3 (x : Operand) (b : Nat) (ho : o.op = .fieldAddr 29 x 3) (hg : Region.wanted o (yielded ops a.tmps) = true) (hx : a.eval x = .pointer (some ⟨b, 0, none⟩)) : YieldsIf Tryd.prog ops S o (.pointer (some ⟨b, 3, none⟩)) a := by
  obtain ⟨f, fs, h1, h2, h3, h4⟩ := deedF3
  have := yField (S := S) _ x 3 0 3 fs f b 0 ho hg hx h1 h2 h3 h4
  rw [Nat.zero_add] at this
  exact this
theorem yLoadD (x : Operand) (g : Nat) (d : Deed) (hr : ∀ w, S w → Row w g 29 (dcells d)) (ho : o.op = .load 29 x) (hg : Region.wanted o (yielded ops a.tmps) = true) (hx : a.eval x = .pointer (some ⟨g, 0, none⟩)) : YieldsIf Tryd.prog ops S o (deedV d) a :=
  yOf hg fun w hS => by
    have hl := run_loadVar_row w g 29 29 (dcells d) _ _ (hr w hS) Tryd.underlying29 (by rfl) (info_DeedC d)
    unfold execOp
    simp only [ho, hx, Instr.loadAt, Instr.sureAddr, Sem.run_bind, Sem.run_pure, Result.andThen_ok, hl]
    rfl
theorem yLoadK (x : Operand) (g : Nat) (d : Deed) (hr : ∀ w, S w → Row w g 29 (dcells d)) (ho : o.op = .load 3 x) (hg : Region.wanted o (yielded ops a.tmps) = true) (hx : a.eval x = .pointer (some ⟨g, 0, none⟩)) : YieldsIf Tryd.prog ops S o (.int .i64 d.kind) a :=
  yLoad1 _ _ _ g 0 _ _ _ ho hg hx hr Tryd.underlying3 rfl (dcells_0 d)
theorem yLoadN1 (x : Operand) (g : Nat) (d : Deed) (hr : ∀ w, S w → Row w g 29 (dcells d)) (ho : o.op = .load 9 x) (hg : Region.wanted o (yielded ops a.tmps) = true) (hx : a.eval x = .pointer (some ⟨g, 1, none⟩)) : YieldsIf Tryd.prog ops S o (textV d.name) a :=
  yLoad1 _ _ _ g 1 _ _ _ ho hg hx hr Tryd.underlying9 rfl (dcells_1 d)
theorem yLoadN3 (x : Operand) (g : Nat) (d : Deed) (hr : ∀ w, S w → Row w g 29 (dcells d)) (ho : o.op = .load 9 x) (hg : Region.wanted o (yielded ops a.tmps) = true) (hx : a.eval x = .pointer (some ⟨g, 3, none⟩)) : YieldsIf Tryd.prog ops S o (textV d.rand) a :=
  yLoad1 _ _ _ g 3 _ _ _ ho hg hx hr Tryd.underlying9 rfl (dcells_3 d)
end
set_option maxRecDepth 100000 in
set_option maxHeartbeats 8000000 in
theorem labelLocks_walk {d : Deed} (hd : d.Is) {r : List UInt8} {vr : Value} (W : World) (hG : Counts W) (hK : Keys W) (hr : IsVals W vr (r.map VB)) : Calls Tryd.prog 4 #[deedV d, vr] W fun e W' => e = .returned (.bool true) ∧ Below W.heap.size W W' := by
  obtain ⟨m, hm⟩ : ∃ m, r.length = m := ⟨_, rfl⟩
  obtain ⟨c1, h1⟩ : ∃ c, decide ((d.name.length : Int) > 300) = c := ⟨_, rfl⟩
  obtain ⟨c2, h2⟩ : ∃ c, decide ((d.value.length : Int) > 300) = c := ⟨_, rfl⟩
  obtain ⟨c3, h3⟩ : ∃ c, decide ((d.rand.length : Int) > 300) = c := ⟨_, rfl⟩
  obtain ⟨c4, h4⟩ : ∃ c, decide ((m : Int) > 500) = c := ⟨_, rfl⟩
  cases c1
  case true =>
    go_enter Tryd.func4, Tryd.ntmps4
    go_wp2_with (first
      | ((with_reducible change wpList _ _ _ (Oper.mk (some 2) _ _ _ _ _ :: _) _ _); refine kBoxD _ _ rfl rfl rfl ?_; intro w1 hR0 hz1 hB; clear hz1; have hR1 := row_dr hR0; clear hR0; go_frame)
      | (go_at_call 7; refine (labelAlive_any _ (hG.below hB)).mono ?_; rintro e w2 ⟨rfl, hB2⟩; have hR := hR1.below hB2; have hB3 := hB.trans (hB2.mono hB.size); have hr3 := hr.below hB3; have hG3 := hG.below hB3; have hK3 := hK.below hB3; have hs3 := hB3.size; clear hR1 hB hB2; go_frame)
      | ((with_reducible change wpList _ _ _ (Oper.mk (some 14) _ _ _ _ _ :: _) _ _); refine kDeed1 _ _ rfl rfl rfl ?_; go_frame)
      | ((with_reducible change wpList _ _ _ (Oper.mk (some 15) _ _ _ _ _ :: _) _ _); refine kLoadN1 _ _ _ hR rfl rfl rfl ?_; go_frame)
      | ((with_reducible change wpList _ _ _ (Oper.mk (some 16) _ _ _ _ _ :: _) _ _); refine kLenStr _ _ d.name rfl rfl rfl Tryd.underlying9 ?_; go_frame)
      | ((with_reducible change wpList _ _ _ (Oper.mk (some 17) _ _ _ _ _ :: _) _ _); refine kGtrI _ _ _ _ .i64 (d.name.length : Int) 300 _ rfl rfl rfl rfl h1 ?_; go_frame)
      | ((with_reducible change wpList _ _ _ (Oper.mk (some 19) _ _ _ _ _ :: _) _ _); refine kDeed2 _ _ rfl rfl rfl ?_; go_frame)
      | ((with_reducible change wpList _ _ _ (Oper.mk (some 20) _ _ _ _ _ :: _) _ _); refine kLoadN2 _ _ _ hR rfl rfl rfl ?_; go_frame)
      | ((with_reducible change wpList _ _ _ (Oper.mk (some 21) _ _ _ _ _ :: _) _ _); refine kLenStr _ _ d.value rfl rfl rfl Tryd.underlying9 ?_; go_frame)
      | ((with_reducible change wpList _ _ _ (Oper.mk (some 22) _ _ _ _ _ :: _) _ _); refine kGtrI _ _ _ _ .i64 (d.value.length : Int) 300 _ rfl rfl rfl rfl h2 ?_; go_frame)
      | ((with_reducible change wpList _ _ _ (Oper.mk (some 25) _ _ _ _ _ :: _) _ _); refine kDeed3 _ _ rfl rfl rfl ?_; go_frame)
      | ((with_reducible change wpList _ _ _ (Oper.mk (some 26) _ _ _ _ _ :: _) _ _); refine kLoadN3 _ _ _ hR rfl rfl rfl ?_; go_frame)
      | ((with_reducible change wpList _ _ _ (Oper.mk (some 27) _ _ _ _ _ :: _) _ _); refine kLenStr _ _ d.rand rfl rfl rfl Tryd.underlying9 ?_; go_frame)
      | ((with_reducible change wpList _ _ _ (Oper.mk (some 28) _ _ _ _ _ :: _) _ _); refine kGtrI _ _ _ _ .i64 (d.rand.length : Int) 300 _ rfl rfl rfl rfl h3 ?_; go_frame)
      | ((with_reducible change wpList _ _ _ (Oper.mk (some 32) _ _ _ _ _ :: _) _ _); refine kLenN _ _ _ vr _ m rfl rfl rfl hr3 (by rw [List.length_map, hm]) Tryd.underlying22 ?_; go_frame)
      | ((with_reducible change wpList _ _ _ (Oper.mk (some 33) _ _ _ _ _ :: _) _ _); refine kGtrI _ _ _ _ .i64 (m : Int) 500 _ rfl rfl rfl rfl h4 ?_; go_frame))
    go_ret
    exact ⟨rfl, hB3⟩
  cases c2
  case true =>
    go_enter Tryd.func4, Tryd.ntmps4
    go_wp2_with (first
      | ((with_reducible change wpList _ _ _ (Oper.mk (some 2) _ _ _ _ _ :: _) _ _); refine kBoxD _ _ rfl rfl rfl ?_; intro w1 hR0 hz1 hB; clear hz1; have hR1 := row_dr hR0; clear hR0; go_frame)
      | (go_at_call 7; refine (labelAlive_any _ (hG.below hB)).mono ?_; rintro e w2 ⟨rfl, hB2⟩; have hR := hR1.below hB2; have hB3 := hB.trans (hB2.mono hB.size); have hr3 := hr.below hB3; have hG3 := hG.below hB3; have hK3 := hK.below hB3; have hs3 := hB3.size; clear hR1 hB hB2; go_frame)
      | ((with_reducible change wpList _ _ _ (Oper.mk (some 14) _ _ _ _ _ :: _) _ _); refine kDeed1 _ _ rfl rfl rfl ?_; go_frame)
      | ((with_reducible change wpList _ _ _ (Oper.mk (some 15) _ _ _ _ _ :: _) _ _); refine kLoadN1 _ _ _ hR rfl rfl rfl ?_; go_frame)
      | ((with_reducible change wpList _ _ _ (Oper.mk (some 16) _ _ _ _ _ :: _) _ _); refine kLenStr _ _ d.name rfl rfl rfl Tryd.underlying9 ?_; go_frame)
      | ((with_reducible change wpList _ _ _ (Oper.mk (some 17) _ _ _ _ _ :: _) _ _); refine kGtrI _ _ _ _ .i64 (d.name.length : Int) 300 _ rfl rfl rfl rfl h1 ?_; go_frame)
      | ((with_reducible change wpList _ _ _ (Oper.mk (some 19) _ _ _ _ _ :: _) _ _); refine kDeed2 _ _ rfl rfl rfl ?_; go_frame)
      | ((with_reducible change wpList _ _ _ (Oper.mk (some 20) _ _ _ _ _ :: _) _ _); refine kLoadN2 _ _ _ hR rfl rfl rfl ?_; go_frame)
      | ((with_reducible change wpList _ _ _ (Oper.mk (some 21) _ _ _ _ _ :: _) _ _); refine kLenStr _ _ d.value rfl rfl rfl Tryd.underlying9 ?_; go_frame)
      | ((with_reducible change wpList _ _ _ (Oper.mk (some 22) _ _ _ _ _ :: _) _ _); refine kGtrI _ _ _ _ .i64 (d.value.length : Int) 300 _ rfl rfl rfl rfl h2 ?_; go_frame)
      | ((with_reducible change wpList _ _ _ (Oper.mk (some 25) _ _ _ _ _ :: _) _ _); refine kDeed3 _ _ rfl rfl rfl ?_; go_frame)
      | ((with_reducible change wpList _ _ _ (Oper.mk (some 26) _ _ _ _ _ :: _) _ _); refine kLoadN3 _ _ _ hR rfl rfl rfl ?_; go_frame)
      | ((with_reducible change wpList _ _ _ (Oper.mk (some 27) _ _ _ _ _ :: _) _ _); refine kLenStr _ _ d.rand rfl rfl rfl Tryd.underlying9 ?_; go_frame)
      | ((with_reducible change wpList _ _ _ (Oper.mk (some 28) _ _ _ _ _ :: _) _ _); refine kGtrI _ _ _ _ .i64 (d.rand.length : Int) 300 _ rfl rfl rfl rfl h3 ?_; go_frame)
      | ((with_reducible change wpList _ _ _ (Oper.mk (some 32) _ _ _ _ _ :: _) _ _); refine kLenN _ _ _ vr _ m rfl rfl rfl hr3 (by rw [List.length_map, hm]) Tryd.underlying22 ?_; go_frame)
      | ((with_reducible change wpList _ _ _ (Oper.mk (some 33) _ _ _ _ _ :: _) _ _); refine kGtrI _ _ _ _ .i64 (m : Int) 500 _ rfl rfl rfl rfl h4 ?_; go_frame))
    go_ret
    exact ⟨rfl, hB3⟩
  cases c3
  case true =>
    go_enter Tryd.func4, Tryd.ntmps4
    go_wp2_with (first
      | ((with_reducible change wpList _ _ _ (Oper.mk (some 2) _ _ _ _ _ :: _) _ _); refine kBoxD _ _ rfl rfl rfl ?_; intro w1 hR0 hz1 hB; clear hz1; have hR1 := row_dr hR0; clear hR0; go_frame)
      | (go_at_call 7; refine (labelAlive_any _ (hG.below hB)).mono ?_; rintro e w2 ⟨rfl, hB2⟩; have hR := hR1.below hB2; have hB3 := hB.trans (hB2.mono hB.size); have hr3 := hr.below hB3; have hG3 := hG.below hB3; have hK3 := hK.below hB3; have hs3 := hB3.size; clear hR1 hB hB2; go_frame)
      | ((with_reducible change wpList _ _ _ (Oper.mk (some 14) _ _ _ _ _ :: _) _ _); refine kDeed1 _ _ rfl rfl rfl ?_; go_frame)
      | ((with_reducible change wpList _ _ _ (Oper.mk (some 15) _ _ _ _ _ :: _) _ _); refine kLoadN1 _ _ _ hR rfl rfl rfl ?_; go_frame)
      | ((with_reducible change wpList _ _ _ (Oper.mk (some 16) _ _ _ _ _ :: _) _ _); refine kLenStr _ _ d.name rfl rfl rfl Tryd.underlying9 ?_; go_frame)
      | ((with_reducible change wpList _ _ _ (Oper.mk (some 17) _ _ _ _ _ :: _) _ _); refine kGtrI _ _ _ _ .i64 (d.name.length : Int) 300 _ rfl rfl rfl rfl h1 ?_; go_frame)
      | ((with_reducible change wpList _ _ _ (Oper.mk (some 19) _ _ _ _ _ :: _) _ _); refine kDeed2 _ _ rfl rfl rfl ?_; go_frame)
      | ((with_reducible change wpList _ _ _ (Oper.mk (some 20) _ _ _ _ _ :: _) _ _); refine kLoadN2 _ _ _ hR rfl rfl rfl ?_; go_frame)
      | ((with_reducible change wpList _ _ _ (Oper.mk (some 21) _ _ _ _ _ :: _) _ _); refine kLenStr _ _ d.value rfl rfl rfl Tryd.underlying9 ?_; go_frame)
      | ((with_reducible change wpList _ _ _ (Oper.mk (some 22) _ _ _ _ _ :: _) _ _); refine kGtrI _ _ _ _ .i64 (d.value.length : Int) 300 _ rfl rfl rfl rfl h2 ?_; go_frame)
      | ((with_reducible change wpList _ _ _ (Oper.mk (some 25) _ _ _ _ _ :: _) _ _); refine kDeed3 _ _ rfl rfl rfl ?_; go_frame)
      | ((with_reducible change wpList _ _ _ (Oper.mk (some 26) _ _ _ _ _ :: _) _ _); refine kLoadN3 _ _ _ hR rfl rfl rfl ?_; go_frame)
      | ((with_reducible change wpList _ _ _ (Oper.mk (some 27) _ _ _ _ _ :: _) _ _); refine kLenStr _ _ d.rand rfl rfl rfl Tryd.underlying9 ?_; go_frame)
      | ((with_reducible change wpList _ _ _ (Oper.mk (some 28) _ _ _ _ _ :: _) _ _); refine kGtrI _ _ _ _ .i64 (d.rand.length : Int) 300 _ rfl rfl rfl rfl h3 ?_; go_frame)
      | ((with_reducible change wpList _ _ _ (Oper.mk (some 32) _ _ _ _ _ :: _) _ _); refine kLenN _ _ _ vr _ m rfl rfl rfl hr3 (by rw [List.length_map, hm]) Tryd.underlying22 ?_; go_frame)
      | ((with_reducible change wpList _ _ _ (Oper.mk (some 33) _ _ _ _ _ :: _) _ _); refine kGtrI _ _ _ _ .i64 (m : Int) 500 _ rfl rfl rfl rfl h4 ?_; go_frame))
    go_ret
    exact ⟨rfl, hB3⟩
  cases c4
  case true =>
    go_enter Tryd.func4, Tryd.ntmps4
    go_wp2_with (first
      | ((with_reducible change wpList _ _ _ (Oper.mk (some 2) _ _ _ _ _ :: _) _ _); refine kBoxD _ _ rfl rfl rfl ?_; intro w1 hR0 hz1 hB; clear hz1; have hR1 := row_dr hR0; clear hR0; go_frame)
      | (go_at_call 7; refine (labelAlive_any _ (hG.below hB)).mono ?_; rintro e w2 ⟨rfl, hB2⟩; have hR := hR1.below hB2; have hB3 := hB.trans (hB2.mono hB.size); have hr3 := hr.below hB3; have hG3 := hG.below hB3; have hK3 := hK.below hB3; have hs3 := hB3.size; clear hR1 hB hB2; go_frame)
      | ((with_reducible change wpList _ _ _ (Oper.mk (some 14) _ _ _ _ _ :: _) _ _); refine kDeed1 _ _ rfl rfl rfl ?_; go_frame)
      | ((with_reducible change wpList _ _ _ (Oper.mk (some 15) _ _ _ _ _ :: _) _ _); refine kLoadN1 _ _ _ hR rfl rfl rfl ?_; go_frame)
      | ((with_reducible change wpList _ _ _ (Oper.mk (some 16) _ _ _ _ _ :: _) _ _); refine kLenStr _ _ d.name rfl rfl rfl Tryd.underlying9 ?_; go_frame)
      | ((with_reducible change wpList _ _ _ (Oper.mk (some 17) _ _ _ _ _ :: _) _ _); refine kGtrI _ _ _ _ .i64 (d.name.length : Int) 300 _ rfl rfl rfl rfl h1 ?_; go_frame)
      | ((with_reducible change wpList _ _ _ (Oper.mk (some 19) _ _ _ _ _ :: _) _ _); refine kDeed2 _ _ rfl rfl rfl ?_; go_frame)
      | ((with_reducible change wpList _ _ _ (Oper.mk (some 20) _ _ _ _ _ :: _) _ _); refine kLoadN2 _ _ _ hR rfl rfl rfl ?_; go_frame)
      | ((with_reducible change wpList _ _ _ (Oper.mk (some 21) _ _ _ _ _ :: _) _ _); refine kLenStr _ _ d.value rfl rfl rfl Tryd.underlying9 ?_; go_frame)
      | ((with_reducible change wpList _ _ _ (Oper.mk (some 22) _ _ _ _ _ :: _) _ _); refine kGtrI _ _ _ _ .i64 (d.value.length : Int) 300 _ rfl rfl rfl rfl h2 ?_; go_frame)
      | ((with_reducible change wpList _ _ _ (Oper.mk (some 25) _ _ _ _ _ :: _) _ _); refine kDeed3 _ _ rfl rfl rfl ?_; go_frame)
      | ((with_reducible change wpList _ _ _ (Oper.mk (some 26) _ _ _ _ _ :: _) _ _); refine kLoadN3 _ _ _ hR rfl rfl rfl ?_; go_frame)
      | ((with_reducible change wpList _ _ _ (Oper.mk (some 27) _ _ _ _ _ :: _) _ _); refine kLenStr _ _ d.rand rfl rfl rfl Tryd.underlying9 ?_; go_frame)
      | ((with_reducible change wpList _ _ _ (Oper.mk (some 28) _ _ _ _ _ :: _) _ _); refine kGtrI _ _ _ _ .i64 (d.rand.length : Int) 300 _ rfl rfl rfl rfl h3 ?_; go_frame)
      | ((with_reducible change wpList _ _ _ (Oper.mk (some 32) _ _ _ _ _ :: _) _ _); refine kLenN _ _ _ vr _ m rfl rfl rfl hr3 (by rw [List.length_map, hm]) Tryd.underlying22 ?_; go_frame)
      | ((with_reducible change wpList _ _ _ (Oper.mk (some 33) _ _ _ _ _ :: _) _ _); refine kGtrI _ _ _ _ .i64 (m : Int) 500 _ rfl rfl rfl rfl h4 ?_; go_frame))
    go_ret
    exact ⟨rfl, hB3⟩
  have g1 := of_decide_eq_false h1
  have g2 := of_decide_eq_false h2
  have g3 := of_decide_eq_false h3
  have g4 := of_decide_eq_false h4
  have hf : d.Fits := ⟨by omega, by omega, by omega⟩
  have e1 := fun w (h : Counts w) (h1 : IsVals w vr (r.map VB)) => lbLock_any hd w h h1 (by omega)
  have e2 := fun w (h1 : IsVals w vr (r.map VB)) => nLock_any hd hf w h1 (by omega)
  obtain ⟨R, hR0⟩ : ∃ R, lockS d r = R := ⟨_, rfl⟩
  have hback := fun x (h : R = some x) => lock_back (r := r) hd (hR0.trans h)
  rw [hR0] at e1 e2
  obtain ⟨X, hX⟩ : ∃ X, ansL R = X := ⟨_, rfl⟩
  obtain ⟨Z, hZ⟩ : ∃ Z, errL R = Z := ⟨_, rfl⟩
  have eL : ∀ w, Counts w → IsVals w vr (r.map VB) → Calls Tryd.prog 6 #[deedV d, vr] w fun e w' => ∃ v, e = .returned (.tuple #[v, .int .i64 Z]) ∧ OwnB w' w.heap.size v X ∧ Below w.heap.size w w' := fun w h h1 => (e1 w h h1).mono (by rintro e w' ⟨v, rfl, hO, hB⟩; rw [hZ, ← hX]; exact ⟨v, rfl, hO, hB⟩)
  have eN : ∀ w, IsVals w vr (r.map VB) → Calls Tryd.prog 8 #[deedV d, vr] w fun e w' => ∃ v, e = .returned (.tuple #[v, .int .i64 Z]) ∧ OwnB w' w.heap.size v X ∧ Below w.heap.size w w' := fun w h1 => (e2 w h1).mono (by rintro e w' ⟨v, rfl, hO, hB⟩; rw [hZ, ← hX]; exact ⟨v, rfl, hO, hB⟩)
  clear e1 e2
  have eR := fun w => lbRight_any hd w
  have eM := fun w => nRight_any hd w
  obtain ⟨rb, hrb⟩ : ∃ b, rightB d = b := ⟨_, rfl⟩
  rw [hrb] at eR eM
  clear hrb
  have eA := fun w => lbNamed_any d w
  rw [show decide (d.kind = 2 ∨ d.kind = 3) = (decide (d.kind = 2) || decide (d.kind = 3)) by simp] at eA
  obtain ⟨n3, hn3⟩ : ∃ b, decide (d.kind = 3) = b := ⟨_, rfl⟩
  obtain ⟨n2, hn2⟩ : ∃ b, decide (d.kind = 2) = b := ⟨_, rfl⟩
  rw [hn2, hn3] at eA
  have eC := fun w (h : Keys w) => lbCommit_any (r := d.rand) (n := d.name) (by omega) (by omega) w h
  have eD := fun w => nCommit_any (r := d.rand) (n := d.name) (by omega) (by omega) w
  unfold commitL at eC eD
  obtain ⟨cf, hcf⟩ : ∃ f : Nat → Int, (fun p => B (at8 (sha (sha (d.rand ++ d.name))) p)) = f := ⟨_, rfl⟩
  have eC : ∀ w, Keys w → Calls Tryd.prog 12 #[textV d.rand, textV d.name] w fun e w' => e = .returned (.agg (tab 20 fun p => .int .u8 (cf p))) ∧ Below w.heap.size w w' := by rw [← hcf]; exact eC
  have eD : ∀ w, Calls Tryd.prog 13 #[textV d.rand, textV d.name] w fun e w' => e = .returned (.agg (tab 20 fun p => .int .u8 (cf p))) ∧ Below w.heap.size w w' := by rw [← hcf]; exact eD
  clear hcf
  cases n2
  · go_enter Tryd.func4, Tryd.ntmps4
    go_wp2_with (first
      | ((with_reducible change wpList _ _ _ (Oper.mk (some 2) _ _ _ _ _ :: _) _ _); refine kBoxD _ _ rfl rfl rfl ?_; intro w1 hR0 hz1 hB; clear hz1; have hR1 := row_dr hR0; clear hR0; go_frame)
      | (go_at_call 7; refine (labelAlive_any _ (hG.below hB)).mono ?_; rintro e w2 ⟨rfl, hB2⟩; have hR := hR1.below hB2; have hB3 := hB.trans (hB2.mono hB.size); have hr3 := hr.below hB3; have hG3 := hG.below hB3; have hK3 := hK.below hB3; have hs3 := hB3.size; clear hR1 hB hB2; go_frame)
      | ((with_reducible change wpList _ _ _ (Oper.mk (some 14) _ _ _ _ _ :: _) _ _); refine kDeed1 _ _ rfl rfl rfl ?_; go_frame)
      | ((with_reducible change wpList _ _ _ (Oper.mk (some 15) _ _ _ _ _ :: _) _ _); refine kLoadN1 _ _ _ hR rfl rfl rfl ?_; go_frame)
      | ((with_reducible change wpList _ _ _ (Oper.mk (some 16) _ _ _ _ _ :: _) _ _); refine kLenStr _ _ d.name rfl rfl rfl Tryd.underlying9 ?_; go_frame)
      | ((with_reducible change wpList _ _ _ (Oper.mk (some 17) _ _ _ _ _ :: _) _ _); refine kGtrI _ _ _ _ .i64 (d.name.length : Int) 300 _ rfl rfl rfl rfl h1 ?_; go_frame)
      | ((with_reducible change wpList _ _ _ (Oper.mk (some 19) _ _ _ _ _ :: _) _ _); refine kDeed2 _ _ rfl rfl rfl ?_; go_frame)
      | ((with_reducible change wpList _ _ _ (Oper.mk (some 20) _ _ _ _ _ :: _) _ _); refine kLoadN2 _ _ _ hR rfl rfl rfl ?_; go_frame)
      | ((with_reducible change wpList _ _ _ (Oper.mk (some 21) _ _ _ _ _ :: _) _ _); refine kLenStr _ _ d.value rfl rfl rfl Tryd.underlying9 ?_; go_frame)
      | ((with_reducible change wpList _ _ _ (Oper.mk (some 22) _ _ _ _ _ :: _) _ _); refine kGtrI _ _ _ _ .i64 (d.value.length : Int) 300 _ rfl rfl rfl rfl h2 ?_; go_frame)
      | ((with_reducible change wpList _ _ _ (Oper.mk (some 25) _ _ _ _ _ :: _) _ _); refine kDeed3 _ _ rfl rfl rfl ?_; go_frame)
      | ((with_reducible change wpList _ _ _ (Oper.mk (some 26) _ _ _ _ _ :: _) _ _); refine kLoadN3 _ _ _ hR rfl rfl rfl ?_; go_frame)
      | ((with_reducible change wpList _ _ _ (Oper.mk (some 27) _ _ _ _ _ :: _) _ _); refine kLenStr _ _ d.rand rfl rfl rfl Tryd.underlying9 ?_; go_frame)
      | ((with_reducible change wpList _ _ _ (Oper.mk (some 28) _ _ _ _ _ :: _) _ _); refine kGtrI _ _ _ _ .i64 (d.rand.length : Int) 300 _ rfl rfl rfl rfl h3 ?_; go_frame)
      | ((with_reducible change wpList _ _ _ (Oper.mk (some 32) _ _ _ _ _ :: _) _ _); refine kLenN _ _ _ vr _ m rfl rfl rfl hr3 (by rw [List.length_map, hm]) Tryd.underlying22 ?_; go_frame)
      | ((with_reducible change wpList _ _ _ (Oper.mk (some 33) _ _ _ _ _ :: _) _ _); refine kGtrI _ _ _ _ .i64 (m : Int) 500 _ rfl rfl rfl rfl h4 ?_; go_frame)
      | ((with_reducible change wpList _ _ _ (Oper.mk (some 36) _ _ _ _ _ :: _) _ _); refine kLoadD _ _ _ hR rfl rfl rfl ?_; go_frame)
      | (go_at_call 6; refine (eL _ hG3 hr3).mono ?_; rintro e w4 ⟨x1, rfl, hX4, hB4⟩; have hX1 := hX4.vals; have hR4 := hR.below hB4; have hB5 := hB3.trans (hB4.mono hs3); have hr5 := hr3.below hB4; have hG5 := hG3.below hB4; have hK5 := hK3.below hB4; have hs5 := hB5.size; clear hX4 hR hB3 hr3 hG3 hK3 hs3 hB4; go_frame)
      | ((with_reducible change wpList _ _ _ (Oper.mk (some 42) _ _ _ _ _ :: _) _ _); refine kLoadD _ _ _ hR4 rfl rfl rfl ?_; go_frame)
      | (go_at_call 8; refine (eN _ hr5).mono ?_; rintro e w6 ⟨x2, rfl, hX6, hB6⟩; have hX2 := hX6.vals; have hR6 := hR4.below hB6; have hB7 := hB5.trans (hB6.mono hs5); have hr7 := hr5.below hB6; have hG7 := hG5.below hB6; have hK7 := hK5.below hB6; have hX3 := hX1.below hB6; have hs7 := hB7.size; clear hX6 hR4 hB5 hr5 hG5 hK5 hs5 hB6 hX1; go_frame))
    refine region_mixD [(0, true), (1, true), (2, true), (3, true), (4, true), (5, true), (6, true), (7, true), (8, true), (9, true), (10, true), (11, true), (13, true), (12, false), (14, false), (15, true), (16, true), (17, true), (18, true), (20, true), (21, true), (22, true), (19, false), (23, true), (24, true), (25, true), (26, true), (27, true), (28, true), (29, true), (30, true), (31, true), (32, true), (33, true), (34, true), (36, true), (37, true), (38, true), (39, true), (35, false), (40, false), (41, true), (42, true)] (fun w => (IsVals w x1 (X.map VB) ∧ IsVals w x2 (X.map VB)) ∧ DR w W.heap.size d) (by kernel_rfl) (by kernel_rfl) rfl ?_
    intro q1 hBd hsd
    have hB8 := hB7.trans (hBd.mono hs7)
    have hX8 := hX3.below hBd
    have hY8 := hX2.below hBd
    have hR8 := hR6.below hBd
    have hr8 := hr7.below hBd
    have hG8 := hG7.below hBd
    have hK8 := hK7.below hBd
    have hs8 := hB8.size
    clear hBd hsd hB7 hX3 hX2 hR6 hr7 hG7 hK7 hs7
    simp only [List.map_cons, List.map_nil]
    dsimp only [List.filterMap, List.getElem?_cons_zero, List.getElem?_cons_succ]
    have hS := (⟨⟨hX8, hY8⟩, hR8⟩ : (IsVals q1 x1 (X.map VB) ∧ IsVals q1 x2 (X.map VB)) ∧ DR q1 W.heap.size d)
    refine dY _ hS (yMove _ (x1) rfl rfl rfl) ?_; go_frame
    refine dY _ hS (yStr _ _ _ _ x1 X rfl rfl rfl (fun _ h => h.1.1) Tryd.underlying22 Tryd.underlying5 Tryd.underlying9) ?_; go_frame
    refine dY _ hS (yMove _ (x2) rfl rfl rfl) ?_; go_frame
    refine dY _ hS (yStr _ _ _ _ x2 X rfl rfl rfl (fun _ h => h.1.2) Tryd.underlying22 Tryd.underlying5 Tryd.underlying9) ?_; go_frame
    refine dY _ hS (yNeqStr _ _ _ _ X X false rfl rfl rfl rfl (by simp)) ?_; go_frame
    refine dY _ hS (yMove _ (.bool false) rfl rfl rfl) ?_; go_frame
    refine dY _ hS (yMove _ (.int .i64 Z) rfl rfl rfl) ?_; go_frame
    refine dY _ hS (yMove _ (.int .i64 Z) rfl rfl rfl) ?_; go_frame
    refine dY _ hS (yNeqI _ _ _ _ .i64 Z Z false rfl rfl rfl rfl (by simp)) ?_; go_frame
    refine dY _ hS (yPick _ _ _ false (.bool false) rfl rfl rfl rfl) ?_; go_frame
    refine dY _ hS (yMove _ (.bool false) rfl rfl rfl) ?_; go_frame
    refine dY _ hS (yLoadD _ W.heap.size d (fun _ h => h.2) rfl rfl rfl) ?_; go_frame
    refine dY _ hS (yLoadD _ W.heap.size d (fun _ h => h.2) rfl rfl rfl) ?_; go_frame
    refine dLoud ?_
    refine kCall1 9 _ _ _ rfl rfl (by kernel_rfl) rfl ?_
    refine (eR _).mono ?_
    rintro e q2 ⟨rfl, hBB⟩
    have hX9 := hX8.below hBB
    have hY9 := hY8.below hBB
    have hR9 := hR8.below hBB
    have hr9 := hr8.below hBB
    have hG9 := hG8.below hBB
    have hK9 := hK8.below hBB
    have hB9 := hB8.trans (hBB.mono hs8)
    have hs9 := hB9.size
    clear hX8 hY8 hR8 hr8 hG8 hK8 hB8 hs8 hBB
    refine ⟨_, rfl, mixOn ⟨(fun w => (IsVals w x1 (X.map VB) ∧ IsVals w x2 (X.map VB)) ∧ DR w W.heap.size d), (fun _ h => h), (⟨⟨hX9, hY9⟩, hR9⟩ : (IsVals q2 x1 (X.map VB) ∧ IsVals q2 x2 (X.map VB)) ∧ DR q2 W.heap.size d), ?_⟩⟩
    have hS2 := (⟨⟨hX9, hY9⟩, hR9⟩ : (IsVals q2 x1 (X.map VB) ∧ IsVals q2 x2 (X.map VB)) ∧ DR q2 W.heap.size d); clear hS; have hS := hS2; clear hS2
    go_frame
    refine dLoud ?_
    refine kCall1 10 _ _ _ rfl rfl (by kernel_rfl) rfl ?_
    refine (eM _).mono ?_
    rintro e q3 ⟨rfl, hBB⟩
    have hX10 := hX9.below hBB
    have hY10 := hY9.below hBB
    have hR10 := hR9.below hBB
    have hr10 := hr9.below hBB
    have hG10 := hG9.below hBB
    have hK10 := hK9.below hBB
    have hB10 := hB9.trans (hBB.mono hs9)
    have hs10 := hB10.size
    clear hX9 hY9 hR9 hr9 hG9 hK9 hB9 hs9 hBB
    refine ⟨_, rfl, mixOn ⟨(fun w => (IsVals w x1 (X.map VB) ∧ IsVals w x2 (X.map VB)) ∧ DR w W.heap.size d), (fun _ h => h), (⟨⟨hX10, hY10⟩, hR10⟩ : (IsVals q3 x1 (X.map VB) ∧ IsVals q3 x2 (X.map VB)) ∧ DR q3 W.heap.size d), ?_⟩⟩
    have hS2 := (⟨⟨hX10, hY10⟩, hR10⟩ : (IsVals q3 x1 (X.map VB) ∧ IsVals q3 x2 (X.map VB)) ∧ DR q3 W.heap.size d); clear hS; have hS := hS2; clear hS2
    go_frame
    refine dY _ hS (yNeqBool8 _ _ _ _ rb rb false rfl rfl rfl rfl Tryd.underlying4 (by simp)) ?_; go_frame
    refine dY _ hS (yPick _ _ _ false (.bool false) rfl rfl rfl rfl) ?_; go_frame
    refine dY _ hS (yMove _ (.bool false) rfl rfl rfl) ?_; go_frame
    refine dY _ hS (yLoadD _ W.heap.size d (fun _ h => h.2) rfl rfl rfl) ?_; go_frame
    refine dY _ hS (yDeed0 _ _ rfl rfl rfl) ?_; go_frame
    refine dY _ hS (yLoadK _ W.heap.size d (fun _ h => h.2) rfl rfl rfl) ?_; go_frame
    refine dY _ hS (yEqlI8 _ _ _ _ .i64 d.kind 2 false rfl rfl rfl rfl hn2) ?_; go_frame
    refine dLoud ?_
    refine kCall1 11 _ _ _ rfl rfl (by kernel_rfl) rfl ?_
    refine (eA _).mono ?_
    rintro e q4 ⟨rfl, hBB⟩
    have hX11 := hX10.below hBB
    have hY11 := hY10.below hBB
    have hR11 := hR10.below hBB
    have hr11 := hr10.below hBB
    have hG11 := hG10.below hBB
    have hK11 := hK10.below hBB
    have hB11 := hB10.trans (hBB.mono hs10)
    have hs11 := hB11.size
    clear hX10 hY10 hR10 hr10 hG10 hK10 hB10 hs10 hBB
    refine ⟨_, rfl, mixOn ⟨(fun w => (IsVals w x1 (X.map VB) ∧ IsVals w x2 (X.map VB)) ∧ DR w W.heap.size d), (fun _ h => h), (⟨⟨hX11, hY11⟩, hR11⟩ : (IsVals q4 x1 (X.map VB) ∧ IsVals q4 x2 (X.map VB)) ∧ DR q4 W.heap.size d), ?_⟩⟩
    have hS2 := (⟨⟨hX11, hY11⟩, hR11⟩ : (IsVals q4 x1 (X.map VB) ∧ IsVals q4 x2 (X.map VB)) ∧ DR q4 W.heap.size d); clear hS; have hS := hS2; clear hS2
    go_frame
    refine dY _ hS (yMove _ (.bool false) rfl rfl rfl) ?_; go_frame
    refine dY _ hS (yDeed0 _ _ rfl rfl rfl) ?_; go_frame
    refine dY _ hS (yLoadK _ W.heap.size d (fun _ h => h.2) rfl rfl rfl) ?_; go_frame
    refine dY _ hS (yEqlI8 _ _ _ _ .i64 d.kind 3 n3 rfl rfl rfl rfl hn3) ?_; go_frame
    refine dY _ hS (yPick _ _ _ false (.bool n3) rfl rfl rfl rfl) ?_; go_frame
    refine dY _ hS (yNeqBool8 _ _ _ _ (false || n3) n3 false rfl rfl rfl rfl Tryd.underlying4 (by simp)) ?_; go_frame
    refine dY _ hS (yPick _ _ _ false (.bool false) rfl rfl rfl rfl) ?_; go_frame
    refine dY _ hS (yMove _ (.bool false) rfl rfl rfl) ?_; go_frame
    refine dY _ hS (yDeed3 _ _ rfl rfl rfl) ?_; go_frame
    refine dY _ hS (yLoadN3 _ W.heap.size d (fun _ h => h.2) rfl rfl rfl) ?_; go_frame
    refine dY _ hS (yDeed1 _ _ rfl rfl rfl) ?_; go_frame
    refine dY _ hS (yLoadN1 _ W.heap.size d (fun _ h => h.2) rfl rfl rfl) ?_; go_frame
    refine dY _ hS (yDeed3 _ _ rfl rfl rfl) ?_; go_frame
    refine dY _ hS (yLoadN3 _ W.heap.size d (fun _ h => h.2) rfl rfl rfl) ?_; go_frame
    refine dY _ hS (yDeed1 _ _ rfl rfl rfl) ?_; go_frame
    refine dY _ hS (yLoadN1 _ W.heap.size d (fun _ h => h.2) rfl rfl rfl) ?_; go_frame
    refine dLoud ?_
    refine kCall2 12 _ _ _ _ _ rfl rfl (by kernel_rfl) rfl rfl ?_
    refine (eC _ hK11).mono ?_
    rintro e q5 ⟨rfl, hBB⟩
    have hX12 := hX11.below hBB
    have hY12 := hY11.below hBB
    have hR12 := hR11.below hBB
    have hr12 := hr11.below hBB
    have hG12 := hG11.below hBB
    have hK12 := hK11.below hBB
    have hB12 := hB11.trans (hBB.mono hs11)
    have hs12 := hB12.size
    clear hX11 hY11 hR11 hr11 hG11 hK11 hB11 hs11 hBB
    refine ⟨_, rfl, mixOn ⟨(fun w => (IsVals w x1 (X.map VB) ∧ IsVals w x2 (X.map VB)) ∧ DR w W.heap.size d), (fun _ h => h), (⟨⟨hX12, hY12⟩, hR12⟩ : (IsVals q5 x1 (X.map VB) ∧ IsVals q5 x2 (X.map VB)) ∧ DR q5 W.heap.size d), ?_⟩⟩
    have hS2 := (⟨⟨hX12, hY12⟩, hR12⟩ : (IsVals q5 x1 (X.map VB) ∧ IsVals q5 x2 (X.map VB)) ∧ DR q5 W.heap.size d); clear hS; have hS := hS2; clear hS2
    go_frame
    refine dLoud ?_
    refine kCall2 13 _ _ _ _ _ rfl rfl (by kernel_rfl) rfl rfl ?_
    refine (eD _).mono ?_
    rintro e q6 ⟨rfl, hBB⟩
    have hX13 := hX12.below hBB
    have hY13 := hY12.below hBB
    have hR13 := hR12.below hBB
    have hr13 := hr12.below hBB
    have hG13 := hG12.below hBB
    have hK13 := hK12.below hBB
    have hB13 := hB12.trans (hBB.mono hs12)
    have hs13 := hB13.size
    clear hX12 hY12 hR12 hr12 hG12 hK12 hB12 hs12 hBB
    refine ⟨_, rfl, mixOn ⟨(fun w => (IsVals w x1 (X.map VB) ∧ IsVals w x2 (X.map VB)) ∧ DR w W.heap.size d), (fun _ h => h), (⟨⟨hX13, hY13⟩, hR13⟩ : (IsVals q6 x1 (X.map VB) ∧ IsVals q6 x2 (X.map VB)) ∧ DR q6 W.heap.size d), ?_⟩⟩
    have hS2 := (⟨⟨hX13, hY13⟩, hR13⟩ : (IsVals q6 x1 (X.map VB) ∧ IsVals q6 x2 (X.map VB)) ∧ DR q6 W.heap.size d); clear hS; have hS := hS2; clear hS2
    go_frame
    refine dY _ hS (yNeqArr8 _ _ _ _ _ 20 .u8 .u8 cf cf false rfl rfl rfl rfl Tryd.underlying27 Tryd.underlying5 info_b8P eqGuard_Short (by rw [all_refl]; rfl)) ?_; go_frame
    refine dY _ hS (yPick _ _ _ false (.bool false) rfl rfl rfl rfl) ?_; go_frame
    refine dDone ?_
    cases R with
    | none =>
      have hZ1 : Z = 81 := hZ.symm
      subst hZ1
      go_wp2
      go_ret
      exact ⟨rfl, hB13⟩
    | some x =>
      have hZ1 : Z = 0 := hZ.symm
      have hX9 : x = X := hX
      subst hZ1 hX9
      have hlx : x.length ≤ 1000000 := by
        have := wordsL_le hd hf
        unfold lockS at hR0
        split at hR0
        · cases hR0
        · cases hR0; simp; omega
      have eS := fun w (h : Counts w) (h1 : IsVals w x1 (x.map VB)) => lbSplit_any w h h1 hlx
      rw [hback x rfl] at eS
      go_wp2_with (first
        | (go_at_call 14; refine (eS _ hG13 hX13).mono ?_; rintro e q7 ⟨tv, rfl, hT, hBB⟩; have hB14 := hB13.trans (hBB.mono hs13); have hR14 := hR13.below hBB; have hr14 := hr13.below hBB; have hs14 := hB14.size; clear hBB hB13 hR13 hr13 hS hX13 hY13 hG13; go_frame)
        | ((with_reducible change wpList _ _ _ (Oper.mk (some 9) _ _ _ _ _ :: _) _ _); refine kAllocL _ _ rfl rfl zero_Deed ?_; intro q8 hA hzz hBB; have hR15 := hR14.below hBB; have hr15 := hr14.below hBB; have hT15 := hT.below hBB; have hB15 := hB14.trans (hBB.mono hs14); have hgt : W.heap.size < q7.heap.size := hR14.lt; clear hzz hR14 hr14 hT hBB; go_frame)
        | ((with_reducible change wpList _ _ _ (Oper.mk none _ _ _ _ _ :: _) _ _); refine kStoreD _ _ _ noDeed _ hA rfl rfl rfl rfl ?_; intro q9 hA9 hW9; have hBB := hW9.below hs14; have hR16 := hW9.row hR15 (Nat.ne_of_lt hgt); have hB16 := hB15.trans hBB; have hr16 := hr.below hB16; have hT16 := own_keepW hT15 hW9 hA; clear hW9 hBB hr15 hR15 hT15 hA; go_frame)
        | ((with_reducible change wpList _ _ _ (Oper.mk (some 101) _ _ _ _ _ :: _) _ _); refine kLoadD _ _ _ hA9 rfl rfl rfl ?_; go_frame)
        | ((with_reducible change wpList _ _ _ (Oper.mk (some 102) _ _ _ _ _ :: _) _ _); refine kLoadD _ _ _ hR16 rfl rfl rfl ?_; go_frame)
        | ((with_reducible change wpList _ _ _ (Oper.mk (some 103) _ _ _ _ _ :: _) _ _); refine kEqlD _ _ _ hd (by exact hd) true rfl rfl rfl rfl ((sameD_iff _ _).2 rfl) ?_; go_frame)
        | ((with_reducible change wpList _ _ _ (Oper.mk (some 107) _ _ _ _ _ :: _) _ _); refine kToString _ _ _ _ tv r rfl rfl rfl hT16.vals Tryd.underlying22 Tryd.underlying5 Tryd.underlying9 ?_; go_frame)
        | ((with_reducible change wpList _ _ _ (Oper.mk (some 109) _ _ _ _ _ :: _) _ _); refine kToString _ _ _ _ vr r rfl rfl rfl hr16 Tryd.underlying22 Tryd.underlying5 Tryd.underlying9 ?_; go_frame)
        | ((with_reducible change wpList _ _ _ (Oper.mk (some 110) _ _ _ _ _ :: _) _ _); refine kEqlStr _ _ _ _ r r true rfl rfl rfl rfl (by simp) ?_; go_frame))
      go_ret
      exact ⟨rfl, hB16⟩
  · go_enter Tryd.func4, Tryd.ntmps4
    go_wp2_with (first
      | ((with_reducible change wpList _ _ _ (Oper.mk (some 2) _ _ _ _ _ :: _) _ _); refine kBoxD _ _ rfl rfl rfl ?_; intro w1 hR0 hz1 hB; clear hz1; have hR1 := row_dr hR0; clear hR0; go_frame)
      | (go_at_call 7; refine (labelAlive_any _ (hG.below hB)).mono ?_; rintro e w2 ⟨rfl, hB2⟩; have hR := hR1.below hB2; have hB3 := hB.trans (hB2.mono hB.size); have hr3 := hr.below hB3; have hG3 := hG.below hB3; have hK3 := hK.below hB3; have hs3 := hB3.size; clear hR1 hB hB2; go_frame)
      | ((with_reducible change wpList _ _ _ (Oper.mk (some 14) _ _ _ _ _ :: _) _ _); refine kDeed1 _ _ rfl rfl rfl ?_; go_frame)
      | ((with_reducible change wpList _ _ _ (Oper.mk (some 15) _ _ _ _ _ :: _) _ _); refine kLoadN1 _ _ _ hR rfl rfl rfl ?_; go_frame)
      | ((with_reducible change wpList _ _ _ (Oper.mk (some 16) _ _ _ _ _ :: _) _ _); refine kLenStr _ _ d.name rfl rfl rfl Tryd.underlying9 ?_; go_frame)
      | ((with_reducible change wpList _ _ _ (Oper.mk (some 17) _ _ _ _ _ :: _) _ _); refine kGtrI _ _ _ _ .i64 (d.name.length : Int) 300 _ rfl rfl rfl rfl h1 ?_; go_frame)
      | ((with_reducible change wpList _ _ _ (Oper.mk (some 19) _ _ _ _ _ :: _) _ _); refine kDeed2 _ _ rfl rfl rfl ?_; go_frame)
      | ((with_reducible change wpList _ _ _ (Oper.mk (some 20) _ _ _ _ _ :: _) _ _); refine kLoadN2 _ _ _ hR rfl rfl rfl ?_; go_frame)
      | ((with_reducible change wpList _ _ _ (Oper.mk (some 21) _ _ _ _ _ :: _) _ _); refine kLenStr _ _ d.value rfl rfl rfl Tryd.underlying9 ?_; go_frame)
      | ((with_reducible change wpList _ _ _ (Oper.mk (some 22) _ _ _ _ _ :: _) _ _); refine kGtrI _ _ _ _ .i64 (d.value.length : Int) 300 _ rfl rfl rfl rfl h2 ?_; go_frame)
      | ((with_reducible change wpList _ _ _ (Oper.mk (some 25) _ _ _ _ _ :: _) _ _); refine kDeed3 _ _ rfl rfl rfl ?_; go_frame)
      | ((with_reducible change wpList _ _ _ (Oper.mk (some 26) _ _ _ _ _ :: _) _ _); refine kLoadN3 _ _ _ hR rfl rfl rfl ?_; go_frame)
      | ((with_reducible change wpList _ _ _ (Oper.mk (some 27) _ _ _ _ _ :: _) _ _); refine kLenStr _ _ d.rand rfl rfl rfl Tryd.underlying9 ?_; go_frame)
      | ((with_reducible change wpList _ _ _ (Oper.mk (some 28) _ _ _ _ _ :: _) _ _); refine kGtrI _ _ _ _ .i64 (d.rand.length : Int) 300 _ rfl rfl rfl rfl h3 ?_; go_frame)
      | ((with_reducible change wpList _ _ _ (Oper.mk (some 32) _ _ _ _ _ :: _) _ _); refine kLenN _ _ _ vr _ m rfl rfl rfl hr3 (by rw [List.length_map, hm]) Tryd.underlying22 ?_; go_frame)
      | ((with_reducible change wpList _ _ _ (Oper.mk (some 33) _ _ _ _ _ :: _) _ _); refine kGtrI _ _ _ _ .i64 (m : Int) 500 _ rfl rfl rfl rfl h4 ?_; go_frame)
      | ((with_reducible change wpList _ _ _ (Oper.mk (some 36) _ _ _ _ _ :: _) _ _); refine kLoadD _ _ _ hR rfl rfl rfl ?_; go_frame)
      | (go_at_call 6; refine (eL _ hG3 hr3).mono ?_; rintro e w4 ⟨x1, rfl, hX4, hB4⟩; have hX1 := hX4.vals; have hR4 := hR.below hB4; have hB5 := hB3.trans (hB4.mono hs3); have hr5 := hr3.below hB4; have hG5 := hG3.below hB4; have hK5 := hK3.below hB4; have hs5 := hB5.size; clear hX4 hR hB3 hr3 hG3 hK3 hs3 hB4; go_frame)
      | ((with_reducible change wpList _ _ _ (Oper.mk (some 42) _ _ _ _ _ :: _) _ _); refine kLoadD _ _ _ hR4 rfl rfl rfl ?_; go_frame)
      | (go_at_call 8; refine (eN _ hr5).mono ?_; rintro e w6 ⟨x2, rfl, hX6, hB6⟩; have hX2 := hX6.vals; have hR6 := hR4.below hB6; have hB7 := hB5.trans (hB6.mono hs5); have hr7 := hr5.below hB6; have hG7 := hG5.below hB6; have hK7 := hK5.below hB6; have hX3 := hX1.below hB6; have hs7 := hB7.size; clear hX6 hR4 hB5 hr5 hG5 hK5 hs5 hB6 hX1; go_frame))
    refine region_mixD [(0, true), (1, true), (2, true), (3, true), (4, true), (5, true), (6, true), (7, true), (8, true), (9, true), (10, true), (11, true), (13, true), (12, false), (14, false), (15, true), (16, true), (17, true), (18, true), (20, true), (21, true), (22, true), (19, false), (23, true), (24, true), (25, true), (26, true), (27, true), (28, true), (29, true), (30, true), (31, true), (32, true), (33, true), (34, true), (36, true), (37, true), (38, true), (39, true), (35, false), (40, false), (41, true), (42, true)] (fun w => (IsVals w x1 (X.map VB) ∧ IsVals w x2 (X.map VB)) ∧ DR w W.heap.size d) (by kernel_rfl) (by kernel_rfl) rfl ?_
    intro q1 hBd hsd
    have hB8 := hB7.trans (hBd.mono hs7)
    have hX8 := hX3.below hBd
    have hY8 := hX2.below hBd
    have hR8 := hR6.below hBd
    have hr8 := hr7.below hBd
    have hG8 := hG7.below hBd
    have hK8 := hK7.below hBd
    have hs8 := hB8.size
    clear hBd hsd hB7 hX3 hX2 hR6 hr7 hG7 hK7 hs7
    simp only [List.map_cons, List.map_nil]
    dsimp only [List.filterMap, List.getElem?_cons_zero, List.getElem?_cons_succ]
    have hS := (⟨⟨hX8, hY8⟩, hR8⟩ : (IsVals q1 x1 (X.map VB) ∧ IsVals q1 x2 (X.map VB)) ∧ DR q1 W.heap.size d)
    refine dY _ hS (yMove _ (x1) rfl rfl rfl) ?_; go_frame
    refine dY _ hS (yStr _ _ _ _ x1 X rfl rfl rfl (fun _ h => h.1.1) Tryd.underlying22 Tryd.underlying5 Tryd.underlying9) ?_; go_frame
    refine dY _ hS (yMove _ (x2) rfl rfl rfl) ?_; go_frame
    refine dY _ hS (yStr _ _ _ _ x2 X rfl rfl rfl (fun _ h => h.1.2) Tryd.underlying22 Tryd.underlying5 Tryd.underlying9) ?_; go_frame
    refine dY _ hS (yNeqStr _ _ _ _ X X false rfl rfl rfl rfl (by simp)) ?_; go_frame
    refine dY _ hS (yMove _ (.bool false) rfl rfl rfl) ?_; go_frame
    refine dY _ hS (yMove _ (.int .i64 Z) rfl rfl rfl) ?_; go_frame
    refine dY _ hS (yMove _ (.int .i64 Z) rfl rfl rfl) ?_; go_frame
    refine dY _ hS (yNeqI _ _ _ _ .i64 Z Z false rfl rfl rfl rfl (by simp)) ?_; go_frame
    refine dY _ hS (yPick _ _ _ false (.bool false) rfl rfl rfl rfl) ?_; go_frame
    refine dY _ hS (yMove _ (.bool false) rfl rfl rfl) ?_; go_frame
    refine dY _ hS (yLoadD _ W.heap.size d (fun _ h => h.2) rfl rfl rfl) ?_; go_frame
    refine dY _ hS (yLoadD _ W.heap.size d (fun _ h => h.2) rfl rfl rfl) ?_; go_frame
    refine dLoud ?_
    refine kCall1 9 _ _ _ rfl rfl (by kernel_rfl) rfl ?_
    refine (eR _).mono ?_
    rintro e q2 ⟨rfl, hBB⟩
    have hX9 := hX8.below hBB
    have hY9 := hY8.below hBB
    have hR9 := hR8.below hBB
    have hr9 := hr8.below hBB
    have hG9 := hG8.below hBB
    have hK9 := hK8.below hBB
    have hB9 := hB8.trans (hBB.mono hs8)
    have hs9 := hB9.size
    clear hX8 hY8 hR8 hr8 hG8 hK8 hB8 hs8 hBB
    refine ⟨_, rfl, mixOn ⟨(fun w => (IsVals w x1 (X.map VB) ∧ IsVals w x2 (X.map VB)) ∧ DR w W.heap.size d), (fun _ h => h), (⟨⟨hX9, hY9⟩, hR9⟩ : (IsVals q2 x1 (X.map VB) ∧ IsVals q2 x2 (X.map VB)) ∧ DR q2 W.heap.size d), ?_⟩⟩
    have hS2 := (⟨⟨hX9, hY9⟩, hR9⟩ : (IsVals q2 x1 (X.map VB) ∧ IsVals q2 x2 (X.map VB)) ∧ DR q2 W.heap.size d); clear hS; have hS := hS2; clear hS2
    go_frame
    refine dLoud ?_
    refine kCall1 10 _ _ _ rfl rfl (by kernel_rfl) rfl ?_
    refine (eM _).mono ?_
    rintro e q3 ⟨rfl, hBB⟩
    have hX10 := hX9.below hBB
    have hY10 := hY9.below hBB
    have hR10 := hR9.below hBB
    have hr10 := hr9.below hBB
    have hG10 := hG9.below hBB
    have hK10 := hK9.below hBB
    have hB10 := hB9.trans (hBB.mono hs9)
    have hs10 := hB10.size
    clear hX9 hY9 hR9 hr9 hG9 hK9 hB9 hs9 hBB
    refine ⟨_, rfl, mixOn ⟨(fun w => (IsVals w x1 (X.map VB) ∧ IsVals w x2 (X.map VB)) ∧ DR w W.heap.size d), (fun _ h => h), (⟨⟨hX10, hY10⟩, hR10⟩ : (IsVals q3 x1 (X.map VB) ∧ IsVals q3 x2 (X.map VB)) ∧ DR q3 W.heap.size d), ?_⟩⟩
    have hS2 := (⟨⟨hX10, hY10⟩, hR10⟩ : (IsVals q3 x1 (X.map VB) ∧ IsVals q3 x2 (X.map VB)) ∧ DR q3 W.heap.size d); clear hS; have hS := hS2; clear hS2
    go_frame
    refine dY _ hS (yNeqBool8 _ _ _ _ rb rb false rfl rfl rfl rfl Tryd.underlying4 (by simp)) ?_; go_frame
    refine dY _ hS (yPick _ _ _ false (.bool false) rfl rfl rfl rfl) ?_; go_frame
    refine dY _ hS (yMove _ (.bool false) rfl rfl rfl) ?_; go_frame
    refine dY _ hS (yLoadD _ W.heap.size d (fun _ h => h.2) rfl rfl rfl) ?_; go_frame
    refine dY _ hS (yDeed0 _ _ rfl rfl rfl) ?_; go_frame
    refine dY _ hS (yLoadK _ W.heap.size d (fun _ h => h.2) rfl rfl rfl) ?_; go_frame
    refine dY _ hS (yEqlI8 _ _ _ _ .i64 d.kind 2 true rfl rfl rfl rfl hn2) ?_; go_frame
    refine dLoud ?_
    refine kCall1 11 _ _ _ rfl rfl (by kernel_rfl) rfl ?_
    refine (eA _).mono ?_
    rintro e q4 ⟨rfl, hBB⟩
    have hX11 := hX10.below hBB
    have hY11 := hY10.below hBB
    have hR11 := hR10.below hBB
    have hr11 := hr10.below hBB
    have hG11 := hG10.below hBB
    have hK11 := hK10.below hBB
    have hB11 := hB10.trans (hBB.mono hs10)
    have hs11 := hB11.size
    clear hX10 hY10 hR10 hr10 hG10 hK10 hB10 hs10 hBB
    refine ⟨_, rfl, mixOn ⟨(fun w => (IsVals w x1 (X.map VB) ∧ IsVals w x2 (X.map VB)) ∧ DR w W.heap.size d), (fun _ h => h), (⟨⟨hX11, hY11⟩, hR11⟩ : (IsVals q4 x1 (X.map VB) ∧ IsVals q4 x2 (X.map VB)) ∧ DR q4 W.heap.size d), ?_⟩⟩
    have hS2 := (⟨⟨hX11, hY11⟩, hR11⟩ : (IsVals q4 x1 (X.map VB) ∧ IsVals q4 x2 (X.map VB)) ∧ DR q4 W.heap.size d); clear hS; have hS := hS2; clear hS2
    go_frame
    refine dY _ hS (yMove _ (.bool true) rfl rfl rfl) ?_; go_frame
    refine dY undef hS (ySkip rfl) ?_; go_frame
    refine dY undef hS (ySkip rfl) ?_; go_frame
    refine dY undef hS (ySkip rfl) ?_; go_frame
    refine dY _ hS (yPick _ _ _ true (.bool true) rfl rfl rfl rfl) ?_; go_frame
    refine dY _ hS (yNeqBool8 _ _ _ _ (true || n3) true false rfl rfl rfl rfl Tryd.underlying4 (by simp)) ?_; go_frame
    refine dY _ hS (yPick _ _ _ false (.bool false) rfl rfl rfl rfl) ?_; go_frame
    refine dY _ hS (yMove _ (.bool false) rfl rfl rfl) ?_; go_frame
    refine dY _ hS (yDeed3 _ _ rfl rfl rfl) ?_; go_frame
    refine dY _ hS (yLoadN3 _ W.heap.size d (fun _ h => h.2) rfl rfl rfl) ?_; go_frame
    refine dY _ hS (yDeed1 _ _ rfl rfl rfl) ?_; go_frame
    refine dY _ hS (yLoadN1 _ W.heap.size d (fun _ h => h.2) rfl rfl rfl) ?_; go_frame
    refine dY _ hS (yDeed3 _ _ rfl rfl rfl) ?_; go_frame
    refine dY _ hS (yLoadN3 _ W.heap.size d (fun _ h => h.2) rfl rfl rfl) ?_; go_frame
    refine dY _ hS (yDeed1 _ _ rfl rfl rfl) ?_; go_frame
    refine dY _ hS (yLoadN1 _ W.heap.size d (fun _ h => h.2) rfl rfl rfl) ?_; go_frame
    refine dLoud ?_
    refine kCall2 12 _ _ _ _ _ rfl rfl (by kernel_rfl) rfl rfl ?_
    refine (eC _ hK11).mono ?_
    rintro e q5 ⟨rfl, hBB⟩
    have hX12 := hX11.below hBB
    have hY12 := hY11.below hBB
    have hR12 := hR11.below hBB
    have hr12 := hr11.below hBB
    have hG12 := hG11.below hBB
    have hK12 := hK11.below hBB
    have hB12 := hB11.trans (hBB.mono hs11)
    have hs12 := hB12.size
    clear hX11 hY11 hR11 hr11 hG11 hK11 hB11 hs11 hBB
    refine ⟨_, rfl, mixOn ⟨(fun w => (IsVals w x1 (X.map VB) ∧ IsVals w x2 (X.map VB)) ∧ DR w W.heap.size d), (fun _ h => h), (⟨⟨hX12, hY12⟩, hR12⟩ : (IsVals q5 x1 (X.map VB) ∧ IsVals q5 x2 (X.map VB)) ∧ DR q5 W.heap.size d), ?_⟩⟩
    have hS2 := (⟨⟨hX12, hY12⟩, hR12⟩ : (IsVals q5 x1 (X.map VB) ∧ IsVals q5 x2 (X.map VB)) ∧ DR q5 W.heap.size d); clear hS; have hS := hS2; clear hS2
    go_frame
    refine dLoud ?_
    refine kCall2 13 _ _ _ _ _ rfl rfl (by kernel_rfl) rfl rfl ?_
    refine (eD _).mono ?_
    rintro e q6 ⟨rfl, hBB⟩
    have hX13 := hX12.below hBB
    have hY13 := hY12.below hBB
    have hR13 := hR12.below hBB
    have hr13 := hr12.below hBB
    have hG13 := hG12.below hBB
    have hK13 := hK12.below hBB
    have hB13 := hB12.trans (hBB.mono hs12)
    have hs13 := hB13.size
    clear hX12 hY12 hR12 hr12 hG12 hK12 hB12 hs12 hBB
    refine ⟨_, rfl, mixOn ⟨(fun w => (IsVals w x1 (X.map VB) ∧ IsVals w x2 (X.map VB)) ∧ DR w W.heap.size d), (fun _ h => h), (⟨⟨hX13, hY13⟩, hR13⟩ : (IsVals q6 x1 (X.map VB) ∧ IsVals q6 x2 (X.map VB)) ∧ DR q6 W.heap.size d), ?_⟩⟩
    have hS2 := (⟨⟨hX13, hY13⟩, hR13⟩ : (IsVals q6 x1 (X.map VB) ∧ IsVals q6 x2 (X.map VB)) ∧ DR q6 W.heap.size d); clear hS; have hS := hS2; clear hS2
    go_frame
    refine dY _ hS (yNeqArr8 _ _ _ _ _ 20 .u8 .u8 cf cf false rfl rfl rfl rfl Tryd.underlying27 Tryd.underlying5 info_b8P eqGuard_Short (by rw [all_refl]; rfl)) ?_; go_frame
    refine dY _ hS (yPick _ _ _ false (.bool false) rfl rfl rfl rfl) ?_; go_frame
    refine dDone ?_
    cases R with
    | none =>
      have hZ1 : Z = 81 := hZ.symm
      subst hZ1
      go_wp2
      go_ret
      exact ⟨rfl, hB13⟩
    | some x =>
      have hZ1 : Z = 0 := hZ.symm
      have hX9 : x = X := hX
      subst hZ1 hX9
      have hlx : x.length ≤ 1000000 := by
        have := wordsL_le hd hf
        unfold lockS at hR0
        split at hR0
        · cases hR0
        · cases hR0; simp; omega
      have eS := fun w (h : Counts w) (h1 : IsVals w x1 (x.map VB)) => lbSplit_any w h h1 hlx
      rw [hback x rfl] at eS
      go_wp2_with (first
        | (go_at_call 14; refine (eS _ hG13 hX13).mono ?_; rintro e q7 ⟨tv, rfl, hT, hBB⟩; have hB14 := hB13.trans (hBB.mono hs13); have hR14 := hR13.below hBB; have hr14 := hr13.below hBB; have hs14 := hB14.size; clear hBB hB13 hR13 hr13 hS hX13 hY13 hG13; go_frame)
        | ((with_reducible change wpList _ _ _ (Oper.mk (some 9) _ _ _ _ _ :: _) _ _); refine kAllocL _ _ rfl rfl zero_Deed ?_; intro q8 hA hzz hBB; have hR15 := hR14.below hBB; have hr15 := hr14.below hBB; have hT15 := hT.below hBB; have hB15 := hB14.trans (hBB.mono hs14); have hgt : W.heap.size < q7.heap.size := hR14.lt; clear hzz hR14 hr14 hT hBB; go_frame)
        | ((with_reducible change wpList _ _ _ (Oper.mk none _ _ _ _ _ :: _) _ _); refine kStoreD _ _ _ noDeed _ hA rfl rfl rfl rfl ?_; intro q9 hA9 hW9; have hBB := hW9.below hs14; have hR16 := hW9.row hR15 (Nat.ne_of_lt hgt); have hB16 := hB15.trans hBB; have hr16 := hr.below hB16; have hT16 := own_keepW hT15 hW9 hA; clear hW9 hBB hr15 hR15 hT15 hA; go_frame)
        | ((with_reducible change wpList _ _ _ (Oper.mk (some 101) _ _ _ _ _ :: _) _ _); refine kLoadD _ _ _ hA9 rfl rfl rfl ?_; go_frame)
        | ((with_reducible change wpList _ _ _ (Oper.mk (some 102) _ _ _ _ _ :: _) _ _); refine kLoadD _ _ _ hR16 rfl rfl rfl ?_; go_frame)
        | ((with_reducible change wpList _ _ _ (Oper.mk (some 103) _ _ _ _ _ :: _) _ _); refine kEqlD _ _ _ hd (by exact hd) true rfl rfl rfl rfl ((sameD_iff _ _).2 rfl) ?_; go_frame)
        | ((with_reducible change wpList _ _ _ (Oper.mk (some 107) _ _ _ _ _ :: _) _ _); refine kToString _ _ _ _ tv r rfl rfl rfl hT16.vals Tryd.underlying22 Tryd.underlying5 Tryd.underlying9 ?_; go_frame)
        | ((with_reducible change wpList _ _ _ (Oper.mk (some 109) _ _ _ _ _ :: _) _ _); refine kToString _ _ _ _ vr r rfl rfl rfl hr16 Tryd.underlying22 Tryd.underlying5 Tryd.underlying9 ?_; go_frame)
        | ((with_reducible change wpList _ _ _ (Oper.mk (some 110) _ _ _ _ _ :: _) _ _); refine kEqlStr _ _ _ _ r r true rfl rfl rfl rfl (by simp) ?_; go_frame))
      go_ret
      exact ⟨rfl, hB16⟩
end Go.Proofs.YtnaclalbeocpkaaDoor
