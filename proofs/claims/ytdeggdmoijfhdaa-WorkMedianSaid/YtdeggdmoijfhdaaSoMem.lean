/-
  Layer 12: the sort: numbers of 32 bits in a row of their own, read and written; which of two is less.
-/
import Derived.Test.YtdeggdmoijfhdaaSoPlain
import Derived.Test.YtdeggdmoijfhdaaWkB
namespace Go.Proofs.Ytdeggdmoijfhdaa
open Go Go.RowKit

section
variable {P : Program} {ops : Array Oper} {Q : Exit → Act → World → Prop} {L : Act → World → Prop} {o : Oper} {a : Act} {w : World}
/-- two quiet ones that may come in either order -/
theorem tTwoSo {k k' : Nat} {t : PT} {o' : Oper} {d d' : Tmp} (v v' : Value) (h0 : ops.toList[k]? = some o) (h0' : ops.toList[k']? = some o') (hd : o.dst = some d) (hd' : o'.dst = some d') (hne : d ≠ d')
    (hy1 : YieldsIf P ops (fun x => x = w) o v a) (hy2 : YieldsIf P ops (fun x => x = w) o' v' (a.put o.dst v)) (hy3 : YieldsIf P ops (fun x => x = w) o' v' a) (hy4 : YieldsIf P ops (fun x => x = w) o v (a.put o'.dst v'))
    (h : wpPT P ops Q L t (fun _ => True) ((a.put o.dst v).put o'.dst v') w) : wpPT P ops Q L (.two k (.one k' t) k' (.one k t)) (fun _ => True) a w := by
  have e : (a.put o'.dst v').put o.dst v = (a.put o.dst v).put o'.dst v' := by
    rw [hd, hd']
    simp only [Act.put]
    rw [Array.setIfInBounds_comm _ _ (Ne.symm hne)]
  refine tTwo h0 h0' (kYw hy1 (mixOn ⟨fun _ => True, fun _ h => h, trivial, tOne h0' (kYw hy2 (mixOn ⟨fun _ => True, fun _ h => h, trivial, h⟩))⟩)) (kYw hy3 (mixOn ⟨fun _ => True, fun _ h => h, trivial, tOne h0 (kYw hy4 (mixOn ⟨fun _ => True, fun _ h => h, trivial, ?_⟩))⟩))
  rw [e]
  exact h
end
def VW (x : Nat) : Value := .int .u32 (x : Int)
/-- a slice of n numbers, at the beginning of a row of cap -/
def Dat (w : World) (g n cap : Nat) (d : Array Nat) : Prop := d.size = n ∧ n ≤ cap ∧ ∃ C : Array Value, Row w g 28 C ∧ C.size = cap ∧ ∀ i, i < n → C[i]? = some (VW (dv d i))
theorem Dat.size {w : World} {g n cap : Nat} {d : Array Nat} (h : Dat w g n cap d) : d.size = n := h.1
theorem Dat.lt {w : World} {g n cap : Nat} {d : Array Nat} (h : Dat w g n cap d) : g < w.heap.size := by obtain ⟨-, -, C, hR, -⟩ := h; exact hR.lt
theorem Dat.below {w w' : World} {g n cap : Nat} {d : Array Nat} (h : Dat w g n cap d) (hb : Below w.heap.size w w') : Dat w' g n cap d := by
  obtain ⟨h1, h2, C, hR, h3⟩ := h; exact ⟨h1, h2, C, hR.below hb hR.lt, h3⟩
theorem Dat.other {k : Nat} {w w' : World} {g n cap : Nat} {d : Array Nat} (h : Dat w g n cap d) (he : Exc k w w') (hk : g ≠ k) : Dat w' g n cap d := by
  obtain ⟨h1, h2, C, hR, h3⟩ := h; exact ⟨h1, h2, C, he.row hR hk, h3⟩
def SoPost (w : World) (g n cap : Nat) (R : Array Nat → Prop) (e : Ending) (w' : World) : Prop := e = .returned (.tuple #[]) ∧ ∃ d', R d' ∧ Dat w' g n cap d' ∧ Exc g w w'
section
variable {ops : Array Oper} {o : Oper} {a : Act} {S : World → Prop} {Q : Exit → Act → World → Prop} {rest : List Oper} {w : World}
theorem yIdxD (x y : Operand) (g n cap i : Nat) (hi : i < n) (ho : o.op = .indexAddr 45 x y) (hg : Region.wanted o (yielded ops a.tmps) = true) (hx : a.eval x = .slice (some ⟨g, 0, none⟩) n cap) (hy : a.eval y = .int .i64 (i : Int)) : YieldsIf Try.prog ops S o (.pointer (some ⟨g, i, none⟩)) a := by
  have := yIndexK (ops := ops) (S := S) (o := o) (a := a) 45 28 x y ⟨g, 0, none⟩ n cap i Try.underlying45 info_u32W hi ho hg hx hy
  rw [add_none, Nat.zero_add] at this; exact this
theorem yLoadD (x : Operand) {g n cap i : Nat} {d : Array Nat} (hS : ∀ w, S w → Dat w g n cap d) (hi : i < n) (ho : o.op = .load 28 x) (hg : Region.wanted o (yielded ops a.tmps) = true) (hx : a.eval x = .pointer (some ⟨g, i, none⟩)) : YieldsIf Try.prog ops S o (VW (dv d i)) a :=
  yOf hg fun w hw => by
    obtain ⟨-, -, C, hR, -, hC⟩ := hS w hw
    unfold execOp; simp only [ho, hx, Instr.loadAt, Instr.sureAddr, Sem.run_bind, Sem.run_pure, Result.andThen_ok, run_load1 hR Try.underlying28 rfl (hC i hi)]
theorem kStoreD (x y : Operand) (g n cap i v : Nat) (d : Array Nat) (hD : Dat w g n cap d) (hi : i < n) (ho : o.op = .store 28 x y) (hg : Region.wanted o (yielded ops a.tmps) = true) (hx : a.eval x = .pointer (some ⟨g, i, none⟩)) (hy : a.eval y = VW v)
    (h : ∀ w1, Dat w1 g n cap (d.setIfInBounds i v) → Wrote g w w1 → wpList Try.prog ops Q rest (a.put o.dst undef) w1) : wpList Try.prog ops Q (o :: rest) a w := by
  obtain ⟨h1, h2, C, hR, hs, hC⟩ := hD
  refine kStore1 _ _ _ _ g i _ _ ho hg hx hy hR info_u32W (by omega) rfl fun w1 hR1 hW => h w1 ⟨by simpa using h1, h2, _, hR1, by simpa using hs, fun k hk => ?_⟩ hW
  rw [dv_set _ _ _ _ (by omega), Array.getElem?_setIfInBounds]
  by_cases e : k = i
  · subst e; rw [if_pos rfl, if_pos (by omega), if_pos rfl]
  · rw [if_neg (Ne.symm e), if_neg e]; exact hC k hk
theorem yNotW (T : TypeId) (x : Operand) (b : Bool) (ho : o.op = .unOp .not T x) (hg : Region.wanted o (yielded ops a.tmps) = true) (hx : a.eval x = .bool b) : YieldsIf Try.prog ops S o (.bool (!b)) a :=
  yOf hg fun w _ => by
    unfold execOp; simp only [ho, hx]; rfl
end
set_option maxRecDepth 100000 in
theorem isNaN_any (x : Nat) (w : World) : Calls Try.prog 75 #[VW x] w fun e w' => e = .returned (.bool false) ∧ w = w' := by
  unfold VW
  go_enter Try.func75, Try.ntmps75
  go_wp2_with (first
    | ((with_reducible change wpList _ _ _ (Oper.mk (some 5) _ _ _ _ _ :: _) _ _); refine kYw (yNeqK _ _ _ _ .u32 (x : Int) (x : Int) false (by simp) rfl rfl rfl rfl) ?_; go_frame))
  go_ret
  exact ⟨rfl, rfl⟩
set_option maxRecDepth 100000 in
theorem kLess_as {x y : Nat} {c : Bool} (h : decide (x < y) = c) (w : World) : Calls Try.prog 65 #[VW x, VW y] w fun e w' => e = .returned (.bool c) ∧ w = w' := by
  have h : Hid (decide ((x : Int) < (y : Int)) = c) := Lib.hid (by rw [← h]; simp)
  obtain ⟨v, hv⟩ : ∃ v, Hid (VW x = v) := ⟨_, Lib.hid rfl⟩
  have hn : ∀ z w, Calls Try.prog 75 #[.int .u32 ((z : Nat) : Int)] w fun e w' => e = .returned (.bool false) ∧ w = w' := fun z w => isNaN_any z w
  unfold VW
  go_enter Try.func65, Try.ntmps65
  go_wp2_with (first
    | (go_at_call 75; refine (hn _ _).mono ?_; rintro e w1 ⟨rfl, rfl⟩; go_frame)
    | ((with_reducible change wpList _ _ _ (Oper.mk (some 15) _ _ _ _ _ :: _) _ _); refine kYw (yLssK _ _ _ _ .u32 (x : Int) (y : Int) c h.out rfl rfl rfl rfl) ?_; go_frame))
  go_ret
  exact ⟨rfl, rfl⟩
end Go.Proofs.Ytdeggdmoijfhdaa
