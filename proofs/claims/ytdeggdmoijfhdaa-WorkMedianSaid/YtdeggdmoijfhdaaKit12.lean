/-
  My kit, twelfth part: short names for the steps of a drawn region (what a step shows by itself is filled in by the kernel).
-/
import Derived.Test.YtdeggdmoijfhdaaKit11
import Derived.Test.YtdeggdmoijfhdaaFAll
namespace Go.Proofs.Ytdeggdmoijfhdaa
open Go Go.RowKit

/-- a slot that the region does not write -/
theorem sO {h : List Oper} {a a0 : Act} (ho : ∀ s, (∀ (j : Nat) o, h[j]? = some o → o.dst ≠ some s) → a.tmps.getD s undef = a0.tmps.getD s undef) (s : Tmp) (hf : (h.all fun o => o.dst != some s) = true := by kernel_rfl) : a.tmps.getD s undef = a0.tmps.getD s undef := ho s (free2_of hf)
/-- what an operation yields that this one waits for -/
theorem sD {h : List Oper} {a : Act} {w : World} {ss : List Spec} {o : Oper} (hd : ∀ e ∈ o.after, Region.binds .any e = true → specAt ss e.on w (a.tmps.getD (dstOf h e.on) undef)) (j : Nat) (g : Ground) (hm : (⟨j, g⟩ : Edge) ∈ o.after := by simp) (hb : Region.binds .any ⟨j, g⟩ = true := by rfl) : specAt ss j w (a.tmps.getD (dstOf h j) undef) := hd ⟨j, g⟩ hm hb
/-- an operation's slot is inside the frame and none of the list -/
def okDst (A : List Tmp) (n : Nat) (o : Oper) : Bool := match o.dst with
  | some d => decide (d < n) && !(A.contains d)
  | none => false
theorem okDst_at {A : List Tmp} {n : Nat} {o : Oper} (h : okDst A n o = true) : ∃ d, o.dst = some d ∧ d < n ∧ A.contains d = false := by
  unfold okDst at h
  split at h
  · rename_i d hd
    simp only [Bool.and_eq_true, decide_eq_true_eq, Bool.not_eq_true'] at h
    exact ⟨d, hd, h.1, h.2⟩
  · cases h
section
variable {P : Program} {Q : Exit → Act → World → Prop}
/-- the end of a step that yields a value -/
theorem sV {ops : Array Oper} {A : List Tmp} {ss : List Spec} {a0 a : Act} {w w' : World} {o : Oper} {i : Nat} {v : Value} (hX : ApartAll A a w) (hsz : a.tmps.size = a0.tmps.size) (hB : Below w.heap.size w w') (hp : specAt ss i w' v) (hk : okDst A a0.tmps.size o = true := by kernel_rfl) :
    wpList P ops (Exit.then (fun a' w' => ∃ v, a' = a.put o.dst v ∧ Below w.heap.size w w' ∧ ApartAll A a' w' ∧ specAt ss i w' v) (NoPanic Q)) [] (a.put o.dst v) w' := by
  obtain ⟨d, hd, hdn, hnA⟩ := okDst_at hk
  exact symVT hX hsz hd hdn hnA hB hp
theorem sE {ops : Array Oper} {A : List Tmp} {ss : List Spec} {a0 a : Act} {w : World} {o : Oper} {i : Nat} {v : Value} (hX : ApartAll A a w) (hsz : a.tmps.size = a0.tmps.size) (hp : specAt ss i w v) (hk : okDst A a0.tmps.size o = true := by kernel_rfl) :
    wpList P ops (Exit.then (fun a' w' => ∃ v, a' = a.put o.dst v ∧ Below w.heap.size w w' ∧ ApartAll A a' w' ∧ specAt ss i w' v) (NoPanic Q)) [] (a.put o.dst v) w := by
  obtain ⟨d, hd, hdn, hnA⟩ := okDst_at hk
  exact symVT hX hsz hd hdn hnA (Below.refl _ _) hp
theorem sA {ops : Array Oper} {A : List Tmp} {ss : List Spec} {a0 a : Act} {w w' : World} {o : Oper} {i d : Nat} (hX : ApartAll A a w) (hsz : a.tmps.size = a0.tmps.size) (hz : w.heap.size < w'.heap.size) (hB : Below w.heap.size w w') (hp : specAt ss i w' (.pointer (some ⟨w.heap.size, 0, none⟩))) (hd : o.dst = some d) (hk : okDst [] a0.tmps.size o = true := by kernel_rfl) :
    wpList P ops (Exit.then (fun a' w' => ∃ v, a' = a.put o.dst v ∧ Below w.heap.size w w' ∧ ApartAll A a' w' ∧ specAt ss i w' v) (NoPanic Q)) [] (a.put o.dst (.pointer (some ⟨w.heap.size, 0, none⟩))) w' := by
  obtain ⟨d', hd', hdn, -⟩ := okDst_at hk
  obtain rfl : d' = d := Option.some.inj (hd'.symm.trans hd)
  exact symAT hX hsz hd hdn hz hB hp
/-- the end of a call: any of the contracts that yield a value -/
theorem sC {ops : Array Oper} {A : List Tmp} {ss : List Spec} {a0 a : Act} {w : World} {o : Oper} {i : Nat} {f : FuncId} {args : Array Value} {v : Value} (hc : Calls P f args w fun e w' => e = .returned v ∧ Below w.heap.size w w') (hX : ApartAll A a w) (hsz : a.tmps.size = a0.tmps.size) (hp : ∀ w', specAt ss i w' v) (hk : okDst A a0.tmps.size o = true := by kernel_rfl) :
    Calls P f args w fun e w' => ∃ v, e = .returned v ∧ wpList P ops (Exit.then (fun a' w' => ∃ v, a' = a.put o.dst v ∧ Below w.heap.size w w' ∧ ApartAll A a' w' ∧ specAt ss i w' v) (NoPanic Q)) [] (a.put o.dst v) w' := by
  obtain ⟨d, hd, hdn, hnA⟩ := okDst_at hk
  exact hc.mono fun _ _ ⟨h1, h2⟩ => ⟨v, h1, symVT hX hsz hd hdn hnA h2 (hp _)⟩
/-- a call, its text found by the kernel -/
theorem sCall1 {ops : Array Oper} {rest : List Oper} {o : Oper} {a : Act} {w : World} (f : FuncId) {T : TypeId} {x : Operand} {u : Value} (ho : o.op = .call { callee := .value (.func f), args := #[x], argTypes := #[T] }) (hx : a.eval x = u) (hc : Calls P f #[u] w fun e w' => ∃ v, e = .returned v ∧ wpList P ops Q rest (a.put o.dst v) w') (hg : Region.wanted o (yielded ops a.tmps) = true := by rfl) (hf : bodied P f = true := by kernel_rfl) : wpList P ops Q (o :: rest) a w := kCall1 f T x u ho hg hf hx hc
theorem sCall2 {ops : Array Oper} {rest : List Oper} {o : Oper} {a : Act} {w : World} (f : FuncId) {Ts : Array TypeId} {x y : Operand} {u t : Value} (ho : o.op = .call { callee := .value (.func f), args := #[x, y], argTypes := Ts }) (hx : a.eval x = u) (hy : a.eval y = t) (hc : Calls P f #[u, t] w fun e w' => ∃ v, e = .returned v ∧ wpList P ops Q rest (a.put o.dst v) w') (hg : Region.wanted o (yielded ops a.tmps) = true := by rfl) (hf : bodied P f = true := by kernel_rfl) : wpList P ops Q (o :: rest) a w := kCall2 f Ts x y u t ho hg hf hx hy hc
theorem sCall3 {ops : Array Oper} {rest : List Oper} {o : Oper} {a : Act} {w : World} (f : FuncId) {Ts : Array TypeId} {x y z : Operand} {u t s : Value} (ho : o.op = .call { callee := .value (.func f), args := #[x, y, z], argTypes := Ts }) (hx : a.eval x = u) (hy : a.eval y = t) (hz : a.eval z = s) (hc : Calls P f #[u, t, s] w fun e w' => ∃ v, e = .returned v ∧ wpList P ops Q rest (a.put o.dst v) w') (hg : Region.wanted o (yielded ops a.tmps) = true := by rfl) (hf : bodied P f = true := by kernel_rfl) : wpList P ops Q (o :: rest) a w := kCall3 f Ts x y z u t s ho hg hf hx hy hz hc
end
/-- a number modulo m under a name -/
theorem nameMod {m : Nat} (hm : Modu m) (e : Nat) : ∃ v, Hid (e % m = v) ∧ v < M256 := ⟨_, Lib.hid rfl, hm.mod _⟩
end Go.Proofs.Ytdeggdmoijfhdaa
