/-
  Roots, as package field tells them (for layer 4).
-/
import Derived.Test.YtecibidncelebaaDoorFRef4
namespace Go.Proofs.YtecibidncelebaaDoor
open Go Go.RowKit

theorem rk_neg_form {m a : Nat} : (0 % m + m - a % m) % m = (m - a % m) % m := by rw [Nat.zero_mod, Nat.zero_add]
/-- the power that is a root, if any is -/
def rootOf (m a : Nat) : Nat := a ^ ((m + 1) / 4) % m
/-- the even one of both -/
def evenRoot (m a : Nat) : Nat := if rootOf m a % 2 = 0 then rootOf m a else (m - rootOf m a) % m
def HasRoot (m a : Nat) : Prop := rootOf m a * rootOf m a % m = a % m
theorem evenRoot_lt {m a : Nat} (hm : 0 < m) : evenRoot m a < m := by unfold evenRoot rootOf; split <;> exact Nat.mod_lt _ hm
theorem evenRoot_even {m a : Nat} (hm : m % 2 = 1) : evenRoot m a % 2 = 0 := by
  have hl : rootOf m a < m := Nat.mod_lt _ (by omega)
  unfold evenRoot
  split
  · assumption
  · rename_i h
    have e : (m - rootOf m a) % m = m - rootOf m a := Nat.mod_eq_of_lt (by omega)
    rw [e]; omega
theorem evenRoot_sq {m a : Nat} (hm : 0 < m) (h : HasRoot m a) : evenRoot m a * evenRoot m a % m = a % m := by
  have hl : rootOf m a < m := Nat.mod_lt _ hm
  unfold evenRoot
  split
  · exact h
  · rw [← h]
    refine (neg_sq ?_).symm
    rw [Nat.add_mod_mod, show rootOf m a + (m - rootOf m a) = m by omega, Nat.mod_self]
theorem hasRoot_mod {m a : Nat} : HasRoot m a ↔ a ^ ((m + 1) / 4) * a ^ ((m + 1) / 4) % m = a % m := by unfold HasRoot rootOf; rw [← Nat.mul_mod]
theorem hasRoot_square {m a x : Nat} (hp : IsPrime m) (h4 : m % 4 = 3) (h : x = a * a % m) : HasRoot m x := by
  rw [hasRoot_mod]; exact root_sq (y := a) hp h4 (by rw [h, Nat.mod_mod])
theorem root_own {m a x : Nat} (hp : IsPrime m) (h4 : m % 4 = 3) (hx : x = a * a % m) : evenRoot m x = a % m ∨ evenRoot m x = (0 % m + m - a % m) % m := by
  have hm : 0 < m := by omega
  have h := evenRoot_sq hm (hasRoot_square hp h4 hx)
  have h2 : x % m = a * a % m := by rw [hx, Nat.mod_mod]
  rw [h2] at h
  have hl := evenRoot_lt (a := x) hm
  rcases sq_eq hp h with h' | h'
  · left; rw [← h', Nat.mod_eq_of_lt hl]
  · right
    rw [Nat.add_comm] at h'
    have := neg_unique hm h'
    rw [rk_neg_form, ← this, Nat.mod_eq_of_lt hl]
theorem fRoot_some {m a x : Nat} (hm : Modu m) (g : Nat) (ma : a < M256) (h : HasRoot m a) (hx : evenRoot m a = x) (hm1 : m + 1 < M256) (w : World) (hr : Row w g 85 (wcells m)) (hG : Glob 2 m w) :
    Calls Tryd.prog 33 #[.pointer (some ⟨g, 0, none⟩), WV a] w fun e w' => e = .returned (.tuple #[WV x, .int .i64 0]) ∧ Below w.heap.size w w' := by
  subst hx
  unfold evenRoot
  split
  · rename_i hq; exact fRoot_even hm a g ma w hr hG hm1 rfl h hq
  · rename_i hq; exact fRoot_odd hm a g ma w hr hG hm1 rfl h (by omega)
theorem fRoot_no {m a : Nat} (hm : Modu m) (g : Nat) (ma : a < M256) (h : ¬ HasRoot m a) (hm1 : m + 1 < M256) (w : World) (hr : Row w g 85 (wcells m)) (hG : Glob 2 m w) :
    Calls Tryd.prog 33 #[.pointer (some ⟨g, 0, none⟩), WV a] w fun e w' => e = .returned (.tuple #[WV 0, .int .i64 31]) ∧ Below w.heap.size w w' :=
  fRoot_none hm a g ma w hr hG hm1 rfl h
end Go.Proofs.YtecibidncelebaaDoor
