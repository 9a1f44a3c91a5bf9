/-
  Package curve: Add, Neg and On by points; '==' of points.
-/
import Derived.Test.YtfgffjmpjoipeaaDoorCvFuncs2
namespace Go.Proofs.YtfgffjmpjoipeaaDoor
open Go Go.RowKit

open Cv
theorem cOn_pt {p : Pt PP} (h : p.On) (w : World) (hG : Glob 3 PP w) (hO : GlobP 2 0 0 true w) : Calls Tryd.prog 50 #[.agg (ptc p)] w fun e w' => e = .returned (.bool true) ∧ Below w.heap.size w w' := by
  obtain ⟨x, y, b, e, mx, my, ho⟩ := onB_pt h
  rw [e, ← ho]; exact cOn_any mx my b w hG hO
/-- '==' of points -/
def pX : Pt PP → Nat
  | .o => 0
  | .mk x _ => x.val
def pY : Pt PP → Nat
  | .o => 0
  | .mk _ y => y.val
def pN : Pt PP → Bool
  | .o => true
  | .mk _ _ => false
theorem ptc_eq (p : Pt PP) : ptc p = pcells (pX p) (pY p) (pN p) := by cases p <;> rfl
theorem pX_lt (p : Pt PP) : pX p < M256 := by cases p with
  | o => decide
  | mk x y => exact val_lt x
theorem pY_lt (p : Pt PP) : pY p < M256 := by cases p with
  | o => decide
  | mk x y => exact val_lt y
theorem pt_iff (p q : Pt PP) : (pX p % M256 = pX q % M256 ∧ pY p % M256 = pY q % M256 ∧ pN p = pN q) ↔ p = q := by
  rw [Nat.mod_eq_of_lt (pX_lt p), Nat.mod_eq_of_lt (pX_lt q), Nat.mod_eq_of_lt (pY_lt p), Nat.mod_eq_of_lt (pY_lt q)]
  constructor
  · intro ⟨h1, h2, h3⟩
    cases p <;> cases q
    · rfl
    · cases h3
    · cases h3
    · rename_i x y x' y'
      have e1 : x = x' := Fin.ext h1
      have e2 : y = y' := Fin.ext h2
      rw [e1, e2]
  · intro h; subst h; exact ⟨rfl, rfl, rfl⟩
section
variable {ops : Array Oper} {Q : Exit → Act → World → Prop} {rest : List Oper} {o : Oper} {a : Act} {w : World}
theorem kEqlPt (T2 : TypeId) (u v : Operand) (p q : Pt PP) (b : Bool) (ho : o.op = .binOp .eql 30 u v T2) (hg : Region.wanted o (yielded ops a.tmps) = true) (hx : a.eval u = .agg (ptc p)) (hy : a.eval v = .agg (ptc q)) (hb : (p = q) ↔ b = true)
    (h : wpList Tryd.prog ops Q rest (a.put o.dst (.bool b)) w) : wpList Tryd.prog ops Q (o :: rest) a w := by
  rw [ptc_eq] at hx hy
  refine kEqlP T2 u v _ _ _ _ _ _ b ho hg hx hy ?_ h
  rw [Bool.eq_iff_iff, decide_eq_true_iff, pt_iff]; exact hb
end
theorem eq_yes {p q : Pt PP} (h : p = q) : (p = q) ↔ true = true := by simp [h]
end Go.Proofs.YtfgffjmpjoipeaaDoor
