/-
  Contracts of the reference of layer 3 by a number's name.
-/
import Derived.Test.YtfgffjmpjoipeaaDoorFRefAll
import Derived.Test.YtfgffjmpjoipeaaDoorFAlive
namespace Go.Proofs.YtfgffjmpjoipeaaDoor
open Go Go.RowKit

theorem NumT.n16 {w : World} {v : Value} {n : Nat} (h : NumT w v n) (hn : n < M256) : Num w v n 16 := h.num (by rw [P16_16]; exact hn)
theorem rOf_as {b : Bool} {m a x : Nat} (hm : Modu m) (hP : PrimeIs b m) (ma : a < M256) (h : a % m = x) (w : World) : Calls Tryd.prog 37 #[WV a, .bool b] w (NumTPost w x) := h ▸ rOf_num hm hP a ma w
theorem rAdd_as {b : Bool} {m x : Nat} {va vb : Value} {na nb : Nat} {w : World} (hm : Modu m) (hP : PrimeIs b m) (ha : Num w va na 16) (hb : Num w vb nb 16) (h : (na + nb) % m = x) : Calls Tryd.prog 38 #[va, vb, .bool b] w (NumTPost w x) := h ▸ rAdd_num hm hP ha hb
theorem rMul_as {b : Bool} {m x : Nat} {va vb : Value} {na nb : Nat} {w : World} (hm : Modu m) (hP : PrimeIs b m) (ha : Num w va na 16) (hb : Num w vb nb 16) (h : na * nb % m = x) : Calls Tryd.prog 40 #[va, vb, .bool b] w (NumTPost w x) := h ▸ rMul_num hm hP ha hb
theorem rSub_as {b : Bool} {m x : Nat} {va vb : Value} {na nb : Nat} {w : World} (hm : Modu m) (hP : PrimeIs b m) (ha : Num w va na 16) (hb : Num w vb nb 16) (hnb : nb < m) (h : (na + m - nb) % m = x) : Calls Tryd.prog 44 #[va, vb, .bool b] w (NumTPost w x) := h ▸ rSub_num hm hP ha hb hnb
theorem rInv_as {b : Bool} {m x : Nat} {va : Value} {na : Nat} {w : World} (hm : Modu m) (hP : PrimeIs b m) (ha : Num w va na 16) (h : na ^ (m - 2) % m = x) : Calls Tryd.prog 42 #[va, .bool b] w (NumTPost w x) := h ▸ rInv_num hm hP ha
theorem rMod_as {b : Bool} {m x k : Nat} {va : Value} {na : Nat} {w : World} (hm : Modu m) (hP : PrimeIs b m) (ha : Num w va na k) (hk : k ≤ 100) (h : na % m = x) : Calls Tryd.prog 64 #[va, .bool b] w (NumTPost w x) := h ▸ rMod_num hm hP ha hk
theorem dCompare_below {va vb : Value} {na nb ka kb : Nat} {w : World} (ha : Num w va na ka) (hb : Num w vb nb kb) (hka : ka ≤ 1000) (hkb : kb ≤ 1000) : Calls Tryd.prog 46 #[va, vb] w fun e w' => e = .returned (.int .i64 (cmpI na nb)) ∧ Below w.heap.size w w' :=
  (dCompare_num ha hb hka hkb).mono fun _ _ ⟨h1, h2⟩ => ⟨h1, h2 ▸ Below.refl _ _⟩
theorem cmpI_less {x y : Nat} {b : Bool} (h : decide (x < y) = b) : decide (cmpI x y < 0) = b := by
  subst h
  unfold cmpI
  by_cases h : x < y
  · rw [if_pos h]; simp [h]
  · rw [if_neg h]; split <;> simp [h]
end Go.Proofs.YtfgffjmpjoipeaaDoor
