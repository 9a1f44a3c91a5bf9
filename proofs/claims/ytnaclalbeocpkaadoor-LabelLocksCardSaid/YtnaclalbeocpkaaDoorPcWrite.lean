/-
  Layer 6: the walks of what writes: numbers and texts behind bytes, in new memory.
-/
import Derived.Test.YtnaclalbeocpkaaDoorPcBase
namespace Go.Proofs.YtnaclalbeocpkaaDoor
open Go Go.RowKit

theorem vals_slice {w : World} {v : Value} {l : List UInt8} (h : IsVals w v (l.map VB)) : ∃ ao c, v = .slice ao l.length c := by
  obtain ⟨ao, c, rfl, _⟩ := h; exact ⟨ao, c, by simp⟩
set_option maxRecDepth 100000 in
set_option maxHeartbeats 8000000 in
theorem bClone_any {l : List UInt8} {v : Value} (w : World) (hv : IsVals w v (l.map VB)) (hl : l.length ≤ 1000000) : Calls Tryd.prog 25 #[v] w (POwnPost w l) := by
  obtain ⟨i, hi, hz, hs1, hby⟩ := b8Info
  obtain ⟨ao, c, rfl⟩ := vals_slice hv
  cases ao with
  | none =>
    obtain ⟨rfl, h1, rfl⟩ := vals_none hv
    go_enter Tryd.func25, Tryd.ntmps25
    go_wp2_with (first
      | ((with_reducible change wpList _ _ _ (Oper.mk (some 4) _ _ _ _ _ :: _) _ _); refine kEqlNilS _ _ _ _ _ none _ _ true rfl Tryd.underlying22 rfl rfl rfl rfl ?_; go_frame))
    go_ret
    exact ⟨_, rfl, ownB_nil _ _, Below.refl _ _⟩
  | some ad =>
    generalize hq : l.length = q at hv ⊢
    go_enter Tryd.func25, Tryd.ntmps25
    go_wp2_with (first
      | ((with_reducible change wpList _ _ _ (Oper.mk (some 4) _ _ _ _ _ :: _) _ _); refine kEqlNilS _ _ _ _ _ (some ad) _ _ false rfl Tryd.underlying22 rfl rfl rfl rfl ?_; go_frame)
      | ((with_reducible change wpList _ _ _ (Oper.mk (some 5) _ _ _ _ _ :: _) _ _); refine kBuildSlice0 _ _ rfl rfl Tryd.underlying22 i hi ?_; intro w1 hR1 hz1 hB1; clear hz1; have hO1 : OwnB w1 w.heap.size _ [] := own_empty (Nat.le_refl _) hR1; clear hR1; have hv1 := hv.below hB1; have hsz1 := hB1.size; clear hv; go_frame)
      | ((with_reducible change wpList _ _ _ (Oper.mk (some 7) _ _ _ _ _ :: _) _ _); refine kAppB _ _ rfl rfl w.heap.size _ _ [] l hO1 hv1 rfl rfl (by simp; omega) hsz1 ?_; intro v2 w2 hO2 hB2; rw [List.nil_append] at hO2; have hB := hB1.trans hB2; clear hO1 hv1 hsz1 hB1 hB2; go_frame))
    go_ret
    exact ⟨_, rfl, hO2, hB⟩
theorem byte_cases (c : UInt8) : c.toNat ≤ 252 ∨ c = 253 ∨ c = 254 ∨ c = 255 := by
  have h := c.toNat_lt
  by_cases h1 : c.toNat ≤ 252
  · exact .inl h1
  · rcases (show c.toNat = 253 ∨ c.toNat = 254 ∨ c.toNat = 255 by omega) with e | e | e
    · exact .inr (.inl (UInt8.toNat_inj.1 e))
    · exact .inr (.inr (.inl (UInt8.toNat_inj.1 e)))
    · exact .inr (.inr (.inr (UInt8.toNat_inj.1 e)))
theorem fSize_low {c : UInt8} (h : c.toNat ≤ 252) : fSize c = 0 := by unfold fSize; rw [if_pos h]
/-- a count's first byte -/
def cFirst (n : Nat) : UInt8 := if n ≤ 252 then UInt8.ofNat n else if n ≤ 65535 then 253 else if n ≤ 4294967295 then 254 else 255
theorem cFirst_size {n : Nat} : fSize (cFirst n) = cSize n := by
  unfold cFirst cSize
  split
  · rw [fSize_low (by rw [u8_nat (by omega)]; assumption)]
  · split
    · decide
    · split <;> decide
theorem countL_first (n : Nat) : countL n = cFirst n :: fixedL n (fSize (cFirst n)) := by
  rw [cFirst_size]
  unfold countL cFirst cSize
  split
  · rfl
  · split
    · rfl
    · split <;> rfl
theorem VB_of {n : Nat} (h : n < 256) : VB (UInt8.ofNat n) = .int .u8 (n : Int) := by
  show Value.int .u8 (B (UInt8.ofNat n)) = _
  unfold B; rw [u8_nat h]
theorem fixedL_snoc (n k : Nat) : fixedL n (k + 1) = fixedL n k ++ [UInt8.ofNat (n / 256 ^ k % 256)] := by
  induction k generalizing n with
  | zero => show [UInt8.ofNat (n % 256)] = _; rw [Nat.pow_zero, Nat.div_one]; rfl
  | succ k ih =>
    show UInt8.ofNat (n % 256) :: fixedL (n / 256) (k + 1) = (UInt8.ofNat (n % 256) :: fixedL (n / 256) k) ++ _
    rw [ih, Nat.div_div_eq_div_mul, show 256 * 256 ^ k = 256 ^ (k + 1) by rw [Nat.pow_succ, Nat.mul_comm]]; rfl
theorem own_make8 {w : World} {g base : Nat} (hb : base ≤ g) (h : Row w g 5 (Array.replicate 8 (.int .u8 0))) : OwnB w base (.slice (some ⟨g, 0, none⟩) 0 8) [] :=
  ⟨rfl, .inr ⟨g, 8, _, rfl, hb, h, by decide, by decide, by simp, by simp⟩⟩
theorem clampS_le (z : Int) : clampS z ≤ 8 := by unfold clampS; omega
theorem clampS_size (c : UInt8) : clampS (fSize c : Int) = fSize c := by
  unfold fSize clampS; split <;> (try split) <;> (try split) <;> decide
theorem fSize_le (c : UInt8) : fSize c ≤ 8 := by unfold fSize; split <;> (try split) <;> (try split) <;> decide
end Go.Proofs.YtnaclalbeocpkaaDoor
