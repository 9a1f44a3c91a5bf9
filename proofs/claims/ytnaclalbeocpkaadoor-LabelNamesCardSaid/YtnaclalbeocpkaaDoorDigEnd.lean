/-
  The walk of digest's 'ending': what comes behind so many bytes.
-/
import Derived.Test.YtnaclalbeocpkaaDoorDigMixed
import Derived.Test.YtnaclalbeocpkaaDoorKitAll
namespace Go.Proofs.YtnaclalbeocpkaaDoor
open Go.RowKit

theorem byteInfo0 : (Tryd.prog.info? 5).map (fun i => (i.zero, i.size, i.bytes)) = some (some (.int .u8 0), 1, 1) := by kernel_rfl
theorem byteInfo : ∃ i, Tryd.prog.info? 5 = some i ∧ i.zero = some (.int .u8 0) ∧ i.size = 1 ∧ i.bytes = 1 := by
  have h := byteInfo0
  cases hq : Tryd.prog.info? 5 with
  | none => rw [hq] at h; cases h
  | some i => rw [hq] at h; simp at h; exact ⟨i, rfl, h.1, h.2.1, h.2.2⟩

/-- the value is a slice of the call's own, of these bytes -/
def OwnBytes (w : World) (base : Nat) (v : Value) (l : List UInt8) : Prop := w.ownsRow base 5 1 v (l.map VB).length (l.map VB)
theorem OwnBytes.vals {w : World} {base : Nat} {v : Value} {l : List UInt8} (h : OwnBytes w base v l) : IsVals w v (l.map VB) := isVals_own h
theorem vb_one (l : List UInt8) : ∀ u ∈ l.map VB, u.oneCell' = true := fun u hu => by simp at hu; obtain ⟨b, _, rfl⟩ := hu; rfl

def OwnPost (w : World) (l : List UInt8) (e : Ending) (w' : World) : Prop := ∃ v, e = .returned v ∧ OwnBytes w' w.heap.size v l ∧ Below w.heap.size w w'

theorem replicate_own (w : World) (g : Nat) (n m : Nat) (b : UInt8) (hnm : n + 1 ≤ m) (hm : m ≤ maxLen) (h : Row w g 5 ((Array.replicate m (VB 0)).setIfInBounds 0 (VB b))) : OwnBytes w g (.slice (some ⟨g, 0, none⟩) (n + 1) m) (b :: List.replicate n 0) := by
  refine ⟨by simp, .inr ⟨g, m, _, by simp, Nat.le_refl _, h, by simp; omega, hm, by simp, ?_⟩⟩
  apply List.ext_getElem?
  intro j
  simp only [Array.toList_setIfInBounds, Array.toList_replicate, List.map_cons, List.map_replicate, List.length_cons, List.length_replicate, Nat.mul_one, List.getElem?_take, List.getElem?_set, List.length_replicate]
  by_cases hj : j < n + 1
  · rw [if_pos hj]
    by_cases h0 : j = 0
    · subst h0; simp; omega
    · obtain ⟨k, rfl⟩ := Nat.exists_eq_succ_of_ne_zero h0
      simp [List.getElem?_replicate]
      rw [if_pos (by omega), if_pos (by omega)]
  · rw [if_neg hj, List.getElem?_eq_none (by simp; omega)]

theorem be64_take (n j : Nat) (h : j < 8) : (be64 n).take (j + 1) = (be64 n).take j ++ [UInt8.ofNat (n / 2 ^ (56 - 8 * j))] := by
  rw [List.take_succ_eq_append_getElem (by simp [be64]; exact h)]
  simp [be64]
theorem be64_byte (n j : Nat) : (n : Int) * 8 / 2 ^ (56 - 8 * j) % 256 = B (UInt8.ofNat (n * 8 / 2 ^ (56 - 8 * j))) := by
  unfold B
  rw [UInt8.toNat_ofNat', Int.natCast_emod, Int.natCast_ediv, Int.natCast_pow, Int.natCast_mul]; rfl

set_option maxRecDepth 100000 in
set_option maxHeartbeats 400000 in
theorem ending_any (n : Nat) (hn : n < 1152921504606846976) (w : World) :
    Calls Tryd.prog 51 #[.int .u64 (n : Int)] w (OwnPost w (tailOf n)) := by
  obtain ⟨i, hi, hz, hs1, hby⟩ := byteInfo
  have hm : (119 - n % 64) % 64 + 9 ≤ 72 := by omega
  go_enter Tryd.func51, Tryd.ntmps51
  go_wp2_with (first
    | ((with_reducible change wpList _ _ _ (Oper.mk (some 16) _ _ _ _ _ :: _) _ _); refine kMake _ _ _ _ rfl rfl i _ Tryd.underlying22 hi hz hs1 (VB 0) rfl _ _ _ _ ((119 - n % 64) % 64 + 1) ((119 - n % 64) % 64 + 9) rfl rfl (by omega) (by omega) (by omega) (by rw [hby]; omega) (by omega) ?_; intro w1 hR1 hz1 hB1)
    | ((with_reducible change wpList _ _ _ (Oper.mk (some 18) _ _ _ _ _ :: _) _ _); refine kIndexAddrS _ _ _ _ _ _ _ _ _ _ 0 rfl rfl rfl rfl Tryd.underlying22 info_byte rfl (by omega) ?_)
    | ((with_reducible change wpList _ _ _ (Oper.mk none _ _ _ _ _ :: _) _ _); refine kStore1 _ _ _ _ _ _ _ (VB 128) rfl rfl rfl rfl hR1 info_byte (by simp) rfl ?_; intro w2 hR2 hW2))
  have hO := replicate_own w2 w.heap.size ((119 - n % 64) % 64) _ 128 (by omega) (by unfold maxLen; omega) hR2
  have hB2 : Below w.heap.size w w2 := hB1.trans (hW2.below (Nat.le_refl _))
  have hle : w.heap.size ≤ w2.heap.size := hB2.size
  clear hR1 hz1 hB1 hR2 hW2
  go_loopw [21, 4] (fun i v wr => ∃ j : Nat, j ≤ 8 ∧ i = .int .i64 j ∧ OwnBytes wr w.heap.size v ((128 :: List.replicate ((119 - n % 64) % 64) 0) ++ (be64 (n * 8)).take j) ∧ Below w.heap.size w wr) (fun i _ _ => 8 - (intOf i).toNat)
  case atStart => exact ⟨0, by omega, rfl, by simpa using hO, hB2⟩
  case round =>
    obtain ⟨j, hj, rfl, hOr, hBr⟩ := hrel
    by_cases hlt : j < 8
    · have hsh : (56 - 8 * (j : Int)).toNat = 56 - 8 * j := by omega
      have hd : decide ((j : Int) < 8) = true := by simp; omega
      have hsz := hBr.size
      have hlen : ((128 :: List.replicate ((119 - n % 64) % 64) 0 ++ (be64 (n * 8)).take j).map VB).length ≤ 72 := by simp; omega
      go_wp2_with (first
        | ((with_reducible change wpList _ _ _ (Oper.mk (some 31) _ _ _ _ _ :: _) _ _); refine kBuildSlice1 _ _ _ (VB (UInt8.ofNat (n * 8 / 2 ^ (56 - 8 * j)))) rfl rfl Tryd.underlying22 i _ hi hz hs1 (congrArg (Value.int IntKind.u8) (be64_byte n j)) rfl ?_; intro w3 hR3 hz3 hB3)
        | ((with_reducible change wpList _ _ _ (Oper.mk (some 32) _ _ _ _ _ :: _) _ _); refine kAppend _ _ _ _ rfl rfl w.heap.size i _ Tryd.underlying22 hi hz hs1 rfl _ _ _ [VB (UInt8.ofNat (n * 8 / 2 ^ (56 - 8 * j)))] rfl (ownsRow_below hOr hB3) rfl (isVals_lit hR3) (vb_one [_]) (by unfold maxLen; simp at hlen ⊢; omega) (by rw [hby]; simp at hlen ⊢; omega) (by omega) ?_; intro v4 w4 hO4 hG4))
      go_roundw
      case rel =>
        refine ⟨j + 1, by omega, by go_num, ?_, (hBr.trans (hB3.mono (by omega))).trans (below_grown (ownsRow_below hOr hB3) hG4 (by omega))⟩
        rw [be64_take _ _ hlt, ← List.append_assoc]
        unfold OwnBytes
        rw [List.map_append (l₂ := [_])]
        exact hO4
      case measure => simp [intOf]; omega
    · obtain rfl : j = 8 := by omega
      rw [List.take_of_length_le (by simp [be64])] at hOr
      go_wp2
      go_ret
      exact ⟨_, rfl, hOr, hBr⟩
end Go.Proofs.YtnaclalbeocpkaaDoor
