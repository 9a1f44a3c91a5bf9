/-
  The reference's Sum: its inmost loop: four bytes make a number.
-/
import Derived.Test.YtnaclalbeocpkaaGreatDoorRefPad
namespace Go.Proofs.YtnaclalbeocpkaaGreatDoor
open Go Go.RowKit

/-- the body of the loop in the block of this number -/
def loopIn (k : Nat) : Code → Option Code
  | .block id c => if id = k then (match c with | .loop b => some b | _ => none) else loopIn k c
  | .loop c => loopIn k c
  | .scope c => loopIn k c
  | .seq a b => match loopIn k a with
    | some c => some c
    | none => loopIn k b
  | .cond _ a b => match loopIn k a with
    | some c => some c
    | none => loopIn k b
  | _ => none
def blockOf (D : List UInt8) (n : Nat) : List UInt8 := (D.drop (64 * n)).take 64
theorem blockOf_len (D : List UInt8) (n : Nat) (h : 64 * n + 64 ≤ D.length) : (blockOf D n).length = 64 := by unfold blockOf; simp; omega
theorem blockOf_at (D : List UInt8) (n j : Nat) (hj : j < 64) (h : 64 * n + 64 ≤ D.length) : at8 (blockOf D n) j = at8 D (64 * n + j) := by
  rw [at8_lt _ _ (by rw [blockOf_len D n h]; exact hj), at8_lt _ _ (by omega)]; unfold blockOf; simp
theorem vals_at (D : List UInt8) (j : Nat) (h : j < D.length) : (D.map VB)[j]? = some (VB (at8 D j)) := by simp [at8, h]
def quad (bs : List UInt8) (i j : Nat) : UInt32 := (((bs.drop (4 * i)).take 4).take j).foldl push8 0
theorem quad_succ (bs : List UInt8) (i j : Nat) (hj : j < 4) (h : 4 * i + 4 ≤ bs.length) : quad bs i (j + 1) = push8 (quad bs i j) (at8 bs (4 * i + j)) := by
  unfold quad
  rw [List.take_succ_eq_append_getElem (by simp; omega), List.foldl_append, at8_lt _ _ (by omega)]
  simp
theorem push8_small (x : UInt32) (b : UInt8) (h : x.toNat * 256 + 256 ≤ 4294967296) : (push8 x b).toNat = x.toNat * 256 + b.toNat := by
  have hb := b.toNat_lt
  unfold push8
  rw [UInt32.toNat_add, UInt32.toNat_mul]
  have : (UInt8.toUInt32 b).toNat = b.toNat := by simp
  rw [this, show (256 : UInt32).toNat = 256 from rfl]
  omega
theorem quad_lt (bs : List UInt8) (i : Nat) (h : 4 * i + 4 ≤ bs.length) (j : Nat) (hj : j < 4) : (quad bs i j).toNat < 16777216 := by
  have h0 : (quad bs i 0).toNat = 0 := rfl
  have hb0 := (at8 bs (4 * i + 0)).toNat_lt
  have hb1 := (at8 bs (4 * i + 1)).toNat_lt
  have hb2 := (at8 bs (4 * i + 2)).toNat_lt
  have h1 : (quad bs i 1).toNat < 256 := by rw [quad_succ bs i 0 (by omega) h, push8_small _ _ (by omega), h0]; omega
  have h2 : (quad bs i 2).toNat < 65536 := by rw [quad_succ bs i 1 (by omega) h, push8_small _ _ (by omega)]; omega
  have h3 : (quad bs i 3).toNat < 16777216 := by rw [quad_succ bs i 2 (by omega) h, push8_small _ _ (by omega)]; omega
  match j, hj with
  | 0, _ => omega
  | 1, _ => omega
  | 2, _ => omega
  | 3, _ => omega
theorem quad_num (bs : List UInt8) (i j : Nat) (hj : j < 4) (h : 4 * i + 4 ≤ bs.length) : 256 * I (quad bs i j) + B (at8 bs (4 * i + j)) = I (quad bs i (j + 1)) := by
  have h1 := quad_lt bs i h j hj
  rw [quad_succ bs i j hj h]
  unfold I B
  rw [push8_small _ _ (by omega)]
  omega
theorem quad_four (bs : List UInt8) (i : Nat) (h : bs.length = 64) : quad bs i 4 = part bs 64 i := by
  unfold quad part
  rw [List.take_take, List.take_of_length_le (l := bs) (by omega)]; rfl

end Go.Proofs.YtnaclalbeocpkaaGreatDoor
