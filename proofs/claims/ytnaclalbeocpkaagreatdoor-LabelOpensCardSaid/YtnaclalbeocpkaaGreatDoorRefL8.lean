/-
  The reference's Sum: the loop that moves the eight numbers on by one place.
-/
import Derived.Test.YtnaclalbeocpkaaGreatDoorRefL2
namespace Go.Proofs.YtnaclalbeocpkaaGreatDoor
open Go Go.RowKit

theorem Wrote.refl (g : Nat) (w : World) : Wrote g w w := ⟨rfl, rfl, rfl, rfl, fun _ _ => rfl⟩
theorem Wrote.trans {g : Nat} {w1 w2 w3 : World} (h1 : Wrote g w1 w2) (h2 : Wrote g w2 w3) : Wrote g w1 w3 :=
  ⟨h2.os.trans h1.os, h2.tape.trans h1.tape, h2.output.trans h1.output, h2.size.trans h1.size, fun k hk => (h2.other k hk).trans (h1.other k hk)⟩
theorem Wrote.drewN (g : Nat) (w : World) (n : Nat) : Wrote g w (w.drewN n) := ⟨rfl, rfl, rfl, rfl, fun _ _ => rfl⟩
theorem Wrote.cell {g k j : Nat} {w w' : World} (h : Wrote g w w') (hk : k ≠ g) : w'.cell? ⟨k, j, none⟩ = w.cell? ⟨k, j, none⟩ := by
  unfold World.cell?
  rw [show w'.heap[(⟨k, j, none⟩ : Addr).block]? = w.heap[(⟨k, j, none⟩ : Addr).block]? from h.other k hk]

end Go.Proofs.YtnaclalbeocpkaaGreatDoor
