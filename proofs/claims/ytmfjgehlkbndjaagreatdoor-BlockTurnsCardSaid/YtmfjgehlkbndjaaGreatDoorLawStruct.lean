/-
  Arguments that came in: a struct, field by field; arrays of bytes and texts among its cells.
-/
import Derived.Test.YtmfjgehlkbndjaaGreatDoorLawBase
import Derived.Test.YtmfjgehlkbndjaaGreatDoorKitAll
import Derived.ProofKit
import Derived.Lib.LaidTab
import Derived.OpenShut
import Derived.WideKeyArr2
namespace Go.Proofs.YtmfjgehlkbndjaaGreatDoor
open Go.ChangeShapes Go.WideShapes Go.ChangeAt Go.RowKit Go

theorem trod_bytes {H : Type} {enc : TypeId × Value → H} {P : Program} {W : World} {base : Nat} {sp : Nat → Bool} {held : Bool} {fuel n : Nat} {T E : TypeId} {cs : List Value} {x : DataW H × List MemPlace} (hu : P.underlying T = some (.array n E)) (he : P.underlying E = some (.int .u8)) (h1 : P.cellsOf E = 1) (hT : P.cellsOf T = n) (hf : DataW.trod enc P W base sp held fuel T cs = some x) : ∃ l : List UInt8, l.length = n ∧ cs = l.map VB := by
  cases fuel with
  | zero => simp [DataW.trod] at hf
  | succ m =>
    rw [DataW.trod_step] at hf
    unfold DataW.trodStep at hf
    simp only [hu] at hf
    split at hf
    · rename_i hlen
      rw [hT] at hlen
      simp only [Option.map_eq_some_iff] at hf
      obtain ⟨ys, hy, -⟩ := hf
      have each : ∀ i (hi : i < cs.length), ∃ b : UInt8, cs[i] = VB b := fun i hi => by
        obtain ⟨y, -, hyi⟩ := Lib.mapM_at hy i i (by rw [List.getElem?_range (by omega)])
        obtain ⟨z, hz, -, wz⟩ := DataW.trod_int he hyi
        rw [h1, Nat.mul_one, List.drop_eq_getElem_cons hi, List.take_succ_cons, List.take_zero] at hz
        have hz := (List.cons.inj hz).1
        have hb := bounds_u8 wz
        refine ⟨UInt8.ofNat z.toNat, ?_⟩
        rw [hz]
        show Value.int .u8 z = .int .u8 ((UInt8.ofNat z.toNat).toNat : Int)
        rw [UInt8.toNat_ofNat']
        congr 1
        omega
      refine ⟨cs.map fun v => match v with
        | .int _ z => UInt8.ofNat z.toNat
        | _ => 0, by simpa using hlen, ?_⟩
      apply List.ext_getElem (by simp)
      intro i hi1 hi2
      obtain ⟨b, hb⟩ := each i hi1
      rw [List.getElem_map, List.getElem_map, hb]
      show VB b = VB (UInt8.ofNat (((b.toNat : Nat) : Int)).toNat)
      rw [Int.toNat_natCast, UInt8.ofNat_toNat]
    · cases hf
end Go.Proofs.YtmfjgehlkbndjaaGreatDoor
