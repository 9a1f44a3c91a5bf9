/-
  Arguments that came in: a struct, field by field; arrays of bytes and texts among its cells.
-/
import Derived.Test.YtdeggdmoijfhdaaDoorLawBase
import Derived.Test.YtdeggdmoijfhdaaDoorKitAll
import Derived.ProofKit
import Derived.Lib.LaidTab
import Derived.OpenShut
import Derived.WideKeyArr2
namespace Go.Proofs.YtdeggdmoijfhdaaDoor
open Go.ChangeShapes Go.WideShapes Go.ChangeAt Go.RowKit Go

theorem open_struct {H : Type} {enc : TypeId × Value → H} {P : Program} {W : World} {base : Nat} {sp : Nat → Bool} {held : Bool} {r : Reach} {b0 : Nat} {T : TypeId} {n : Nat} {ls : List (TypeId × Nat × Bool)} {v : Value} {d : DataW H} {ps : List MemPlace}
    (hu : P.underlying T = some (.struct (P.fieldsOf T))) (hsize : P.cellsOf T = n) (hL : (P.fieldsOf T).toList.map (fun f => (f.type, f.offset, decide (f.name = "_"))) = ls)
    (hv : Value.okWide P W r b0 T v) (hd : DataW.Trod enc P W base sp held T v d ps) : ∃ (cs : Array Value) (m : Nat), v = .agg cs ∧ cs.size = n ∧ ∀ (i : Nat) (t : TypeId) (o : Nat) (b : Bool), ls[i]? = some (t, o, b) → ∃ y, DataW.trod enc P W base sp held m t ((cs.toList.drop o).take (P.cellsOf t)) = some y := by
  simp only [Value.okWide, hu] at hv
  obtain ⟨cs, rfl, h2, _⟩ := hv
  rw [hsize] at h2
  obtain ⟨fuel, hf⟩ := hd
  cases fuel with
  | zero => simp [DataW.trod] at hf
  | succ m =>
    rw [DataW.trod_step] at hf
    unfold DataW.trodStep at hf
    simp only [hu, Value.cells] at hf
    rw [if_pos (by rw [hsize]; simpa using h2)] at hf
    simp only [Option.map_eq_some_iff] at hf
    obtain ⟨ys, hy, -⟩ := hf
    refine ⟨cs, m, rfl, h2, fun i t o b hi => ?_⟩
    subst hL
    rw [List.getElem?_map] at hi
    cases hfi : (P.fieldsOf T).toList[i]? with
    | none => rw [hfi] at hi; cases hi
    | some f =>
      rw [hfi] at hi
      cases hi
      obtain ⟨y, -, h⟩ := Lib.mapM_at hy i f hfi
      exact ⟨y, h⟩
theorem trod_text {H : Type} {enc : TypeId × Value → H} {P : Program} {W : World} {base : Nat} {sp : Nat → Bool} {held : Bool} {fuel : Nat} {T : TypeId} {cs : List Value} {x : DataW H × List MemPlace} (hu : P.underlying T = some .string) (h : DataW.trod enc P W base sp held fuel T cs = some x) : ∃ l : List UInt8, cs = [textV l] := by
  obtain ⟨s, h, -⟩ := DataW.trod_string hu h
  refine ⟨s.data.toList, ?_⟩
  rw [h]; rfl
theorem trod_bytes {H : Type} {enc : TypeId × Value → H} {P : Program} {W : World} {base : Nat} {sp : Nat → Bool} {held : Bool} {fuel n : Nat} {T E : TypeId} {cs : List Value} {x : DataW H × List MemPlace} (hu : P.underlying T = some (.array n E)) (he : P.underlying E = some (.int .u8)) (h1 : P.cellsOf E = 1) (hT : P.cellsOf T = n) (hf : DataW.trod enc P W base sp held fuel T cs = some x) : ∃ l : List UInt8, l.length = n ∧ cs = l.map VB := by
  cases fuel with
  | zero => simp [DataW.trod] at hf
  | succ m =>
    rw [DataW.trod_step] at hf
    unfold DataW.trodStep at hf
    simp only [hu] at hf
    split at hf
    · rename_i hlen
      rw [hT] at hlen
      simp only [Option.map_eq_some_iff] at hf
      obtain ⟨ys, hy, -⟩ := hf
      have each : ∀ i (hi : i < cs.length), ∃ b : UInt8, cs[i] = VB b := fun i hi => by
        obtain ⟨y, -, hyi⟩ := Lib.mapM_at hy i i (by rw [List.getElem?_range (by omega)])
        obtain ⟨z, hz, -, wz⟩ := DataW.trod_int he hyi
        rw [h1, Nat.mul_one, List.drop_eq_getElem_cons hi, List.take_succ_cons, List.take_zero] at hz
        have hz := (List.cons.inj hz).1
        have hb := bounds_u8 wz
        refine ⟨UInt8.ofNat z.toNat, ?_⟩
        rw [hz]
        show Value.int .u8 z = .int .u8 ((UInt8.ofNat z.toNat).toNat : Int)
        rw [UInt8.toNat_ofNat']
        congr 1
        omega
      refine ⟨cs.map fun v => match v with
        | .int _ z => UInt8.ofNat z.toNat
        | _ => 0, by simpa using hlen, ?_⟩
      apply List.ext_getElem (by simp)
      intro i hi1 hi2
      obtain ⟨b, hb⟩ := each i hi1
      rw [List.getElem_map, List.getElem_map, hb]
      show VB b = VB (UInt8.ofNat (((b.toNat : Nat) : Int)).toNat)
      rw [Int.toNat_natCast, UInt8.ofNat_toNat]
    · cases hf
end Go.Proofs.YtdeggdmoijfhdaaDoor
