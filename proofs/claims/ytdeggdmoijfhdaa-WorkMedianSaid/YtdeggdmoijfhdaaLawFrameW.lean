/-
  What comes into the statements of layer 2, opened: numbers of 256 bits, rows of 32 bytes.
-/
import Derived.Test.YtdeggdmoijfhdaaWAll
import Derived.Test.YtdeggdmoijfhdaaRows
import Derived.ProofKit
import Derived.OpenShut
import Derived.ChangeOld
import Derived.Deep.DeepHandedRow
import Derived.Lib.LaidTab
import Derived.Below
import Derived.WideKeyArr2
import Derived.Test.YtdeggdmoijfhdaaLawBase
namespace Go.Proofs.Ytdeggdmoijfhdaa
open Go.ChangeShapes Go.WideShapes Go.ChangeAt Go.RowKit


theorem mapM_eachW {α β : Type} (f : α → Option β) : ∀ (L : List α) (ys : List β), L.mapM f = some ys → ∀ i ∈ L, ∃ y, f i = some y
  | [], _, _, i, hi => by simp at hi
  | a :: L, ys, h, i, hi => by
    rw [List.mapM_cons] at h
    simp only [bind, Option.bind_eq_some_iff, pure, Option.some.injEq] at h
    obtain ⟨y, hy, ys', hys, _⟩ := h
    rcases List.mem_cons.1 hi with rfl | hi'
    · exact ⟨y, hy⟩
    · exact mapM_eachW f L ys' hys i hi'

/-- an array of numbers that came in -/
theorem open_intArr {H : Type} {enc : TypeId × Value → H} {P : Program} {W : World} {base : Nat} {sp : Nat → Bool} {held : Bool} {r : Reach} {b0 : Nat} {k e : TypeId} {kd : IntKind} {n : Nat} {v : Value} {d : DataW H} {ps : List MemPlace}
    (hu : P.underlying k = some (.array n e)) (he : P.underlying e = some (.int kd)) (hone : P.cellsOf e = 1) (hsize : P.cellsOf k = n)
    (hv : Value.okWide P W r b0 k v) (hd : DataW.Trod enc P W base sp held k v d ps) : ∃ f : Nat → Int, v = .agg (tab n fun p => .int kd (f p)) ∧ ∀ i, i < n → (Lit.int kd (f i)).wf = true := by
  simp only [Value.okWide, hu] at hv
  obtain ⟨cs, rfl, h2, _⟩ := hv
  rw [hsize] at h2
  obtain ⟨fuel, hf⟩ := hd
  cases fuel with
  | zero => simp [DataW.trod] at hf
  | succ m =>
    rw [DataW.trod_step] at hf
    unfold DataW.trodStep at hf
    simp only [hu, Value.cells] at hf
    rw [if_pos (by rw [hsize]; simpa using h2)] at hf
    simp only [Option.map_eq_some_iff] at hf
    obtain ⟨ys, hy, -⟩ := hf
    have each : ∀ i, i < n → ∃ z : Int, cs[i]? = some (.int kd z) ∧ (Lit.int kd z).wf = true := fun i hi => by
      obtain ⟨y, hyi⟩ := mapM_eachW _ _ _ hy i (List.mem_range.2 hi)
      obtain ⟨z, hz, -, wz⟩ := DataW.trod_int he hyi
      rw [hone, Nat.mul_one] at hz
      refine ⟨z, ?_, wz⟩
      have hlt : i < cs.size := by omega
      have e1 : cs.toList.drop i = cs.toList[i]'(by simpa using hlt) :: cs.toList.drop (i + 1) := List.drop_eq_getElem_cons (by simpa using hlt)
      rw [e1] at hz
      simp at hz
      rw [Array.getElem?_eq_getElem hlt, hz]
    refine ⟨fun i => intOf (cs.getD i undef), ?_, fun i hi => ?_⟩
    · congr 1
      apply Array.ext_getElem?
      intro i
      by_cases hi : i < n
      · obtain ⟨z, hz, -⟩ := each i hi
        rw [hz, tab_get n _ i hi]
        simp [hz, Array.getD_eq_getD_getElem?, intOf]
      · rw [Array.getElem?_eq_none (by omega), Array.getElem?_eq_none (by rw [tab_size]; omega)]
    · obtain ⟨z, hz, wz⟩ := each i hi
      have : intOf (cs.getD i undef) = z := by simp [hz, Array.getD_eq_getD_getElem?, intOf]
      show (Lit.int kd (intOf (cs.getD i undef))).wf = true
      rw [this]; exact wz

/-- four limbs are a number -/
theorem limbs_num (f0 f1 f2 f3 : Nat) (h0 : f0 < 18446744073709551616) (h1 : f1 < 18446744073709551616) (h2 : f2 < 18446744073709551616) (h3 : f3 < 18446744073709551616) :
    ∃ n, n < M256 ∧ limb n 0 = f0 ∧ limb n 1 = f1 ∧ limb n 2 = f2 ∧ limb n 3 = f3 := by
  refine ⟨f0 + 18446744073709551616 * f1 + 340282366920938463463374607431768211456 * f2 + 6277101735386680763835789423207666416102355444464034512896 * f3, ?_, ?_, ?_, ?_, ?_⟩
  · unfold M256; omega
  · unfold limb P64; simp only [Nat.pow_zero, Nat.div_one]; omega
  · unfold limb P64; simp only [Nat.pow_one]; omega
  · unfold limb P64; rw [show (18446744073709551616 ^ 2 : Nat) = 340282366920938463463374607431768211456 from rfl]; omega
  · unfold limb P64; rw [show (18446744073709551616 ^ 3 : Nat) = 6277101735386680763835789423207666416102355444464034512896 from rfl]; omega

set_option maxRecDepth 100000 in
theorem open_wide {H : Type} {enc : TypeId × Value → H} {W : World} {base : Nat} {sp : Nat → Bool} {held : Bool} {r : Reach} {b0 : Nat} {v : Value} {d : DataW H} {ps : List MemPlace}
    (hv : Value.okWide Try.prog W r b0 24 v) (hd : DataW.Trod enc Try.prog W base sp held 24 v d ps) : ∃ n, n < M256 ∧ v = WV n := by
  obtain ⟨f, rfl, hf⟩ := open_intArr Try.underlying24 Try.underlying22 (by kernel_rfl) (by kernel_rfl) hv hd
  have hb := fun i hi => bounds_u64 (hf i hi)
  have b0 := hb 0 (by decide); have b1 := hb 1 (by decide); have b2 := hb 2 (by decide); have b3 := hb 3 (by decide)
  obtain ⟨n, hn, e0, e1, e2, e3⟩ := limbs_num (f 0).toNat (f 1).toNat (f 2).toNat (f 3).toNat (by omega) (by omega) (by omega) (by omega)
  refine ⟨n, hn, ?_⟩
  unfold WV wcells
  congr 1
  refine tab_congr fun j hj => ?_
  congr 1
  match j, hj with
  | 0, _ => rw [e0]; omega
  | 1, _ => rw [e1]; omega
  | 2, _ => rw [e2]; omega
  | 3, _ => rw [e3]; omega
set_option maxRecDepth 100000 in
theorem open_b32 {H : Type} {enc : TypeId × Value → H} {W : World} {base : Nat} {sp : Nat → Bool} {held : Bool} {r : Reach} {b0 : Nat} {T : TypeId} {v : Value} {d : DataW H} {ps : List MemPlace}
    (hu : Try.prog.underlying T = some (.array 32 5)) (hsize : Try.prog.cellsOf T = 32) (he : Try.prog.underlying 5 = some (.int .u8))
    (hv : Value.okWide Try.prog W r b0 T v) (hd : DataW.Trod enc Try.prog W base sp held T v d ps) : ∃ f : Nat → Nat, (∀ i, f i < 256) ∧ v = .agg (tab 32 fun p => .int .u8 (f p : Int)) := by
  obtain ⟨f, rfl, hf⟩ := open_intArr hu he (by kernel_rfl) hsize hv hd
  have hb := fun i hi => bounds_u8 (hf i hi)
  refine ⟨fun i => (f i).toNat % 256, fun i => Nat.mod_lt _ (by decide), ?_⟩
  congr 1
  refine tab_congr fun j hj => ?_
  congr 1
  have := hb j hj
  show f j = (((f j).toNat % 256 : Nat) : Int)
  omega
end Go.Proofs.Ytdeggdmoijfhdaa
