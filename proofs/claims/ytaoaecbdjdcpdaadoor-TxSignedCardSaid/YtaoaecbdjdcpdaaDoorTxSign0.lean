/-
  Layer 10: what TxSigned's walk asks: other Unlocks change nothing of what is signed; two slices of bytes as an array; a row of Ins that is written in place, one by one.
-/
import Derived.Test.YtaoaecbdjdcpdaaDoorTxGreat
namespace Go.Proofs.YtaoaecbdjdcpdaaDoor
open Go Go.RowKit

theorem row_neT {w : World} {g k : Nat} {T U : TypeId} {cs ds : Array Value} (h : Row w g T cs) (h2 : Row w k U ds) (hT : T ≠ U) : g ≠ k := by
  rintro rfl
  have h1 : w.heap[g]? = some (.cells cs T (0, 0)) := h
  have h3 : w.heap[g]? = some (.cells ds U (0, 0)) := h2
  rw [h1] at h3
  simp only [Option.some.injEq, Obj.cells.injEq] at h3
  exact hT h3.2.1
theorem ownR_wroteT {n g b : Nat} {E T : TypeId} {w w' : World} {cs : Array Value} {v : Value} {L : List (List Value)} (ho : OwnR n E w b v L) (hr : Row w g T cs) (hT : T ≠ E) (hW : Wrote g w w') : OwnR n E w' b v L := by
  refine ⟨⟨ho.1.1, ?_⟩, ho.2⟩
  rcases ho.1.2 with hn | ⟨k, cap, cur, rfl, hb, hk, rest⟩
  · exact .inl hn
  · refine .inr ⟨k, cap, cur, rfl, hb, ?_, rest⟩
    have hne : k ≠ g := by
      rintro rfl
      have hr' : w.heap[k]? = some (.cells cs T (0, 0)) := hr
      rw [hr'] at hk
      simp only [Option.some.injEq, Obj.cells.injEq] at hk
      exact hT hk.2.1
    rw [hW.other k hne]; exact hk
/-- with the Unlocks put as one likes, the same is signed -/
theorem hashIns_putI (is : List InP) (m : List UInt8) (i : Int) (lock : List UInt8) : hashIns (is.map fun x => putI x m) i lock = hashIns is i lock := by
  refine List.ext_getElem? fun k => ?_
  rw [hashIns_at, hashIns_at, List.getElem?_map]
  cases is[k]? <;> rfl
theorem hashT_putI (t : TxP) (m : List UInt8) (i : Int) (lock : List UInt8) : hashT ⟨t.version, t.ins.map fun x => putI x m, t.outs, t.end'⟩ i lock = hashT t i lock := by
  unfold hashT
  dsimp only
  rw [hashIns_putI]
theorem hashL_putI (t : TxP) (m : List UInt8) (i : Int) (lock : List UInt8) : hashL ⟨t.version, t.ins.map fun x => putI x m, t.outs, t.end'⟩ i lock = hashL t i lock := by
  unfold hashL; rw [hashT_putI]
theorem putI_is {t : TxP} (h : t.Is) (m : List UInt8) : (⟨t.version, t.ins.map fun x => putI x m, t.outs, t.end'⟩ : TxP).Is := by
  refine ⟨h.1, h.2.1, fun x hx => ?_, h.2.2.2⟩
  obtain ⟨y, hy, rfl⟩ := List.mem_map.1 hx
  exact h.2.2.1 y hy
theorem putI_fits {t : TxP} (h : t.Fits) {m : List UInt8} (hm : m.length ≤ 2000) : (⟨t.version, t.ins.map fun x => putI x m, t.outs, t.end'⟩ : TxP).Fits := by
  refine ⟨by show (t.ins.map _).length ≤ 200; rw [List.length_map]; exact h.1, h.2.1, fun x hx => ?_, h.2.2.2⟩
  obtain ⟨y, hy, rfl⟩ := List.mem_map.1 hx
  exact hm
/-- one of Ins with its Unlock put: in memory, the slice v stands for it -/
def pz (m : List UInt8) (v : Value) (z : InP × Value) : InP × Value := (putI z.1 m, v)
theorem pz_step {m : List UInt8} {v : Value} {zs : List (InP × Value)} {k : Nat} {z : InP × Value} (h : zs[k]? = some z) : ((zs.take k).map (pz m v) ++ zs.drop k).set k (pz m v z) = (zs.take (k + 1)).map (pz m v) ++ zs.drop (k + 1) := by
  obtain ⟨hk, rfl⟩ := List.getElem?_eq_some_iff.1 h
  have hl : ((zs.take k).map (pz m v)).length = k := by simp; omega
  rw [List.set_append_right _ _ (by omega), hl, Nat.sub_self, List.drop_eq_getElem_cons hk, List.set_cons_zero, List.take_succ_eq_append_getElem hk, List.map_append, List.append_assoc]
  rfl
theorem pz_at {m : List UInt8} {v : Value} {zs : List (InP × Value)} {k : Nat} {z : InP × Value} (h : zs[k]? = some z) : ((zs.take k).map (pz m v) ++ zs.drop k)[k]? = some z := by
  obtain ⟨hk, rfl⟩ := List.getElem?_eq_some_iff.1 h
  have hl : ((zs.take k).map (pz m v)).length = k := by simp; omega
  rw [List.getElem?_append_right (by omega), hl, Nat.sub_self, List.drop_eq_getElem_cons hk]; rfl
/-- all put: the Ins of the one that is signed again -/
theorem insOf_pz {w : World} {base : Nat} {v u : Value} {m : List UInt8} {zs : List (InP × Value)} {is : List InP} (e : zs.map Prod.fst = is) (h : OwnR 35 34 w base v ((zs.map (pz m u)).map inR)) (hu : IsVals w u (m.map VB)) : InsOf w v (is.map fun x => putI x m) := by
  refine ⟨zs.map (pz m u), ?_, h.rows, fun z hz => ?_⟩
  · rw [← e, List.map_map, List.map_map]; rfl
  · obtain ⟨y, _, rfl⟩ := List.mem_map.1 hz
    exact hu
def xor64 (m n : Int) : Int := IntKind.i64.wrap ((BitVec.ofInt 64 m ^^^ BitVec.ofInt 64 n).toNat : Int)
theorem xor64_ok (m n : Int) : -9223372036854775808 ≤ xor64 m n ∧ xor64 m n < 9223372036854775808 := by unfold xor64; rw [IntKind.wrap_i64]; omega
section
variable {ops : Array Oper} {Q : Exit → Act → World → Prop} {rest : List Oper} {o : Oper} {a : Act} {w : World}
theorem kXorI64 (T T2 : TypeId) (x y : Operand) (m n : Int) (ho : o.op = .binOp .xor T x y T2) (hg : Region.wanted o (yielded ops a.tmps) = true) (hx : a.eval x = .int .i64 m) (hy : a.eval y = .int .i64 n) (h : wpList Tryd.prog ops Q rest (a.put o.dst (.int .i64 (xor64 m n))) w) : wpList Tryd.prog ops Q (o :: rest) a w := by
  refine kPure _ hg ?_ h
  unfold execOp
  simp only [ho, hx, hy, eqGuard, binOp_xor]
  rfl
end
section
variable {ops : Array Oper} {o : Oper} {a : Act} {S : World → Prop}
theorem info_bytesL : (Tryd.prog.info? 28).map (·.size) = some 1 := by kernel_rfl
theorem yIndexLocks (x y : Operand) (g j : Nat) (hj : j < 2) (ho : o.op = .indexAddr 61 x y) (hg : Region.wanted o (yielded ops a.tmps) = true) (hx : a.eval x = .pointer (some ⟨g, 0, none⟩)) (hy : a.eval y = .int .i64 (j : Int)) : YieldsIf Tryd.prog ops S o (.pointer (some ⟨g, j, none⟩)) a :=
  yOf hg fun w _ => by
    have hi := info_bytesL
    cases hq : Tryd.prog.info? 28 with
    | none => simp [hq] at hi
    | some t =>
      have hs' : t.size = 1 := by simpa [hq] using hi
      have hc : (0 : Int) ≤ (j : Int) ∧ (j : Int) < ((2 : Nat) : Int) := by omega
      have hrun : (Instr.indexAt 61 (.pointer (some ⟨g, 0, none⟩)) (.int .i64 (j : Int))).run Tryd.prog w = .ok (.pointer (some ⟨g, j, none⟩)) w := by
        simp [Instr.indexAt, asIntOf, run_underlying Tryd.underlying61, hc, Instr.sureAddr, sizeOf, typeInfo, hq, hs', add_none]
        intro hle; omega
      unfold execOp
      simp only [ho, hx, hy, Sem.run_bind, hrun, Result.andThen_ok, Sem.run_pure]
end
end Go.Proofs.YtaoaecbdjdcpdaaDoor
