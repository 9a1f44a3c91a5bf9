/-
  Joined: TxHash0, TxHash.
-/
import Derived.Test.YtdeggdmoijfhdaaDoorTxChAll
/-
  Layer 10: what is signed, the program's and the reference's.
-/
namespace Go.Proofs.YtdeggdmoijfhdaaDoor
open Go Go.RowKit

def bareI (i : InP) : InP := ⟨i.id, i.at', [], i.order⟩
def bareL (is : List InP) : List InP := is.map bareI
def bz (z : InP × Value) : InP × Value := (bareI z.1, .slice none 0 0)
def putI (i : InP) (l : List UInt8) : InP := ⟨i.id, i.at', l, i.order⟩
def hashIns (is : List InP) (i : Int) (lock : List UInt8) : List InP := is.mapIdx fun k x => putI x (if (k : Int) = i then lock else [])
def hashT (t : TxP) (i : Int) (lock : List UInt8) : TxP := ⟨t.version, hashIns t.ins i lock, t.outs, t.end'⟩
def u32N (i : Int) : Nat := (i % 4294967296).toNat
def hashL (t : TxP) (i : Int) (lock : List UInt8) : List UInt8 := sha (sha (txL (hashT t i lock) ++ fixedL (u32N i) 4))
theorem u32_lt (i : Int) : u32N i < 4294967296 := by unfold u32N; omega
theorem hashIns_len (is : List InP) (i : Int) (lock : List UInt8) : (hashIns is i lock).length = is.length := by simp [hashIns]
theorem hashIns_at (is : List InP) (i : Int) (lock : List UInt8) (k : Nat) : (hashIns is i lock)[k]? = (is[k]?).map fun x => putI x (if (k : Int) = i then lock else []) := by simp [hashIns]
theorem hashIns_mem {is : List InP} {i : Int} {lock : List UInt8} {x : InP} (h : x ∈ hashIns is i lock) : ∃ y ∈ is, x = putI y lock ∨ x = putI y [] := by
  obtain ⟨k, hk⟩ := List.mem_iff_getElem?.1 h
  rw [hashIns_at] at hk
  cases hy : is[k]? with
  | none => rw [hy] at hk; cases hk
  | some y =>
    rw [hy] at hk
    simp only [Option.map_some, Option.some.injEq] at hk
    refine ⟨y, List.mem_of_getElem? hy, ?_⟩
    rw [← hk]
    split
    · exact .inl rfl
    · exact .inr rfl
theorem hashT_is {t : TxP} (h : t.Is) (i : Int) (lock : List UInt8) : (hashT t i lock).Is := by
  refine ⟨h.1, h.2.1, fun x hx => ?_, h.2.2.2⟩
  obtain ⟨y, hy, rfl | rfl⟩ := hashIns_mem hx
  · exact h.2.2.1 y hy
  · exact h.2.2.1 y hy
theorem hashT_fits {t : TxP} (h : t.Fits) (i : Int) {lock : List UInt8} (hl : lock.length ≤ 2000) : (hashT t i lock).Fits := by
  refine ⟨by show (hashIns t.ins i lock).length ≤ 200; rw [hashIns_len]; exact h.1, h.2.1, fun x hx => ?_, h.2.2.2⟩
  obtain ⟨y, hy, rfl | rfl⟩ := hashIns_mem hx
  · exact hl
  · exact Nat.zero_le _
/-- of an index that there isn't: bare -/
theorem hashIns_out {is : List InP} {i : Int} (lock : List UInt8) (h : i < 0 ∨ (is.length : Int) ≤ i) : hashIns is i lock = bareL is := by
  refine List.ext_getElem? fun k => ?_
  rw [hashIns_at]
  unfold bareL
  rw [List.getElem?_map]
  by_cases hk : k < is.length
  · rw [if_neg (by omega)]; rfl
  · rw [List.getElem?_eq_none (by omega)]; rfl
theorem hashIns_in {is : List InP} {n : Nat} {x : InP} (lock : List UInt8) (h : is[n]? = some x) : hashIns is (n : Int) lock = (bareL is).set n (putI x lock) := by
  refine List.ext_getElem? fun k => ?_
  rw [hashIns_at, List.getElem?_set]
  unfold bareL
  rw [List.length_map, List.getElem?_map]
  have hn := (List.getElem?_eq_some_iff.1 h).1
  by_cases hk : n = k
  · subst hk
    rw [if_pos rfl, if_pos hn, h]; simp
  · rw [if_neg hk, if_neg (by omega)]; rfl
section
variable {ops : Array Oper} {Q : Exit → Act → World → Prop} {rest : List Oper} {o : Oper} {a : Act} {w : World}
theorem kIndexRun (T : TypeId) {P : Program} (x y : Operand) (v k : Value) (b : Addr) (hr : ∀ w' : World, (Instr.indexAt T v k).run P w' = .ok (.pointer (some b)) w') (ho : o.op = .indexAddr T x y) (hg : Region.wanted o (yielded ops a.tmps) = true) (hx : a.eval x = v) (hy : a.eval y = k) (h : wpList P ops Q rest (a.put o.dst (.pointer (some b))) w) : wpList P ops Q (o :: rest) a w :=
  kPure _ hg (by unfold execOp; simp only [ho, hx, hy, Sem.run_bind, hr w, Result.andThen_ok, Sem.run_pure]) h
theorem kConvIW (x : Operand) (z : Int) (ho : o.op = .convert 3 22 x) (hg : Region.wanted o (yielded ops a.tmps) = true) (hx : a.eval x = .int .i64 z) (h : wpList Tryd.prog ops Q rest (a.put o.dst (.int .u32 (u32N z : Int))) w) : wpList Tryd.prog ops Q (o :: rest) a w := by
  refine kPure _ hg ?_ h
  unfold execOp
  have e : IntKind.u32.wrap z = (u32N z : Int) := by rw [IntKind.wrap_u32]; unfold u32N; omega
  simp [ho, hx, convert, run_underlying Tryd.underlying22, run_underlying Tryd.underlying3, e, Conv.intToInt]
end
theorem areLists_two {w : World} {g : Nat} {E : TypeId} {x y : Value} {l m : List UInt8} (h : Row w g E #[x, y]) (hx : IsVals w x (l.map VB)) (hy : IsVals w y (m.map VB)) : AreLists w (.slice (some ⟨g, 0, none⟩) 2 2) [l, m] :=
  ⟨[x, y], rfl, isVals_lit (l := [x, y]) h, fun i z L h1 h2 => by
    match i, h1, h2 with
    | 0, h1, h2 => simp at h1 h2; subst h1; subst h2; exact hx
    | 1, h1, h2 => simp at h1 h2; subst h1; subst h2; exact hy⟩
theorem bz_step {zs : List (InP × Value)} {k : Nat} {z : InP × Value} (h : zs[k]? = some z) : ((zs.take k).map bz ++ zs.drop k).set k (bz z) = (zs.take (k + 1)).map bz ++ zs.drop (k + 1) := by
  obtain ⟨hk, rfl⟩ := List.getElem?_eq_some_iff.1 h
  have hl : ((zs.take k).map bz).length = k := by simp; omega
  rw [List.set_append_right _ _ (by omega), hl, Nat.sub_self, List.drop_eq_getElem_cons hk, List.set_cons_zero, List.take_succ_eq_append_getElem hk, List.map_append, List.append_assoc]
  rfl
theorem bz_at {zs : List (InP × Value)} {k : Nat} {z : InP × Value} (h : zs[k]? = some z) : ((zs.take k).map bz ++ zs.drop k)[k]? = some z := by
  obtain ⟨hk, rfl⟩ := List.getElem?_eq_some_iff.1 h
  have hl : ((zs.take k).map bz).length = k := by simp; omega
  rw [List.getElem?_append_right (by omega), hl, Nat.sub_self, List.drop_eq_getElem_cons hk]; rfl
end Go.Proofs.YtdeggdmoijfhdaaDoor

/-
  Layer 10: what is signed, the reference's.
-/
namespace Go.Proofs.YtdeggdmoijfhdaaDoor
open Go Go.RowKit

end Go.Proofs.YtdeggdmoijfhdaaDoor
