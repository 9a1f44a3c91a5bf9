/-
  Joined: TxSame0, TxSame, TxMap.
-/
import Derived.Test.YtmfjgehlkbndjaaGreatDoorTxIds
import Derived.MapKept
import Derived.ChangeMaps4
import Derived.Carry
/-
  Layer 10: transactions held against each other; what makes something.
-/
namespace Go.Proofs.YtmfjgehlkbndjaaGreatDoor
open Go Go.RowKit

end Go.Proofs.YtmfjgehlkbndjaaGreatDoor

/-
  Layer 10: transactions held against each other; what makes something; what is spent twice.
-/
namespace Go.Proofs.YtmfjgehlkbndjaaGreatDoor
open Go Go.RowKit

def nullR (l : List UInt8) (n : Nat) : Bool := decide (l = z32) && decide ((n : Int) = ((4294967295 : Nat) : Int))
def nullI (i : InP) : Bool := nullR i.id i.at'
def baseB : List InP → Bool
  | [i] => nullI i
  | _ => false
theorem baseB_not {is : List InP} (h : is.length ≠ 1) : baseB is = false := by
  match is, h with
  | [], _ => rfl
  | [i], h => exact absurd rfl h
  | i :: j :: is, _ => rfl
theorem z32_len : z32.length = 32 := rfl
set_option maxRecDepth 100000 in
set_option maxHeartbeats 8000000 in
theorem tNull_any {i : InP} {u : Value} (w : World) (hi : i.id.length = 32) : Calls Tryz.prog 94 #[.agg (inC i u)] w (BoolPost w (nullI i)) := by
  have hr := run_equalRefC hi z32_len i.at' 4294967295
  go_enter Tryz.func94, Tryz.ntmps94
  go_wp2_with (first
    | ((with_reducible change wpList _ _ _ (Oper.mk (some 1) _ _ _ _ _ :: _) _ _); refine kBoxL _ _ _ rfl rfl rfl ?_; intro w1 hR hz1 hB; go_frame)
    | ((with_reducible change wpList _ _ _ (Oper.mk (some 3) _ _ _ _ _ :: _) _ _); refine kFld inCF0 _ _ 0 0 rfl rfl rfl rfl ?_; go_frame)
    | ((with_reducible change wpList _ _ _ (Oper.mk (some 4) _ _ _ _ _ :: _) _ _); refine kLoadInRef _ _ i u hR rfl rfl rfl ?_; go_frame)
    | ((with_reducible change wpList _ _ _ (Oper.mk (some 5) _ _ _ _ _ :: _) _ _); refine kBuildRefN _ rfl rfl rfl ?_; go_frame)
    | ((with_reducible change wpList _ _ _ (Oper.mk (some 6) _ _ _ _ _ :: _) _ _); refine kEqlSt _ _ _ _ eqGuard_RefC hr rfl rfl rfl rfl ?_; go_frame))
  go_ret
  exact ⟨rfl, hB⟩
section
variable {ops : Array Oper} {Q : Exit → Act → World → Prop} {rest : List Oper} {o : Oper} {a : Act} {w : World} {S : World → Prop}
theorem run_fieldAtAny {P : Program} (T : TypeId) (k n fo : Nat) (fs : Array Field) (f : Field) (b : Addr) (hu : P.underlying T = some (.struct fs)) (hf : fs[k]? = some f) (h0 : f.offset = fo) (hn : (P.info? f.type).map (·.size) = some (n + 1)) (w : World) : (Instr.fieldAt T (.pointer (some b)) k).run P w = .ok (.pointer (some (b.add fo))) w := by
  unfold Instr.fieldAt
  rw [Sem.run_bind, run_underlying hu w]
  cases hq : P.info? f.type with
  | none => simp [hq] at hn
  | some i =>
    have hs : i.size = n + 1 := by simpa [hq] using hn
    simp [hf, Instr.sureAddr, fieldPlace, h0, sizeOf, typeInfo, hq, hs]
theorem kFldAtN {P : Program} {T : TypeId} {k n fo : Nat} (hF : ∃ f fs, P.underlying T = some (.struct fs) ∧ fs[k]? = some f ∧ f.offset = fo ∧ (P.info? f.type).map (·.size) = some (n + 1)) (x : Operand) (b : Addr) (ho : o.op = .fieldAddr T x k) (hg : Region.wanted o (yielded ops a.tmps) = true) (hx : a.eval x = .pointer (some b)) (h : wpList P ops Q rest (a.put o.dst (.pointer (some (b.add fo)))) w) : wpList P ops Q (o :: rest) a w := by
  obtain ⟨f, fs, h1, h2, h3, h4⟩ := hF
  refine kPure _ hg ?_ h
  have hrun := run_fieldAtAny (w := w) T k n fo fs f b h1 h2 h3 h4
  unfold execOp; simp only [ho, hx, Sem.run_bind, hrun, Result.andThen_ok, Sem.run_pure]
end
set_option maxRecDepth 100000 in
set_option maxHeartbeats 8000000 in
theorem tBase_any {is : List InP} {n e : Nat} {a b : Value} (W0 : World) (ha : InsOf W0 a is) (hid : ∀ i ∈ is, i.id.length = 32) : Calls Tryz.prog 60 #[.agg (txC n a b e)] W0 (BoolPost W0 (baseB is)) := by
  obtain ⟨zs, es, ha⟩ := ha
  obtain ⟨N, hN⟩ : ∃ N, zs.length = N := ⟨_, rfl⟩
  have hiN : is.length = N := by rw [← fst_len es, hN]
  by_cases h1 : N = 1
  · have hd : decide ((N : Int) = 1) = true := by simp; omega
    obtain ⟨⟨i, u⟩, hz⟩ : ∃ z, zs[0]? = some z := ⟨_, List.getElem?_eq_getElem (by omega)⟩
    have hi0 := fst_at es hz
    have hii := hid i (List.mem_of_getElem? hi0)
    have hb1 : baseB is = nullI i := by
      match is, hi0, hiN with
      | [], h, _ => simp at h
      | [j], h, _ => simp at h; subst h; rfl
      | j :: k :: is, _, h => simp at h; omega
    rw [hb1]
    clear hb1 h1
    go_enter Tryz.func60, Tryz.ntmps60
    go_wp2_with (first
      | ((with_reducible change wpList _ _ _ (Oper.mk (some 1) _ _ _ _ _ :: _) _ _); refine kBoxL _ _ _ rfl rfl rfl ?_; intro w1 hR hz1 hB; have ha1 := ha.below hB; clear hz1; go_frame)
      | ((with_reducible change wpList _ _ _ (Oper.mk (some 3) _ _ _ _ _ :: _) _ _); refine kFld txCF1 _ _ 0 1 rfl rfl rfl rfl ?_; go_frame)
      | ((with_reducible change wpList _ _ _ (Oper.mk (some 4) _ _ _ _ _ :: _) _ _); refine kLd Tryz.underlying31 rfl _ _ 1 _ a hR rfl rfl rfl rfl ?_; go_frame)
      | ((with_reducible change wpList _ _ _ (Oper.mk (some 5) _ _ _ _ _ :: _) _ _); refine kLenIns _ a zs N ha1 hN rfl rfl rfl ?_; go_frame)
      | ((with_reducible change wpList _ _ _ (Oper.mk (some 6) _ _ _ _ _ :: _) _ _); refine kEqlI _ _ _ _ .i64 (N : Int) 1 true rfl rfl rfl rfl hd ?_; go_frame)
      | ((with_reducible change wpList _ _ _ (Oper.mk (some 8) _ _ _ _ _ :: _) _ _); refine kFld txCF1 _ _ 0 1 rfl rfl rfl rfl ?_; go_frame)
      | ((with_reducible change wpList _ _ _ (Oper.mk (some 9) _ _ _ _ _ :: _) _ _); refine kLd Tryz.underlying31 rfl _ _ 1 _ a hR rfl rfl rfl rfl ?_; go_frame)
      | ((with_reducible change wpList _ _ _ (Oper.mk (some 10) _ _ _ _ _ :: _) _ _); refine kIndexIn _ _ a zs 0 (i, u) ha1 hz rfl rfl rfl rfl ?_; intro bb hbb; go_frame)
      | ((with_reducible change wpList _ _ _ (Oper.mk (some 11) _ _ _ _ _ :: _) _ _); refine kLoadInAt _ bb i u hbb rfl rfl rfl ?_; go_frame)
      | (go_at_call 94; refine (tNull_any _ hii).mono ?_; rintro e w2 ⟨rfl, hBq⟩; have hB2 := hB.trans (hBq.mono hB.size); clear hBq; go_frame))
    go_ret
    exact ⟨rfl, hB2⟩
  · have hd : decide ((N : Int) = 1) = false := by simp; omega
    rw [baseB_not (by omega)]
    go_enter Tryz.func60, Tryz.ntmps60
    go_wp2_with (first
      | ((with_reducible change wpList _ _ _ (Oper.mk (some 1) _ _ _ _ _ :: _) _ _); refine kBoxL _ _ _ rfl rfl rfl ?_; intro w1 hR hz1 hB; have ha1 := ha.below hB; clear hz1; go_frame)
      | ((with_reducible change wpList _ _ _ (Oper.mk (some 3) _ _ _ _ _ :: _) _ _); refine kFld txCF1 _ _ 0 1 rfl rfl rfl rfl ?_; go_frame)
      | ((with_reducible change wpList _ _ _ (Oper.mk (some 4) _ _ _ _ _ :: _) _ _); refine kLd Tryz.underlying31 rfl _ _ 1 _ a hR rfl rfl rfl rfl ?_; go_frame)
      | ((with_reducible change wpList _ _ _ (Oper.mk (some 5) _ _ _ _ _ :: _) _ _); refine kLenIns _ a zs N ha1 hN rfl rfl rfl ?_; go_frame)
      | ((with_reducible change wpList _ _ _ (Oper.mk (some 6) _ _ _ _ _ :: _) _ _); refine kEqlI _ _ _ _ .i64 (N : Int) 1 false rfl rfl rfl rfl hd ?_; go_frame))
    go_ret
    exact ⟨rfl, hB⟩
end Go.Proofs.YtmfjgehlkbndjaaGreatDoor

/-
  Layer 10: a map whose keys are references and whose elements are numbers: looked up, added to in place.
-/
namespace Go.Proofs.YtmfjgehlkbndjaaGreatDoor
open Go Go.RowKit
open Go.ChangeMaps (setBlock)

def mEnt (j : Nat) (e : (List UInt8 × Nat) × Int) : MapEntry := ⟨.agg (refC e.1.1 e.1.2), .int .i64 e.2, j⟩
def mEnts : Nat → List ((List UInt8 × Nat) × Int) → List MapEntry
  | _, [] => []
  | j, e :: E => mEnt j e :: mEnts (j + 1) E
theorem mEnts_len : ∀ (j : Nat) (E : List ((List UInt8 × Nat) × Int)), (mEnts j E).length = E.length
  | _, [] => rfl
  | j, e :: E => by simp [mEnts, mEnts_len (j + 1) E]
theorem mEnts_append : ∀ (j : Nat) (E : List ((List UInt8 × Nat) × Int)) (e : (List UInt8 × Nat) × Int), mEnts j (E ++ [e]) = mEnts j E ++ [mEnt (j + E.length) e]
  | _, [], _ => rfl
  | j, x :: E, e => by
    rw [List.cons_append, mEnts, mEnts_append (j + 1) E e, mEnts, List.length_cons, List.cons_append, show j + 1 + E.length = j + (E.length + 1) by omega]
theorem mEnts_at : ∀ (j : Nat) (E : List ((List UInt8 × Nat) × Int)) (q : Nat), (mEnts j E)[q]? = (E[q]?).map (mEnt (j + q))
  | _, [], q => by simp [mEnts]
  | j, x :: E, 0 => by simp [mEnts]
  | j, x :: E, q + 1 => by
    rw [mEnts, List.getElem?_cons_succ, List.getElem?_cons_succ, mEnts_at (j + 1) E q, show j + 1 + q = j + (q + 1) by omega]
theorem mEnts_set (j : Nat) (E : List ((List UInt8 × Nat) × Int)) (q : Nat) (e : (List UInt8 × Nat) × Int) : (mEnts j E).set q (mEnt (j + q) e) = mEnts j (E.set q e) := by
  refine List.ext_getElem? fun p => ?_
  rw [List.getElem?_set, mEnts_at, mEnts_at, List.getElem?_set, mEnts_len]
  split
  · rename_i h; subst h
    split <;> simp
  · rfl
theorem mEnts_born : ∀ (j : Nat) (E : List ((List UInt8 × Nat) × Int)) (q : Nat), q < E.length → (mEnts j E).findIdx? (fun e => (e.born : Int) == ((j + q : Nat) : Int)) = some q
  | _, [], _, h => by simp at h
  | j, x :: E, 0, _ => by rw [mEnts, List.findIdx?_cons]; simp [mEnt]
  | j, x :: E, q + 1, h => by
    have ih := mEnts_born (j + 1) E q (by simpa using h)
    rw [show j + 1 + q = j + (q + 1) by omega] at ih
    rw [mEnts, List.findIdx?_cons, ih]
    have hne : (((mEnt j x).born : Int) == ((j + (q + 1) : Nat) : Int)) = false := by simp only [beq_eq_false_iff_ne, mEnt]; omega
    rw [hne]; rfl
theorem run_eqRef {l m : List UInt8} (hl : l.length = 32) (hm : m.length = 32) (n k : Nat) (w : World) : (Op.equal 60 (.agg (refC l n)) (.agg (refC m k))).run Tryz.prog w = .ok (decide ((m, k) = (l, n))) w := by
  have h := run_equalRefC hl hm n k w
  have e : (decide (l = m) && decide ((n : Int) = (k : Int))) = decide ((m, k) = (l, n)) := by
    rw [Bool.eq_iff_iff]
    simp only [Bool.and_eq_true, decide_eq_true_eq, Prod.mk.injEq]
    constructor
    · rintro ⟨h1, h2⟩; exact ⟨h1.symm, by omega⟩
    · rintro ⟨h1, h2⟩; exact ⟨h1.symm, by omega⟩
  rw [e] at h
  exact h
def Len32 (E : List ((List UInt8 × Nat) × Int)) : Prop := ∀ e ∈ E, e.1.1.length = 32
theorem find_none {l : List UInt8} (hl : l.length = 32) (n : Nat) (w : World) : ∀ (E : List ((List UInt8 × Nat) × Int)) (j i : Nat), Len32 E → (∀ e ∈ E, e.1 ≠ (l, n)) → (Instr.findAsking 60 (.agg (refC l n)) (mEnts j E) i).run Tryz.prog w = .ok none w
  | [], _, _, _, _ => by simp [mEnts, Instr.findAsking]
  | e :: E, j, i, hE, hn => by
    have h1 := run_eqRef hl (hE e (by simp)) n e.1.2 w
    have h2 : decide ((e.1.1, e.1.2) = (l, n)) = false := decide_eq_false (hn e (by simp))
    rw [h2] at h1
    simp [mEnts, mEnt, Instr.findAsking, h1, find_none hl n w E (j + 1) (i + 1) (fun x hx => hE x (by simp [hx])) (fun x hx => hn x (by simp [hx]))]
theorem find_some {l : List UInt8} (hl : l.length = 32) (n : Nat) (w : World) : ∀ (E : List ((List UInt8 × Nat) × Int)) (j i q : Nat) (z : Int), Len32 E → E[q]? = some ((l, n), z) → (∀ p, p < q → ∀ e, E[p]? = some e → e.1 ≠ (l, n)) → (Instr.findAsking 60 (.agg (refC l n)) (mEnts j E) i).run Tryz.prog w = .ok (some (i + q, .int .i64 z)) w
  | [], _, _, q, _, _, h, _ => by simp at h
  | e :: E, j, i, 0, z, hE, h, hn => by
    simp only [List.getElem?_cons_zero, Option.some.injEq] at h
    subst h
    have h1 := run_eqRef hl hl n n w
    rw [decide_eq_true rfl] at h1
    simp [mEnts, mEnt, Instr.findAsking, h1]
  | e :: E, j, i, q + 1, z, hE, h, hn => by
    have h1 := run_eqRef hl (hE e (by simp)) n e.1.2 w
    have h2 : decide ((e.1.1, e.1.2) = (l, n)) = false := decide_eq_false (hn 0 (by omega) e rfl)
    rw [h2] at h1
    have ih := find_some hl n w E (j + 1) (i + 1) q z (fun x hx => hE x (by simp [hx])) (by simpa using h) (fun p hp x hx => hn (p + 1) (by omega) x (by simpa using hx))
    rw [show i + 1 + q = i + (q + 1) by omega] at ih
    simp [mEnts, mEnt, Instr.findAsking, h1, ih]
theorem run_checkRef (l : List UInt8) (n : Nat) (b : Bool) (w : World) : (Instr.checkKey b 10000 60 (.agg (refC l n))).run Tryz.prog w = .ok () w := by
  cases b <;> kernel_rfl
theorem findKey_any (k : Value) (cs : Array Value) (hk : k = .agg cs) (E : List ((List UInt8 × Nat) × Int)) (j : Nat) (w : World) : (Instr.findKey 60 k (mEnts j E)).run Tryz.prog w = (if E = [] then .ok none w else (Instr.findAsking 60 k (mEnts j E) 0).run Tryz.prog w) := by
  subst hk
  unfold Instr.findKey
  rw [Sem.run_bind, run_underlying Tryz.underlying60]
  cases E with
  | nil => simp [mEnts, Instr.findNow]
  | cons e E => simp [mEnts, mEnt, Instr.findNow, Instr.sameNow]
theorem fk_none {l : List UInt8} (hl : l.length = 32) (n : Nat) (w : World) (E : List ((List UInt8 × Nat) × Int)) (hE : Len32 E) (hn : ∀ e ∈ E, e.1 ≠ (l, n)) : (Instr.findKey 60 (.agg (refC l n)) (mEnts 0 E)).run Tryz.prog w = .ok none w := by
  rw [findKey_any _ _ rfl]
  split
  · rfl
  · exact find_none hl n w E 0 0 hE hn
theorem fk_some {l : List UInt8} (hl : l.length = 32) (n : Nat) (w : World) (E : List ((List UInt8 × Nat) × Int)) (q : Nat) (z : Int) (hE : Len32 E) (h : E[q]? = some ((l, n), z)) (hn : ∀ p, p < q → ∀ e, E[p]? = some e → e.1 ≠ (l, n)) : (Instr.findKey 60 (.agg (refC l n)) (mEnts 0 E)).run Tryz.prog w = .ok (some (q, .int .i64 z)) w := by
  rw [findKey_any _ _ rfl, if_neg (by rintro rfl; simp at h)]
  have := find_some hl n w E 0 0 q z hE h hn
  rw [Nat.zero_add] at this
  exact this
/-- the map at block b: these references, so often each, in the order in which they came -/
def MapRow (w : World) (b : Nat) (E : List ((List UInt8 × Nat) × Int)) : Prop := w.heap[b]? = some (.map (mEnts 0 E).toArray E.length)
theorem MapRow.lt {w : World} {b : Nat} {E : List ((List UInt8 × Nat) × Int)} (h : MapRow w b E) : b < w.heap.size := (Array.getElem?_eq_some_iff.1 h).1
theorem MapRow.below {w w' : World} {b : Nat} {E : List ((List UInt8 × Nat) × Int)} (h : MapRow w b E) (hb : Below w.heap.size w w') : MapRow w' b E := (hb.block b h.lt).trans h
theorem MapRow.wrote {w w' : World} {b g : Nat} {E : List ((List UInt8 × Nat) × Int)} (h : MapRow w b E) (hW : Wrote g w w') (hg : b ≠ g) : MapRow w' b E := (hW.other b hg).trans h
theorem wrote_setBlock (w : World) (b : Nat) (o : Obj) : Wrote b w (setBlock w b o) := ⟨rfl, rfl, rfl, by simp [setBlock], fun k hk => by simp [setBlock, Ne.symm hk]⟩
theorem setBlock_at {w : World} {b : Nat} (o : Obj) (h : b < w.heap.size) : (setBlock w b o).heap[b]? = some o := by simp [setBlock, h]
theorem zero_intM (w : World) : (zeroValue 3).run Tryz.prog w = .ok (.int .i64 0) w := by kernel_rfl
theorem run_lookup_none {l : List UInt8} (hl : l.length = 32) (n : Nat) {w : World} {b : Nat} {E : List ((List UInt8 × Nat) × Int)} (h : MapRow w b E) (hE : Len32 E) (hn : ∀ e ∈ E, e.1 ≠ (l, n)) : (Instr.lookup 135 (.map (some b)) (.agg (refC l n)) false).run Tryz.prog w = .ok (.int .i64 0) w := by
  have hz := zero_intM w
  have hf := fk_none hl n w E hE hn
  have hc := run_checkRef l n (mEnts 0 E).toArray.isEmpty w
  unfold Instr.lookup
  rw [Sem.run_bind, run_underlying Tryz.underlying135]
  simp only [Result.andThen_ok, Sem.run_bind, MapKept.run_getObj_map h, Sem.run_pure, hc, hf, hz]
  rfl
theorem run_lookup_some {l : List UInt8} (hl : l.length = 32) (n : Nat) {w : World} {b : Nat} {E : List ((List UInt8 × Nat) × Int)} (q : Nat) (z : Int) (h : MapRow w b E) (hE : Len32 E) (hq : E[q]? = some ((l, n), z)) (hn : ∀ p, p < q → ∀ e, E[p]? = some e → e.1 ≠ (l, n)) : (Instr.lookup 135 (.map (some b)) (.agg (refC l n)) false).run Tryz.prog w = .ok (.int .i64 z) w := by
  have hf := fk_some hl n w E q z hE hq hn
  have hc := run_checkRef l n (mEnts 0 E).toArray.isEmpty w
  unfold Instr.lookup
  rw [Sem.run_bind, run_underlying Tryz.underlying135]
  simp only [Result.andThen_ok, Sem.run_bind, MapKept.run_getObj_map h, Sem.run_pure, hc, hf]
  rfl
theorem run_mapEntry_none {l : List UInt8} (hl : l.length = 32) (n : Nat) {w : World} {b : Nat} {E : List ((List UInt8 × Nat) × Int)} (h : MapRow w b E) (hE : Len32 E) (hn : ∀ e ∈ E, e.1 ≠ (l, n)) : (Instr.mapEntry 135 (.map (some b)) (.agg (refC l n))).run Tryz.prog w = .ok (.tuple #[.int .i64 0, .int .i64 (E.length : Int)]) (setBlock w b (.map (mEnts 0 (E ++ [((l, n), 0)])).toArray (E.length + 1))) := by
  have hf := fk_none hl n w E hE hn
  have hc := run_checkRef l n false w
  have hz := zero_intM w
  have hs := fun o => MapKept.run_setObj_map (P := Tryz.prog) o h
  have e1 : (mEnts 0 E).toArray.push { key := .agg (refC l n), val := .int .i64 0, born := E.length } = (mEnts 0 (E ++ [((l, n), 0)])).toArray := by
    rw [mEnts_append, Nat.zero_add, List.push_toArray]; rfl
  unfold Instr.mapEntry
  rw [Sem.run_bind, run_underlying Tryz.underlying135]
  simp only [Result.andThen_ok, Sem.run_bind, MapKept.run_getObj_map h, Sem.run_pure, hc, hf, hz, hs, e1]
  rfl
theorem sameBits_agg (n : Nat) (a b : Array Value) : Instr.sameBits (n + 1) (.agg a) (.agg b) = (a.size == b.size && (a.toList.zip b.toList).all fun (x, y) => Instr.sameBits n x y) := rfl
theorem same_ref (l : List UInt8) (n : Nat) : Instr.sameBits 10000 (.agg (refC l n)) (.agg (refC l n)) = true := by
  have hz : ∀ cs : List Value, (∀ v ∈ cs, ∃ k z, v = Value.int k z) → ((cs.zip cs).all fun (x, y) => Instr.sameBits 9999 x y) = true := by
    intro cs
    induction cs with
    | nil => intro _; rfl
    | cons v cs ih =>
      intro h
      obtain ⟨k, z, rfl⟩ := h v (by simp)
      simp only [List.zip_cons_cons, List.all_cons, ih fun x hx => h x (by simp [hx]), Bool.and_true]
      simp [Instr.sameBits]
  have hl : ∀ v ∈ (refC l n).toList, ∃ k z, v = Value.int k z := by
    intro v hv
    simp only [refC, List.mem_append, List.mem_map, List.mem_singleton] at hv
    rcases hv with ⟨j, -, rfl⟩ | rfl
    · exact ⟨_, _, rfl⟩
    · exact ⟨_, _, rfl⟩
  rw [show (10000 : Nat) = 9999 + 1 from rfl, sameBits_agg, hz _ hl]; simp
theorem run_stays (l : List UInt8) (n : Nat) (w : World) : (Instr.keyThatStays (.agg (refC l n)) (.agg (refC l n))).run Tryz.prog w = .ok (.agg (refC l n)) w := by
  unfold Instr.keyThatStays
  rw [same_ref]; rfl
theorem run_mapEntry_some {l : List UInt8} (hl : l.length = 32) (n : Nat) {w : World} {b : Nat} {E : List ((List UInt8 × Nat) × Int)} (q : Nat) (z : Int) (h : MapRow w b E) (hE : Len32 E) (hq : E[q]? = some ((l, n), z)) (hn : ∀ p, p < q → ∀ e, E[p]? = some e → e.1 ≠ (l, n)) : (Instr.mapEntry 135 (.map (some b)) (.agg (refC l n))).run Tryz.prog w = .ok (.tuple #[.int .i64 z, .int .i64 (q : Int)]) (setBlock w b (.map (mEnts 0 E).toArray E.length)) := by
  have hf := fk_some hl n w E q z hE hq hn
  have hc := run_checkRef l n false w
  have hs := fun o => MapKept.run_setObj_map (P := Tryz.prog) o h
  have hst := run_stays l n w
  have hat : (mEnts 0 E).toArray[q]? = some (mEnt q ((l, n), z)) := by rw [List.getElem?_toArray, mEnts_at, hq, Nat.zero_add]; rfl
  have e1 : (mEnts 0 E).toArray.modify q (fun e => { e with key := Value.agg (refC l n) }) = (mEnts 0 E).toArray := by
    rw [List.modify_toArray]
    refine congrArg List.toArray (List.ext_getElem? fun p => ?_)
    rw [List.getElem?_modify]
    by_cases hp : q = p
    · subst hp
      have hat' : (mEnts 0 E)[q]? = some (mEnt q ((l, n), z)) := by rw [← List.getElem?_toArray]; exact hat
      rw [hat']; simp [mEnt]
    · simp [hp]
  unfold Instr.mapEntry
  rw [Sem.run_bind, run_underlying Tryz.underlying135]
  simp only [Result.andThen_ok, Sem.run_bind, MapKept.run_getObj_map h, Sem.run_pure, hc, hf, hat, Option.map_some, Option.getD_some, mEnt, hst, e1, hs]
  rfl
theorem run_entryStore {w : World} {b : Nat} {E : List ((List UInt8 × Nat) × Int)} (T : TypeId) (q : Nat) (z y : Int) (r : List UInt8 × Nat) (h : MapRow w b E) (hq : E[q]? = some (r, y)) : (Instr.entryStore T (.map (some b)) (.int .i64 (q : Int)) (.int .i64 z)).run Tryz.prog w = .ok () (setBlock w b (.map (mEnts 0 (E.set q (r, z))).toArray E.length)) := by
  have hs := fun o => MapKept.run_setObj_map (P := Tryz.prog) o h
  have hlt : q < E.length := (List.getElem?_eq_some_iff.1 hq).1
  have hb := mEnts_born 0 E q hlt
  rw [Nat.zero_add] at hb
  have hfi : (mEnts 0 E).toArray.findIdx? (fun e => (e.born : Int) == (q : Int)) = some q := by rw [List.findIdx?_toArray]; exact hb
  have e1 : (mEnts 0 E).toArray.modify q (fun e => { e with val := Value.int .i64 z }) = (mEnts 0 (E.set q (r, z))).toArray := by
    rw [List.modify_toArray, ← mEnts_set]
    refine congrArg List.toArray (List.ext_getElem? fun p => ?_)
    rw [List.getElem?_modify, List.getElem?_set, mEnts_len]
    by_cases hp : q = p
    · subst hp
      rw [mEnts_at, hq]; simp [mEnt, hlt]
    · simp [hp]
  unfold Instr.entryStore
  simp only [Sem.run_bind, MapKept.run_getObj_map h, Result.andThen_ok, asInt, asIntOf, Sem.run_pure, hfi, e1, hs]
  rfl
end Go.Proofs.YtmfjgehlkbndjaaGreatDoor
