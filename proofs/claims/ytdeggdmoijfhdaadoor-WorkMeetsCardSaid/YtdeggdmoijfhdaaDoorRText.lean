/-
  The walk of the reference's Text: the same digits, laid in front.
-/
import Derived.Test.YtdeggdmoijfhdaaDoorLawAlive
import Derived.Test.YtdeggdmoijfhdaaDoorHex
namespace Go.Proofs.YtdeggdmoijfhdaaDoor
open Go Go.RowKit

section
variable {P : Program} {ops : Array Oper} {C : World → Prop} {Q : Act → Prop} {rest : List Oper} {o : Oper} {a : Act}
theorem qMove (x : Operand) (v : Value) (ho : o.op = .move x) (hg : Region.wanted o (yielded ops a.tmps) = true) (hx : a.eval x = v)
    (h : wpQuiet P ops C Q rest (a.put o.dst v)) : wpQuiet P ops C Q (o :: rest) a :=
  qStep _ hg (fun w _ => by unfold execOp; simp only [ho, hx, Sem.run_pure]) h
theorem qSliceStr1 (T : TypeId) (x y z : Operand) (k k' : IntKind) (i i' : Int) (j : Nat) (l : List UInt8) (ho : o.op = .slice T x (some y) (some z) none) (hg : Region.wanted o (yielded ops a.tmps) = true) (hx : a.eval x = textV l) (hy : a.eval y = .int k i) (hz : a.eval z = .int k' i') (hu : P.underlying T = some .string) (hi : i = (j : Int)) (hi' : i' = (j : Int) + 1) (hj : j < l.length)
    (h : wpQuiet P ops C Q rest (a.put o.dst (textV [at8 l j]))) : wpQuiet P ops C Q (o :: rest) a := by
  refine qStep _ hg (fun w _ => ?_) h
  unfold execOp
  subst hi; subst hi'
  have hs : (Instr.sliceAt T (textV l) (some (.int k (j : Int))) (some (.int k' ((j : Int) + 1))) none).run P w = .ok (textV [at8 l j]) w := by
    rw [run_sliceAt_string (P := P) w T _ _ _ _ hu]
    unfold textV
    rw [run_slice_string (P := P) w T _ k k' _ _ hu (by omega) (by omega) (by simp [ByteArray.size]; omega), ByteArray.extract_mk]
    have e1 : ((j : Int) + 1).toNat - ((j : Int)).toNat = 1 := by omega
    rw [e1, Int.toNat_natCast]
    have e2 : (l.drop j).take 1 = [at8 l j] := by
      rw [List.drop_eq_getElem_cons hj, List.take_succ_cons, List.take_zero, at8_lt l j hj]
    rw [e2]
  simp only [ho, hx, hy, hz, Option.map_some, Option.map_none, Sem.run_bind, hs, Result.andThen_ok, Sem.run_pure]
theorem qAddStr (T T2 : TypeId) (x y : Operand) (l m : List UInt8) (ho : o.op = .binOp .add T x y T2) (hg : Region.wanted o (yielded ops a.tmps) = true) (hx : a.eval x = textV l) (hy : a.eval y = textV m) (hl : (l.length : Int) ≤ 8388608) (hm : (m.length : Int) ≤ 8388608)
    (h : wpQuiet P ops C Q rest (a.put o.dst (textV (l ++ m)))) : wpQuiet P ops C Q (o :: rest) a := by
  refine qStep _ hg (fun w _ => ?_) h
  unfold execOp
  have hs : (do eqGuard .add T x y (textV l) (textV m); binOp .add T (textV l) (textV m) : Sem Value).run P w = .ok (textV (l ++ m)) w := by
    unfold textV
    simp only [eqGuard, binOp_string_add]
    first | exact run_string_add_lists w l m hl hm | simp [run_string_add_lists w l m hl hm]
  simp only [ho, hx, hy]
  rw [Sem.run_bind, hs]; rfl
theorem qEqlStr (T T2 : TypeId) (x y : Operand) (l m : List UInt8) (b : Bool) (ho : o.op = .binOp .eql T x y T2) (hg : Region.wanted o (yielded ops a.tmps) = true) (hx : a.eval x = textV l) (hy : a.eval y = textV m) (hb : (l == m) = b)
    (h : wpQuiet P ops C Q rest (a.put o.dst (.bool b))) : wpQuiet P ops C Q (o :: rest) a := by
  subst hb
  refine qStep _ hg (fun w _ => ?_) h
  unfold execOp
  have hr := run_eqlStr (P := P) (w := w) T l m x y
  simp only [ho, hx, hy]
  rw [Sem.run_bind, hr]; rfl
theorem qEqlArr (T T2 elem : TypeId) (x y : Operand) (len : Nat) (k k' : IntKind) (f g : Nat → Int) (b : Bool) (ho : o.op = .binOp .eql T x y T2) (hg : Region.wanted o (yielded ops a.tmps) = true) (hx : a.eval x = .agg (tab len fun j => .int k (f j))) (hy : a.eval y = .agg (tab len fun j => .int k (g j)))
    (hu : P.underlying T = some (.array len elem)) (he : P.underlying elem = some (.int k')) (hs : (P.info? elem).map (·.size) = some 1) (hq : P.eqGuardType P.depth T = false) (hb : ((List.range len).all fun j => f j == g j) = b)
    (h : wpQuiet P ops C Q rest (a.put o.dst (.bool b))) : wpQuiet P ops C Q (o :: rest) a := by
  subst hb
  refine qStep _ hg (fun w _ => ?_) h
  unfold execOp
  have hr := run_eqlArr (P := P) (w := w) (k := k) hu he hs hq f g x y
  simp only [ho, hx, hy]
  rw [Sem.run_bind, hr]; rfl
theorem qLoadRow (T U : TypeId) (x : Operand) (g : Nat) (cs : Array Value) (d : TypeDesc) (ho : o.op = .load T x) (hg : Region.wanted o (yielded ops a.tmps) = true)
    (hx : a.eval x = .pointer (some ⟨g, 0, none⟩)) (hr : ∀ w, C w → Row w g U cs) (hu : P.underlying T = some d) (hd : aggDesc d = true)
    (hi : (P.info? T).map (·.size) = some cs.size)
    (h : wpQuiet P ops C Q rest (a.put o.dst (.agg cs))) : wpQuiet P ops C Q (o :: rest) a :=
  qLoadAs T U x g 0 cs.size cs cs d ho hg hx hr hu hd hi (by omega) (by simp) h
end

theorem q16 (x : UInt8) : IntKind.u8.wrap ((B x).tdiv 16) = ((x.toNat / 16 : Nat) : Int) := by
  have := x.toNat_lt
  unfold B; rw [IntKind.wrap_u8, Int.tdiv_eq_ediv_of_nonneg (by omega)]; omega
theorem r16 (x : UInt8) : (B x).tmod 16 = (x.toNat : Int) % 16 := by
  unfold B; rw [Int.tmod_eq_emod_of_nonneg (by omega)]
theorem s16 (j : Nat) (h : j < 16) : IntKind.u8.wrap ((j : Int) + 1) = (j : Int) + 1 := by rw [IntKind.wrap_u8]; omega

/-- the first k bytes' digits, each in front of those before -/
def backTo (h : List UInt8) : Nat → List UInt8
  | 0 => []
  | k + 1 => pairOf (at8 h k) ++ backTo h k
theorem backTo_len (h : List UInt8) (k : Nat) : (backTo h k).length = 2 * k := by
  induction k with
  | zero => rfl
  | succ k ih => unfold backTo; rw [List.length_append, ih]; simp [pairOf]; omega
theorem backTo_text (h : List UInt8) : backTo h 32 = textTo h 32 := by rfl

end Go.Proofs.YtdeggdmoijfhdaaDoor
