/-
  The walk of the statement WideBytes.
-/
import Derived.Test.YtehklogmeinocaaWBytes
import Derived.Test.YtehklogmeinocaaWPowersW
import Derived.Test.YtehklogmeinocaaKit7
namespace Go.Proofs.Ytehklogmeinocaa
open Go Go.RowKit

/-! ### plain -/
theorem bnum_congr {f g : Nat → Nat} : ∀ k, (∀ i, i < k → f i = g i) → bnum f k = bnum g k
  | 0, _ => rfl
  | k + 1, h => by
    show bnum f k + f k * 2 ^ (8 * k) = bnum g k + g k * 2 ^ (8 * k)
    rw [bnum_congr k (fun i hi => h i (by omega)), h k (by omega)]
theorem from_bytes (a : Nat) (ma : a < M256) : bnum (fun i => bytesOf a (31 - i)) 32 = a := by
  rw [bnum_congr 32 (g := nbyte a) (fun i hi => by unfold bytesOf; rw [show 31 - (31 - i) = i by omega]), bnum_self]
  exact Nat.mod_eq_of_lt ma
theorem bytes_from (c : Nat → Nat) (hc : ∀ i, c i < 256) (p : Nat) (hp : p < 32) : bytesOf (bnum (fun i => c (31 - i)) 32) p = c p := by
  unfold bytesOf
  rw [bnum_byte (fun i => c (31 - i)) (fun i => hc _) (31 - p) 32 (by omega)]
  show c (31 - (31 - p)) = c p
  rw [show 31 - (31 - p) = p by omega]
theorem bcells_whole (f : Nat → Nat) : (bcells f).extract 0 (0 + 32) = bcells f := by
  have : (bcells f).extract 0 (0 + 32) = (bcells f).extract 0 (bcells f).size := by rw [bcells_size]
  rw [this]; simp
/-- k bytes, the highest first -/
def bl (a : Nat) : Nat → List UInt8
  | 0 => []
  | k + 1 => UInt8.ofNat (nbyte a k) :: bl a k
theorem bl_len (a : Nat) : ∀ k, (bl a k).length = k
  | 0 => rfl
  | k + 1 => by show (bl a k).length + 1 = _; rw [bl_len a k]
theorem bl_get (a : Nat) : ∀ k p, p < k → (bl a k)[p]? = some (UInt8.ofNat (nbyte a (k - 1 - p)))
  | 0, p, h => by omega
  | k + 1, 0, _ => by simp [bl]
  | k + 1, p + 1, h => by
    show (bl a k)[p]? = _
    rw [bl_get a k p (by omega), show k + 1 - 1 - (p + 1) = k - 1 - p by omega]
theorem bl_cells (a : Nat) : bcells (bytesOf a) = ((bl a 32).map VB).toArray := by
  apply Array.ext_getElem?
  intro p
  by_cases h : p < 32
  · rw [bcells_get _ _ h, List.getElem?_toArray, List.getElem?_map, bl_get a 32 p h]
    unfold VB B bytesOf
    simp only [Option.map_some, Option.some.injEq, Value.int.injEq, true_and]
    rw [UInt8.toNat_ofNat', show 32 - 1 - p = 31 - p by omega]
    have := nbyte_lt a (31 - p)
    omega
  · rw [Array.getElem?_eq_none (by rw [bcells_size]; omega), Array.getElem?_eq_none (by simp [bl_len]; omega)]
theorem bl_vals {w : World} {g a : Nat} {T : TypeId} (h : Row w g T (bcells (bytesOf a))) : IsVals w (.slice (some ⟨g, 0, none⟩) 32 32) ((bl a 32).map VB) := by
  rw [bl_cells] at h
  have := isVals_lit h
  rw [List.length_map, bl_len] at this
  exact this
theorem bl_less0 (a b : Nat) : ∀ k, Op.bytesLess (bl a k) (bl b k) = decide (a % 2 ^ (8 * k) < b % 2 ^ (8 * k))
  | 0 => by simp [bl, Op.bytesLess, Nat.mod_one]
  | k + 1 => by
    have ih := bl_less0 a b k
    show (decide (UInt8.ofNat (nbyte a k) < UInt8.ofNat (nbyte b k)) || (UInt8.ofNat (nbyte a k) == UInt8.ofNat (nbyte b k) && Op.bytesLess (bl a k) (bl b k))) = _
    rw [ih, ← bnum_self a (k + 1), ← bnum_self b (k + 1)]
    show _ = decide (bnum (nbyte a) k + nbyte a k * 2 ^ (8 * k) < bnum (nbyte b) k + nbyte b k * 2 ^ (8 * k))
    rw [bnum_self, bnum_self]
    have ha := nbyte_lt a k; have hb := nbyte_lt b k
    have hra : a % 2 ^ (8 * k) < 2 ^ (8 * k) := Nat.mod_lt _ (Nat.pow_pos (by decide))
    have hrb : b % 2 ^ (8 * k) < 2 ^ (8 * k) := Nat.mod_lt _ (Nat.pow_pos (by decide))
    have e1 : decide (UInt8.ofNat (nbyte a k) < UInt8.ofNat (nbyte b k)) = decide (nbyte a k < nbyte b k) := by
      rw [decide_eq_decide, UInt8.lt_iff_toNat_lt, UInt8.toNat_ofNat', UInt8.toNat_ofNat']; omega
    have e2 : (UInt8.ofNat (nbyte a k) == UInt8.ofNat (nbyte b k)) = decide (nbyte a k = nbyte b k) := by
      rw [Bool.eq_iff_iff, beq_iff_eq, decide_eq_true_eq, ← UInt8.toNat_inj, UInt8.toNat_ofNat', UInt8.toNat_ofNat']; omega
    rw [e1, e2]
    generalize a % 2 ^ (8 * k) = ra at *; generalize b % 2 ^ (8 * k) = rb at *
    generalize nbyte a k = x at *; generalize nbyte b k = y at *
    generalize 2 ^ (8 * k) = p at *
    rcases Nat.lt_trichotomy x y with h | h | h
    · have : (x + 1) * p ≤ y * p := Nat.mul_le_mul_right _ h
      rw [Nat.add_mul, Nat.one_mul] at this
      rw [decide_eq_true h, decide_eq_true (show ra + x * p < rb + y * p by omega)]; rfl
    · subst h
      rw [decide_eq_false (Nat.lt_irrefl x), decide_eq_true rfl, Bool.false_or, Bool.true_and, decide_eq_decide]; omega
    · have : (y + 1) * p ≤ x * p := Nat.mul_le_mul_right _ h
      rw [Nat.add_mul, Nat.one_mul] at this
      rw [decide_eq_false (show ¬ x < y by omega), decide_eq_false (show ¬ x = y by omega), decide_eq_false (show ¬ ra + x * p < rb + y * p by omega)]; rfl
theorem bl_less {a b : Nat} (ma : a < M256) (mb : b < M256) : Op.bytesLess (bl a 32) (bl b 32) = decide (a < b) := by
  rw [bl_less0, Nat.mod_eq_of_lt (show a < 2 ^ (8 * 32) from ma), Nat.mod_eq_of_lt (show b < 2 ^ (8 * 32) from mb)]

section
variable {P : Program} {ops : Array Oper} {C : World → Prop} {Q : Act → Prop} {rest : List Oper} {o : Oper} {a : Act}
theorem qSliceArrAll (T E : TypeId) (x : Operand) (len g : Nat) (ho : o.op = .slice T x none none none) (hg : Region.wanted o (yielded ops a.tmps) = true) (hx : a.eval x = .pointer (some ⟨g, 0, none⟩)) (ht : P.underlying T = some (.array len E)) (hsz : (P.info? E).map (·.size) = some 1)
    (h : wpQuiet P ops C Q rest (a.put o.dst (.slice (some ⟨g, 0, none⟩) len len))) : wpQuiet P ops C Q (o :: rest) a :=
  qStep _ hg (fun w _ => by unfold execOp; simp only [ho, hx, Option.map_none, Sem.run_bind, run_sliceArrAll ht hsz, Result.andThen_ok, Sem.run_pure]) h
theorem qToString (src dst E : TypeId) (x : Operand) (v : Value) (l : List UInt8) (ho : o.op = .convert src dst x) (hg : Region.wanted o (yielded ops a.tmps) = true) (hx : a.eval x = v) (hv : ∀ w, C w → IsVals w v (l.map VB)) (hs : P.underlying src = some (.slice E)) (he : P.underlying E = some (.int .u8)) (hd : P.underlying dst = some .string)
    (h : wpQuiet P ops C Q rest (a.put o.dst (textV l))) : wpQuiet P ops C Q (o :: rest) a :=
  qStep _ hg (fun w hw => by unfold execOp; simp only [ho, hx, Sem.run_bind, run_toString (hv w hw) hs he hd, Result.andThen_ok, Sem.run_pure]) h
theorem qLssStr (T T2 : TypeId) (x y : Operand) (l m : List UInt8) (b : Bool) (ho : o.op = .binOp .lss T x y T2) (hg : Region.wanted o (yielded ops a.tmps) = true) (hx : a.eval x = textV l) (hy : a.eval y = textV m) (hb : Op.bytesLess l m = b)
    (h : wpQuiet P ops C Q rest (a.put o.dst (.bool b))) : wpQuiet P ops C Q (o :: rest) a := by
  subst hb
  refine qStep _ hg (fun w _ => ?_) h
  unfold execOp
  simp only [ho, hx, hy]
  simp [eqGuard, textV, binOp_string_lss]
end
theorem eqGuard_arr32 : Try.prog.eqGuardType Try.prog.depth 45 = false := by kernel_rfl
theorem qEqlB {ops : Array Oper} {C : World → Prop} {Q : Act → Prop} {rest : List Oper} {o : Oper} {a : Act} (T2 : TypeId) (x y : Operand) (f g : Nat → Nat) (b : Bool) (ho : o.op = .binOp .eql 45 x y T2) (hg : Region.wanted o (yielded ops a.tmps) = true) (hx : a.eval x = .agg (bcells f)) (hy : a.eval y = .agg (bcells g)) (hb : ((List.range 32).all fun j => ((f j : Nat) : Int) == ((g j : Nat) : Int)) = b)
    (h : wpQuiet Try.prog ops C Q rest (a.put o.dst (.bool b))) : wpQuiet Try.prog ops C Q (o :: rest) a := by
  subst hb
  refine qStep _ hg (fun w _ => ?_) h
  unfold execOp
  have hr := run_eqlArr (P := Try.prog) (w := w) (k := .u8) Try.underlying45 Try.underlying5 info_b8 eqGuard_arr32 (fun j => (f j : Int)) (fun j => (g j : Int)) x y
  simp only [ho, hx, hy]
  rw [Sem.run_bind]
  exact congrArg (fun r => Result.andThen r _) hr

/-- the predicates of the region of both numbers' bytes -/
def byPr (B0 a b : Nat) (i : Nat) (w : World) (v : Value) : Prop := match i with
  | 0 => v = .agg (wcells a)
  | 1 => v = .agg (bcells (bytesOf a))
  | 2 => v = .agg (wcells b)
  | 3 => v = .agg (bcells (bytesOf b))
  | 4 => ∃ g cs, v = .pointer (some ⟨g, 0, none⟩) ∧ B0 ≤ g ∧ cs.size = 32 ∧ Row w g 45 cs
  | 5 => ∃ g cs, v = .pointer (some ⟨g, 0, none⟩) ∧ B0 ≤ g ∧ cs.size = 32 ∧ Row w g 45 cs
  | 6 => ∃ g, v = .pointer (some ⟨g, 0, none⟩) ∧ B0 ≤ g ∧ Row w g 45 (bcells (bytesOf a))
  | 7 => ∃ g, v = .pointer (some ⟨g, 0, none⟩) ∧ B0 ≤ g ∧ Row w g 45 (bcells (bytesOf b))
  | _ => True
theorem byPr_mono {B0 a b : Nat} : ∀ i w w' v, Below w.heap.size w w' → byPr B0 a b i w v → byPr B0 a b i w' v := by
  intro i w w' v hb h
  unfold byPr at *
  split at h <;> first | exact h | exact trivial | skip
  · obtain ⟨g, cs, h1, h2, h3, h4⟩ := h; exact ⟨g, cs, h1, h2, h3, h4.below hb h4.lt⟩
  · obtain ⟨g, cs, h1, h2, h3, h4⟩ := h; exact ⟨g, cs, h1, h2, h3, h4.below hb h4.lt⟩
  · obtain ⟨g, h1, h2, h4⟩ := h; exact ⟨g, h1, h2, h4.below hb h4.lt⟩
  · obtain ⟨g, h1, h2, h4⟩ := h; exact ⟨g, h1, h2, h4.below hb h4.lt⟩
/-- a write of a's bytes (or of b's) keeps all, if what holds the other's is another block -/
theorem byPr_wrote {B0 a b g : Nat} {w w' : World} {cs : Array Value} (hw : Wrote g w w') (hr : Row w' g 45 cs) (hcs : cs.size = 32) (i : Nat) (v : Value)
    (h6 : i = 6 → v = .pointer (some ⟨g, 0, none⟩) → cs = bcells (bytesOf a)) (h7 : i = 7 → v = .pointer (some ⟨g, 0, none⟩) → cs = bcells (bytesOf b)) (h : byPr B0 a b i w v) : byPr B0 a b i w' v := by
  unfold byPr at *
  split at h <;> first | exact h | exact trivial | skip
  · obtain ⟨g', cs', h1, h2, h3, h4⟩ := h
    by_cases e : g' = g
    · subst e; exact ⟨g', _, h1, h2, hcs, hr⟩
    · exact ⟨g', cs', h1, h2, h3, hw.row h4 e⟩
  · obtain ⟨g', cs', h1, h2, h3, h4⟩ := h
    by_cases e : g' = g
    · subst e; exact ⟨g', _, h1, h2, hcs, hr⟩
    · exact ⟨g', cs', h1, h2, h3, hw.row h4 e⟩
  · obtain ⟨g', h1, h2, h4⟩ := h
    by_cases e : g' = g
    · subst e; exact ⟨g', h1, h2, by rw [← h6 rfl h1]; exact hr⟩
    · exact ⟨g', h1, h2, hw.row h4 e⟩
  · obtain ⟨g', h1, h2, h4⟩ := h
    by_cases e : g' = g
    · subst e; exact ⟨g', h1, h2, by rw [← h7 rfl h1]; exact hr⟩
    · exact ⟨g', h1, h2, hw.row h4 e⟩

set_option maxRecDepth 100000 in
set_option maxHeartbeats 8000000 in
theorem WideBytes_any (a : Nat) (ma : a < M256) (b : Nat) (mb : b < M256) (c : Nat → Nat) (hc : ∀ i, c i < 256) (w : World) :
    Calls Try.prog 7 #[WV a, WV b, .agg (tab 32 fun p => .int .u8 (c p : Int))] w fun e w' => e = .returned (.bool true) ∧ Below w.heap.size w w' := by
  have hM0 := mem_nil w
  have F1 := Lib.hid (show decide (bnum (fun i => bytesOf a (31 - i)) 32 % M256 = a % M256) = true by rw [from_bytes a ma]; simp)
  have F2 := Lib.hid (show ((List.range 32).all fun j => ((bytesOf (bnum (fun i => c (31 - i)) 32) j : Nat) : Int) == ((c j : Nat) : Int)) = true by
    rw [List.all_eq_true]; intro j hj; rw [bytes_from c hc j (List.mem_range.1 hj)]; simp)
  have F3 : bytesOf a 31 = limb a 0 % 256 := by unfold bytesOf; rw [← nbyte_limb]; simp
  have F4 : bytesOf a 0 = limb a 3 / 2 ^ 56 % 256 := by unfold bytesOf; rw [← nbyte_limb]
  unfold WV
  show Calls Try.prog 7 #[.agg (wcells a), .agg (wcells b), .agg (bcells c)] w _
  go_enter Try.func7, Try.ntmps7
  go_wp2_with (first
    | ((with_reducible change wpList _ _ _ (Oper.mk (some 3) _ _ _ _ _ :: _) _ _); refine mBox hM0 _ _ rfl rfl rfl ?_; intro w1 hM1; clear hM0; go_frame)
    | ((with_reducible change wpList _ _ _ (Oper.mk (some 4) _ _ _ _ _ :: _) _ _); refine mBox hM1 _ _ rfl rfl rfl ?_; intro w2 hM2; clear hM1; go_frame)
    | ((with_reducible change wpList _ _ _ (Oper.mk (some 5) _ _ _ _ _ :: _) _ _); refine kBoxL _ _ _ rfl rfl rfl ?_; intro w3 hR2 hl3 hB3; have hM3 := hM2.on hB3; clear hM2 hB3; go_frame)
    | (go_at_call 14; refine (wideAlive_any _).mono ?_; rintro e w4 ⟨rfl, hB4⟩; have hM4 := hM3.on hB4; have hR2c := hR2.below hB4 hR2.lt; clear hB4 hM3 hR2 hl3; go_frame))
  refine region_inv3 (fun i => i - 2) (byPr w4.heap.size a b) (Apart2 7 8) (fun w _ => apart2_start rfl rfl) (by kernel_rfl) (by kernel_rfl) (steps_all ⟨?_, ?_, ?_, ?_, ?_, ?_, ?_, ?_, trivial⟩) ?fin
  case fin =>
    intro A w5 hsz hdf hbel hX hoth hall
    obtain ⟨tm, df⟩ := A
    have htm := arr_tab tm 54 (hsz.trans rfl)
    obtain ⟨f, hf⟩ : ∃ f : Nat → Value, ∀ s, tm.getD s undef = f s := ⟨fun s => tm.getD s undef, fun _ => rfl⟩
    simp only [hf] at htm
    have e3 : f 3 = .pointer (some ⟨w.heap.size, 0, none⟩) := (hf 3).symm.trans ((hoth 3 (free2_of (by kernel_rfl))).trans rfl)
    have e4 : f 4 = .pointer (some ⟨w1.heap.size, 0, none⟩) := (hf 4).symm.trans ((hoth 4 (free2_of (by kernel_rfl))).trans rfl)
    have e5 : f 5 = .pointer (some ⟨w2.heap.size, 0, none⟩) := (hf 5).symm.trans ((hoth 5 (free2_of (by kernel_rfl))).trans rfl)
    have e6 : f 6 = .bool false := (hf 6).symm.trans ((hoth 6 (free2_of (by kernel_rfl))).trans rfl)
    obtain ⟨g7, e7, hg7, hR7⟩ : ∃ g, f 7 = .pointer (some ⟨g, 0, none⟩) ∧ w4.heap.size ≤ g ∧ Row w5 g 45 (bcells (bytesOf a)) := (by rw [← hf 7]; have h := hall 6 (by decide); exact h)
    obtain ⟨g8, e8, hg8, hR8⟩ : ∃ g, f 8 = .pointer (some ⟨g, 0, none⟩) ∧ w4.heap.size ≤ g ∧ Row w5 g 45 (bcells (bytesOf b)) := (by rw [← hf 8]; have h := hall 7 (by decide); exact h)
    have hdf' : df = [] := hdf
    have elit : tab 54 f = (f 0 :: f 1 :: f 2 :: f 3 :: f 4 :: f 5 :: f 6 :: f 7 :: f 8 :: f 9 :: f 10 :: f 11 :: f 12 :: f 13 :: f 14 :: f 15 :: f 16 :: f 17 :: f 18 :: f 19 :: f 20 :: f 21 :: f 22 :: f 23 :: f 24 :: f 25 :: f 26 :: f 27 :: f 28 :: f 29 :: f 30 :: f 31 :: f 32 :: f 33 :: f 34 :: f 35 :: f 36 :: f 37 :: f 38 :: f 39 :: f 40 :: f 41 :: f 42 :: f 43 :: f 44 :: f 45 :: f 46 :: f 47 :: f 48 :: f 49 :: f 50 :: f 51 :: f 52 :: f 53 :: ([] : List Value)).toArray := rfl
    rw [e3, e4, e5, e6, e7, e8] at elit
    rw [elit] at htm
    subst htm
    subst hdf'
    clear hsz hdf hX hoth hall hf elit e3 e4 e5 e6 e7 e8
    have hM5 := hM4.on hbel
    have hR25 := hR2c.below hbel hR2c.lt
    clear hM4 hbel hR2c
    go_wp2_with fail
    refine region_below_tail 39 (by kernel_rfl) (by kernel_rfl) ?_
    simp only [List.take_succ_cons, List.take_zero, List.drop_succ_cons, List.drop_zero]
    repeat (first
      | ((with_reducible change wpQuiet _ _ _ _ (Oper.mk (some 15) _ _ _ _ _ :: _) _); refine qLoadAs _ _ _ _ 0 32 _ _ _ rfl rfl rfl (fun _ hw => row_regrown hR7 hw) Try.underlying45 rfl info_arr32 (by rw [bcells_size]; omega) (bcells_whole _) ?_; go_frame)
      | ((with_reducible change wpQuiet _ _ _ _ (Oper.mk (some 17) _ _ _ _ _ :: _) _); refine qLoadM hM5 1 _ _ _ rfl rfl rfl rfl ?_; go_frame)
      | ((with_reducible change wpQuiet _ _ _ _ (Oper.mk (some 20) _ _ _ _ _ :: _) _); refine qLoadAs _ _ _ _ 0 32 _ _ _ rfl rfl rfl (fun _ hw => row_regrown hR25 hw) Try.underlying45 rfl info_arr32 (by rw [bcells_size]; omega) (bcells_whole _) ?_; go_frame)
      | ((with_reducible change wpQuiet _ _ _ _ (Oper.mk (some 23) _ _ _ _ _ :: _) _); refine qLoadAs _ _ _ _ 0 32 _ _ _ rfl rfl rfl (fun _ hw => row_regrown hR25 hw) Try.underlying45 rfl info_arr32 (by rw [bcells_size]; omega) (bcells_whole _) ?_; go_frame)
      | ((with_reducible change wpQuiet _ _ _ _ (Oper.mk (some 27) _ _ _ _ _ :: _) _); refine qLoadM hM5 1 _ _ _ rfl rfl rfl rfl ?_; go_frame)
      | ((with_reducible change wpQuiet _ _ _ _ (Oper.mk (some 28) _ _ _ _ _ :: _) _); refine qLoadM hM5 0 _ _ _ rfl rfl rfl rfl ?_; go_frame)
      | ((with_reducible change wpQuiet _ _ _ _ (Oper.mk (some 18) _ _ _ _ _ :: _) _); refine qEqlW _ _ _ (bnum (fun i => bytesOf a (31 - i)) 32) a true rfl rfl rfl rfl F1.out ?_; go_frame)
      | ((with_reducible change wpQuiet _ _ _ _ (Oper.mk (some 24) _ _ _ _ _ :: _) _); refine qEqlB _ _ _ (bytesOf (bnum (fun i => c (31 - i)) 32)) c true rfl rfl rfl rfl F2.out ?_; go_frame)
      | ((with_reducible change wpQuiet _ _ _ _ (Oper.mk (some 30) _ _ _ _ _ :: _) _); refine qSliceArrAll _ _ _ 32 _ rfl rfl rfl Try.underlying45 info_b8 ?_; go_frame)
      | ((with_reducible change wpQuiet _ _ _ _ (Oper.mk (some 32) _ _ _ _ _ :: _) _); refine qSliceArrAll _ _ _ 32 _ rfl rfl rfl Try.underlying45 info_b8 ?_; go_frame)
      | ((with_reducible change wpQuiet _ _ _ _ (Oper.mk (some 31) _ _ _ _ _ :: _) _); refine qToString _ _ _ _ _ (bl a 32) rfl rfl rfl (fun _ hw => bl_vals (row_regrown hR7 hw)) Try.underlying48 Try.underlying5 Try.underlying9 ?_; go_frame)
      | ((with_reducible change wpQuiet _ _ _ _ (Oper.mk (some 33) _ _ _ _ _ :: _) _); refine qToString _ _ _ _ _ (bl b 32) rfl rfl rfl (fun _ hw => bl_vals (row_regrown hR8 hw)) Try.underlying48 Try.underlying5 Try.underlying9 ?_; go_frame)
      | ((with_reducible change wpQuiet _ _ _ _ (Oper.mk (some 34) _ _ _ _ _ :: _) _); refine qLssStr _ _ _ _ (bl a 32) (bl b 32) (decide (a < b)) rfl rfl rfl rfl (bl_less ma mb) ?_; go_frame)
      | ((with_reducible change wpQuiet _ _ _ _ (Oper.mk (some 35) _ _ _ _ _ :: _) _); refine qEqlBool _ _ _ _ _ _ true rfl rfl rfl rfl Try.underlying4 (by simp) ?_; go_frame)
      | ((with_reducible change wpQuiet _ _ _ _ (Oper.mk (some 38) _ _ _ _ _ :: _) _); refine qIndexAddr1 _ _ _ _ _ _ _ 31 _ rfl rfl rfl rfl Try.underlying45 info_b8 rfl (by decide) ?_; go_frame)
      | ((with_reducible change wpQuiet _ _ _ _ (Oper.mk (some 39) _ _ _ _ _ :: _) _); refine qLoad1 _ _ _ _ _ _ _ _ rfl rfl rfl (fun _ hw => row_regrown hR7 hw) Try.underlying5 rfl (bcells_get _ 31 (by decide)) ?_; go_frame)
      | ((with_reducible change wpQuiet _ _ _ _ (Oper.mk (some 40) _ _ _ _ _ :: _) _); refine qIndexAddr1 _ _ _ _ _ _ _ 0 _ rfl rfl rfl rfl Try.underlying24 info_w64 rfl (by decide) ?_; go_frame)
      | ((with_reducible change wpQuiet _ _ _ _ (Oper.mk (some 41) _ _ _ _ _ :: _) _); refine qLoad1 _ _ _ _ _ _ _ _ rfl rfl rfl (fun _ hw => row_regrown (hM5.get 1 rfl) hw) Try.underlying22 rfl (wcells_get a 0 (by decide)) ?_; go_frame)
      | ((with_reducible change wpQuiet _ _ _ _ (Oper.mk (some 46) _ _ _ _ _ :: _) _); refine qIndexAddr1 _ _ _ _ _ _ _ 0 _ rfl rfl rfl rfl Try.underlying45 info_b8 rfl (by decide) ?_; go_frame)
      | ((with_reducible change wpQuiet _ _ _ _ (Oper.mk (some 47) _ _ _ _ _ :: _) _); refine qLoad1 _ _ _ _ _ _ _ _ rfl rfl rfl (fun _ hw => row_regrown hR7 hw) Try.underlying5 rfl (bcells_get _ 0 (by decide)) ?_; go_frame)
      | ((with_reducible change wpQuiet _ _ _ _ (Oper.mk (some 48) _ _ _ _ _ :: _) _); refine qIndexAddr1 _ _ _ _ _ _ _ 3 _ rfl rfl rfl rfl Try.underlying24 info_w64 rfl (by decide) ?_; go_frame)
      | ((with_reducible change wpQuiet _ _ _ _ (Oper.mk (some 49) _ _ _ _ _ :: _) _); refine qLoad1 _ _ _ _ _ _ _ _ rfl rfl rfl (fun _ hw => row_regrown (hM5.get 1 rfl) hw) Try.underlying22 rfl (wcells_get a 3 (by decide)) ?_; go_frame)
      | go_big_quiet_step (first
        | (go_at_call 30; (with_reducible change Calls _ _ #[Value.agg (bcells (bytesOf a))] _ _); exact Calls.regrown_of (wFrom_any (bytesOf a) (fun i => nbyte_lt _ _) _))
        | (go_at_call 30; (with_reducible change Calls _ _ #[Value.agg (bcells c)] _ _); exact Calls.regrown_of (wFrom_any c hc _))
        | (go_at_call 29; exact Calls.regrown_of (wBytes_any _ _))
        | (go_at_call 24; exact Calls.regrown_of (wLess_any a b ma mb _))))
    refine wpQuiet_nil ?_
    rintro _ ⟨p, rfl⟩
    have hbr := below_regrown w5 p.d p.os
    have hB := hM5.below.trans (hbr.mono hM5.size)
    go_wp2
    go_ret
    exact ⟨rfl, hB⟩
  · intro A w hsz hoth hbel hX hdep
    exact kLoadRow _ _ _ _ _ _ rfl rfl ((hoth 3 (free2_of (by kernel_rfl))).trans rfl) ((hM4.get 1 rfl).below hbel (hM4.get 1 rfl).lt) Try.underlying24 rfl (info_WideC _) (stepX byPr_mono hbel hX hsz rfl rfl (show 11 < 54 by decide) (by decide) (by decide) (Below.refl _ _) rfl)
  · intro A w hsz hoth hbel hX hdep
    have d0 : A.tmps.getD 11 undef = .agg (wcells a) := (by have h := hdep ⟨0, .data⟩ (by simp) rfl; exact h)
    refine kCall1 29 _ _ _ rfl rfl (by kernel_rfl) d0 ?_
    refine (wBytes_any a w).mono ?_
    rintro e r ⟨rfl, hBc⟩
    exact ⟨_, rfl, (stepX byPr_mono hbel hX hsz rfl rfl (show 12 < 54 by decide) (by decide) (by decide) hBc rfl)⟩
  · intro A w hsz hoth hbel hX hdep
    exact kLoadRow _ _ _ _ _ _ rfl rfl ((hoth 4 (free2_of (by kernel_rfl))).trans rfl) ((hM4.get 0 rfl).below hbel (hM4.get 0 rfl).lt) Try.underlying24 rfl (info_WideC _) (stepX byPr_mono hbel hX hsz rfl rfl (show 13 < 54 by decide) (by decide) (by decide) (Below.refl _ _) rfl)
  · intro A w hsz hoth hbel hX hdep
    have d2 : A.tmps.getD 13 undef = .agg (wcells b) := (by have h := hdep ⟨2, .data⟩ (by simp) rfl; exact h)
    refine kCall1 29 _ _ _ rfl rfl (by kernel_rfl) d2 ?_
    refine (wBytes_any b w).mono ?_
    rintro e r ⟨rfl, hBc⟩
    exact ⟨_, rfl, (stepX byPr_mono hbel hX hsz rfl rfl (show 14 < 54 by decide) (by decide) (by decide) hBc rfl)⟩
  · intro A w hsz hoth hbel hX hdep
    refine kAllocL _ _ rfl rfl zero_arr32 ?_
    intro r hR hl hBc
    refine mixOn ⟨_, rfl, hbel.trans (hBc.mono hbel.size), fun j _ h => byPr_mono j w r _ hBc h, hX.newL (by show (A.put (some 7) _).tmps.getD 7 undef = _; rw [put_get (by rw [hsz]; exact (show 7 < 54 by decide)), if_pos rfl]) (by show (A.put (some 7) _).tmps.getD 8 undef = _; rw [put_get (by rw [hsz]; exact (show 7 < 54 by decide)), if_neg (by decide)]) hl, ?_⟩
    show byPr w4.heap.size a b 4 r ((A.put (some 7) _).tmps.getD 7 undef)
    rw [put_get (by rw [hsz]; exact (show 7 < 54 by decide)), if_pos rfl]
    exact ⟨w.heap.size, _, rfl, hbel.size, tab_size _ _, hR⟩
  · intro A w hsz hoth hbel hX hdep
    refine kAllocL _ _ rfl rfl zero_arr32 ?_
    intro r hR hl hBc
    refine mixOn ⟨_, rfl, hbel.trans (hBc.mono hbel.size), fun j _ h => byPr_mono j w r _ hBc h, hX.newR (by show (A.put (some 8) _).tmps.getD 7 undef = _; rw [put_get (by rw [hsz]; exact (show 8 < 54 by decide)), if_neg (by decide)]) (by show (A.put (some 8) _).tmps.getD 8 undef = _; rw [put_get (by rw [hsz]; exact (show 8 < 54 by decide)), if_pos rfl]) hl, ?_⟩
    show byPr w4.heap.size a b 5 r ((A.put (some 8) _).tmps.getD 8 undef)
    rw [put_get (by rw [hsz]; exact (show 8 < 54 by decide)), if_pos rfl]
    exact ⟨w.heap.size, _, rfl, hbel.size, tab_size _ _, hR⟩
  · intro A w hsz hoth hbel hX hdep
    have d1 : A.tmps.getD 12 undef = .agg (bcells (bytesOf a)) := (by have h := hdep ⟨1, .data⟩ (by simp) rfl; exact h)
    obtain ⟨g, cs, d8, hg, hcs, hR⟩ : ∃ g cs, A.tmps.getD 7 undef = .pointer (some ⟨g, 0, none⟩) ∧ w4.heap.size ≤ g ∧ cs.size = 32 ∧ Row w g 45 cs := (by have h := hdep ⟨4, .data⟩ (by simp) rfl; exact h)
    refine kStoreRow _ _ _ _ _ _ _ rfl rfl d8 d1 hR (by rw [bcells_size]; exact info_arr32) (by rw [bcells_size, hcs]) (bcells_one _) ?_
    intro r hR2 hW
    refine mixOn ⟨undef, rfl, hbel.trans (hW.below hg), fun j _ h => byPr_wrote hW hR2 (bcells_size _) j _ ?_ ?_ h, hX.step rfl rfl (Nat.le_of_eq hW.size.symm), ⟨g, d8, hg, hR2⟩⟩
    · intro _ _; rfl
    · intro e7 ev; subst e7; exact (hX.2.2 g d8 ev).elim
  · intro A w hsz hoth hbel hX hdep
    have d3 : A.tmps.getD 14 undef = .agg (bcells (bytesOf b)) := (by have h := hdep ⟨3, .data⟩ (by simp) rfl; exact h)
    obtain ⟨g, cs, d8, hg, hcs, hR⟩ : ∃ g cs, A.tmps.getD 8 undef = .pointer (some ⟨g, 0, none⟩) ∧ w4.heap.size ≤ g ∧ cs.size = 32 ∧ Row w g 45 cs := (by have h := hdep ⟨5, .data⟩ (by simp) rfl; exact h)
    refine kStoreRow _ _ _ _ _ _ _ rfl rfl d8 d3 hR (by rw [bcells_size]; exact info_arr32) (by rw [bcells_size, hcs]) (bcells_one _) ?_
    intro r hR2 hW
    refine mixOn ⟨undef, rfl, hbel.trans (hW.below hg), fun j _ h => byPr_wrote hW hR2 (bcells_size _) j _ ?_ ?_ h, hX.step rfl rfl (Nat.le_of_eq hW.size.symm), ⟨g, d8, hg, hR2⟩⟩
    · intro e6 ev; subst e6; exact (hX.2.2 g ev d8).elim
    · intro _ _; rfl
end Go.Proofs.Ytehklogmeinocaa
