/-
  The walk of the statement WidePowers.
-/
import Derived.Test.YtehklogmeinocaaWNamesW
namespace Go.Proofs.Ytehklogmeinocaa
open Go Go.RowKit

theorem Mem.add {w0 w w' : World} {l : List (Nat × Nat)} {g m : Nat} (h : Mem w0 w l) (hb : Below w.heap.size w w') (hg : w.heap.size ≤ g) (hr : Row w' g 24 (wcells m)) : Mem w0 w' ((g, m) :: l) := by
  have h' := h.on hb
  refine ⟨fun i k n hi => ?_, List.Pairwise.cons (fun p hp => ?_) h.desc, fun i k n hi => ?_, h'.below⟩
  · cases i with
    | zero => simp at hi; obtain ⟨rfl, rfl⟩ := hi; exact hr
    | succ i => exact h'.rows i k n (by simpa using hi)
  · obtain ⟨i, hi⟩ := List.getElem?_of_mem hp
    exact Nat.lt_of_lt_of_le (h.rows i p.1 p.2 hi).lt hg
  · cases i with
    | zero => simp at hi; obtain ⟨rfl, rfl⟩ := hi; exact Nat.le_trans h.size hg
    | succ i => exact h.ge i k n (by simpa using hi)
theorem qEqlBool {P : Program} {ops : Array Oper} {C : World → Prop} {Q : Act → Prop} {rest : List Oper} {o : Oper} {a : Act} (T T2 : TypeId) (x y : Operand) (b c d : Bool) (ho : o.op = .binOp .eql T x y T2) (hg : Region.wanted o (yielded ops a.tmps) = true) (hx : a.eval x = .bool b) (hy : a.eval y = .bool c) (ht : P.underlying T = some .bool) (hd : (b == c) = d)
    (h : wpQuiet P ops C Q rest (a.put o.dst (.bool d))) : wpQuiet P ops C Q (o :: rest) a := by
  subst hd
  refine qStep _ hg (fun w _ => ?_) h
  have hr := run_eqlBool (P := P) (w := w) T b c x y ht
  unfold execOp
  simp only [ho, hx, hy]
  rw [Sem.run_bind, hr]; rfl
theorem qLeqInt {P : Program} {ops : Array Oper} {C : World → Prop} {Q : Act → Prop} {rest : List Oper} {o : Oper} {a : Act} (T2 : TypeId) (x y : Operand) (b c : Int) (d : Bool) {T : TypeId} (ho : o.op = .binOp .leq T x y T2) (hg : Region.wanted o (yielded ops a.tmps) = true) (hx : a.eval x = .int .i64 b) (hy : a.eval y = .int .i64 c) (hd : decide (b ≤ c) = d)
    (h : wpQuiet P ops C Q rest (a.put o.dst (.bool d))) : wpQuiet P ops C Q (o :: rest) a := by
  subst hd
  refine qStep _ hg (fun w _ => ?_) h
  unfold execOp
  simp only [ho, hx, hy]
  simp [eqGuard, binOp, Op.intCmp]

/-- the predicates of the region of 'back' -/
def powPr (B0 t L s : Nat) (nv : Value) (i : Nat) (w : World) (v : Value) : Prop := match i with
  | 0 => v = .agg (wcells t)
  | 1 => v = nv
  | 2 => v = .agg (wcells L)
  | 3 => v = .agg (wcells s)
  | 4 => v = .tuple #[.agg (wcells (L + s)), .bool (decide (M256 ≤ L + s))]
  | 5 => v = .tuple #[.agg (wcells (L + s)), .bool (decide (M256 ≤ L + s))]
  | 6 => v = .agg (wcells (L + s))
  | 7 => v = .bool (decide (M256 ≤ L + s))
  | 8 => ∃ g cs, v = .pointer (some ⟨g, 0, none⟩) ∧ B0 ≤ g ∧ cs.size = 4 ∧ Row w g 24 cs
  | 9 => ∃ g, v = .pointer (some ⟨g, 0, none⟩) ∧ B0 ≤ g ∧ Row w g 24 (wcells (L + s))
  | 10 => v = .bool (decide (M256 ≤ L + s))
  | _ => True
theorem powPr_mono {B0 t L s : Nat} {nv : Value} : ∀ i w w' v, Below w.heap.size w w' → powPr B0 t L s nv i w v → powPr B0 t L s nv i w' v := by
  intro i w w' v hb h
  unfold powPr at *
  split at h <;> first | exact h | exact trivial | skip
  · obtain ⟨g, cs, h1, h2, h3, h4⟩ := h; exact ⟨g, cs, h1, h2, h3, h4.below hb h4.lt⟩
  · obtain ⟨g, h1, h2, h4⟩ := h; exact ⟨g, h1, h2, h4.below hb h4.lt⟩
theorem powPr_wrote {B0 t L s g : Nat} {nv : Value} {w w' : World} (hw : Wrote g w w') (hr : Row w' g 24 (wcells (L + s))) : ∀ i v, powPr B0 t L s nv i w v → powPr B0 t L s nv i w' v := by
  intro i v h
  unfold powPr at *
  split at h <;> first | exact h | exact trivial | skip
  · obtain ⟨g', cs, h1, h2, h3, h4⟩ := h
    by_cases e : g' = g
    · subst e; exact ⟨g', _, h1, h2, wcells_size _, hr⟩
    · exact ⟨g', cs, h1, h2, h3, hw.row h4 e⟩
  · obtain ⟨g', h1, h2, h4⟩ := h
    by_cases e : g' = g
    · subst e; exact ⟨g', h1, h2, hr⟩
    · exact ⟨g', h1, h2, hw.row h4 e⟩

set_option maxRecDepth 100000 in
set_option maxHeartbeats 8000000 in
theorem WidePowers_in (a : Nat) (ma : a < M256) (N : Nat) (hN : N ≤ 255) (w : World) :
    Calls Try.prog 9 #[WV a, .int .i64 (N : Int)] w fun e w' => e = .returned (.bool true) ∧ Below w.heap.size w w' := by
  have hM0 := mem_nil w
  obtain ⟨n1, H1⟩ : ∃ n, Hid (n = 1) := ⟨1, Lib.hid rfl⟩
  obtain ⟨one, Hone⟩ : ∃ n, Hid (n = 2 ^ N) := ⟨2 ^ N, Lib.hid rfl⟩
  obtain ⟨t, Ht⟩ : ∃ n, Hid (n = a / 2 ^ N) := ⟨_, Lib.hid rfl⟩
  obtain ⟨s, Hs⟩ : ∃ n, Hid (n = a % 2 ^ N) := ⟨_, Lib.hid rfl⟩
  obtain ⟨L, HL⟩ : ∃ n, Hid (n = t * 2 ^ N) := ⟨_, Lib.hid rfl⟩
  obtain ⟨bb, Hbb⟩ : ∃ b, Hid (decide (a < 2 ^ N) = b) := ⟨_, Lib.hid rfl⟩
  have h1 : n1 < 18446744073709551616 := by rw [H1.out]; decide
  have E1 : (1 : Int) = (n1 : Int) := by rw [H1.out]; rfl
  replace E1 := Lib.hid E1
  have hone : n1 * 2 ^ (N : Int).toNat = one := by rw [H1.out, Nat.one_mul, Hone.out]; rfl
  have mone : one < M256 := by rw [Hone.out]; exact Nat.lt_of_le_of_lt (Nat.pow_le_pow_right (by decide) hN) (by decide)
  have ht : a / one = t := by rw [Hone.out, Ht.out]
  have hs : a % one = s := by rw [Hone.out, Hs.out]
  have hLs : L + s = a := by rw [HL.out, Ht.out, Hs.out, Nat.mul_comm]; exact Nat.div_add_mod a (2 ^ N)
  have mL : L < M256 := by omega
  have ms : s < M256 := by omega
  have mt : t < M256 := by rw [Ht.out]; exact Nat.lt_of_le_of_lt (Nat.div_le_self _ _) ma
  have hb1 : (blen one : Int) = (N : Int) + 1 := by
    rw [Hone.out, blen_unique (2 ^ N) (N + 1) (Nat.pow_lt_pow_right (by decide) (by omega)) (.inr (by simp))]; rfl
  replace hb1 := Lib.hid hb1
  have F1 := Lib.hid (show decide (t % M256 = a / 2 ^ (N : Int).toNat % M256) = true by rw [Ht.out]; simp)
  have F2 := Lib.hid (show decide (a * one % M256 = a * 2 ^ (N : Int).toNat % M256) = true by rw [Hone.out]; simp)
  have F3 := Lib.hid (show decide ((L + s) % M256 = a % M256) = true by rw [hLs]; simp)
  have F4 := Lib.hid (show decide ((blen s : Int) ≤ (N : Int)) = true by
    have h := (blen_le s N).2 (by rw [Hs.out]; exact Nat.mod_lt _ (Nat.pow_pos (by decide)))
    exact decide_eq_true (by omega))
  have F5 := Lib.hid (show decide (t % M256 = 0 % M256) = bb by
    rw [← Hbb.out, Nat.mod_eq_of_lt mt, Nat.zero_mod, Ht.out, decide_eq_decide]
    exact Nat.div_eq_zero_iff_lt (Nat.pow_pos (by decide)))
  have F6 := Lib.hid (show decide ((blen a : Int) ≤ (N : Int)) = bb by
    rw [← Hbb.out, decide_eq_decide, ← blen_le]; omega)
  have hd1 : decide ((N : Int) < 0) = false := by simp
  have hd2 : decide ((N : Int) > 255) = false := by simp; omega
  replace hLs := Lib.hid hLs
  unfold WV
  go_enter Try.func9, Try.ntmps9
  go_wp2_with (first
    | ((with_reducible change wpList _ _ _ (Oper.mk (some 2) _ _ _ _ _ :: _) _ _); refine mBox hM0 _ _ rfl rfl rfl ?_; intro w1 hM1; clear hM0; go_frame)
    | (go_at_call 14; refine (wideAlive_any _).mono ?_; rintro e w2 ⟨rfl, hB2⟩; have hM2 := hM1.on hB2; clear hB2 hM1; (try unfold WV); go_frame)
    | (go_at_call 11; refine (wOf_lit n1 1 h1 E1.out _).mono ?_; rintro e w3 ⟨rfl, hB3⟩; have hM3 := hM2.on hB3; clear hB3 hM2; (try unfold WV); go_frame)
    | (go_at_call 16; refine (wLeft_any n1 (N : Int) (by omega) _).mono ?_; rintro e w4 ⟨rfl, hB4⟩; have hM4 := hM3.on hB4; clear hB4 hM3; (try unfold WV); rw [hone]; go_frame)
    | ((with_reducible change wpList _ _ _ (Oper.mk (some 5) _ _ _ _ _ :: _) _ _); refine mAlloc hM4 rfl rfl ?_; intro w5 hM5; clear hM4; go_frame)
    | ((with_reducible change wpList _ _ _ (Oper.mk none (Op.store _ (Operand.tmp 5) _) _ _ _ _ :: _) _ _); refine mStore0 hM5 _ _ (one) rfl rfl rfl rfl ?_; intro w6 hM6; clear hM5; go_frame)
    | ((with_reducible change wpList _ _ _ (Oper.mk (some 24) _ _ _ _ _ :: _) _ _); refine mLoad hM6 1 _ _ _ rfl rfl rfl rfl ?_; go_frame)
    | ((with_reducible change wpList _ _ _ (Oper.mk (some 25) _ _ _ _ _ :: _) _ _); refine mLoad hM6 0 _ _ _ rfl rfl rfl rfl ?_; go_frame)
    | (go_at_call 12; refine (wDiv_mod a one ma mone _).mono ?_; rintro e w7 ⟨rfl, hB7⟩; have hM7 := hM6.on hB7; clear hB7 hM6; (try unfold WV); rw [ht, hs]; go_frame)
    | ((with_reducible change wpList _ _ _ (Oper.mk (some 6) _ _ _ _ _ :: _) _ _); refine mAlloc hM7 rfl rfl ?_; intro w8 hM8; clear hM7; go_frame)
    | ((with_reducible change wpList _ _ _ (Oper.mk (some 7) _ _ _ _ _ :: _) _ _); refine mAlloc hM8 rfl rfl ?_; intro w9 hM9; clear hM8; go_frame)
    | ((with_reducible change wpList _ _ _ (Oper.mk none (Op.store _ (Operand.tmp 6) _) _ _ _ _ :: _) _ _); refine mStore1 hM9 _ _ (t) rfl rfl rfl rfl ?_; intro w10 hM10; clear hM9; go_frame)
    | ((with_reducible change wpList _ _ _ (Oper.mk none (Op.store _ (Operand.tmp 7) _) _ _ _ _ :: _) _ _); refine mStore0 hM10 _ _ (s) rfl rfl rfl rfl ?_; intro w11 hM11; clear hM10; go_frame)
    | ((with_reducible change wpList _ _ _ (Oper.mk (some 30) _ _ _ _ _ :: _) _ _); refine mLoad hM11 3 _ _ _ rfl rfl rfl rfl ?_; go_frame)
    | ((with_reducible change wpList _ _ _ (Oper.mk (some 31) _ _ _ _ _ :: _) _ _); refine mLoad hM11 2 _ _ _ rfl rfl rfl rfl ?_; go_frame)
    | (go_at_call 13; refine (wMul_any a one ma mone _).mono ?_; rintro e w12 ⟨rfl, hB12⟩; have hM12 := hM11.on hB12; clear hB12 hM11; (try unfold WV); go_frame)
    | ((with_reducible change wpList _ _ _ (Oper.mk (some 8) _ _ _ _ _ :: _) _ _); refine mAlloc hM12 rfl rfl ?_; intro w13 hM13; clear hM12; go_frame)
    | ((with_reducible change wpList _ _ _ (Oper.mk (some 9) _ _ _ _ _ :: _) _ _); refine mAlloc hM13 rfl rfl ?_; intro w14 hM14; clear hM13; go_frame)
    | ((with_reducible change wpList _ _ _ (Oper.mk none (Op.store _ (Operand.tmp 8) _) _ _ _ _ :: _) _ _); refine mStore1 hM14 _ _ (a * one) rfl rfl rfl rfl ?_; intro w15 hM15; clear hM14; go_frame)
    | ((with_reducible change wpList _ _ _ (Oper.mk none (Op.store _ (Operand.tmp 9) _) _ _ _ _ :: _) _ _); refine mStore0 hM15 _ _ (a * one / M256) rfl rfl rfl rfl ?_; intro w16 hM16; clear hM15; go_frame))
  refine region_inv2 (fun _ => 8) (powPr w16.heap.size t L s (.int .i64 (N : Int))) (by kernel_rfl) (by kernel_rfl) (steps_all ⟨?_, ?_, ?_, ?_, ?_, ?_, ?_, ?_, ?_, ?_, ?_, trivial⟩) ?fin
  case fin =>
    intro A w17 hsz hdf hbel hoth hall
    obtain ⟨tm, df⟩ := A
    have htm := arr_tab tm 83 (hsz.trans rfl)
    obtain ⟨f, hf⟩ : ∃ f : Nat → Value, ∀ s, tm.getD s undef = f s := ⟨fun s => tm.getD s undef, fun _ => rfl⟩
    simp only [hf] at htm
    have e1 : f 1 = .int .i64 (N : Int) := (hf 1).symm.trans ((hoth 1 (free2_of (by kernel_rfl))).trans rfl)
    have e2 : f 2 = .pointer (some ⟨w.heap.size, 0, none⟩) := (hf 2).symm.trans ((hoth 2 (free2_of (by kernel_rfl))).trans rfl)
    have e4 : f 4 = .bool false := (hf 4).symm.trans ((hoth 4 (free2_of (by kernel_rfl))).trans rfl)
    have e5 : f 5 = .pointer (some ⟨w4.heap.size, 0, none⟩) := (hf 5).symm.trans ((hoth 5 (free2_of (by kernel_rfl))).trans rfl)
    have e6 : f 6 = .pointer (some ⟨w7.heap.size, 0, none⟩) := (hf 6).symm.trans ((hoth 6 (free2_of (by kernel_rfl))).trans rfl)
    have e7 : f 7 = .pointer (some ⟨w8.heap.size, 0, none⟩) := (hf 7).symm.trans ((hoth 7 (free2_of (by kernel_rfl))).trans rfl)
    have e8 : f 8 = .pointer (some ⟨w12.heap.size, 0, none⟩) := (hf 8).symm.trans ((hoth 8 (free2_of (by kernel_rfl))).trans rfl)
    obtain ⟨g, e10, hg, hRg⟩ : ∃ g, f 10 = .pointer (some ⟨g, 0, none⟩) ∧ w16.heap.size ≤ g ∧ Row w17 g 24 (wcells (L + s)) := (by rw [← hf 10]; have h := hall 9 (by decide); exact h)
    have hdf' : df = [] := hdf
    have elit : tab 83 f = (f 0 :: f 1 :: f 2 :: f 3 :: f 4 :: f 5 :: f 6 :: f 7 :: f 8 :: f 9 :: f 10 :: f 11 :: f 12 :: f 13 :: f 14 :: f 15 :: f 16 :: f 17 :: f 18 :: f 19 :: f 20 :: f 21 :: f 22 :: f 23 :: f 24 :: f 25 :: f 26 :: f 27 :: f 28 :: f 29 :: f 30 :: f 31 :: f 32 :: f 33 :: f 34 :: f 35 :: f 36 :: f 37 :: f 38 :: f 39 :: f 40 :: f 41 :: f 42 :: f 43 :: f 44 :: f 45 :: f 46 :: f 47 :: f 48 :: f 49 :: f 50 :: f 51 :: f 52 :: f 53 :: f 54 :: f 55 :: f 56 :: f 57 :: f 58 :: f 59 :: f 60 :: f 61 :: f 62 :: f 63 :: f 64 :: f 65 :: f 66 :: f 67 :: f 68 :: f 69 :: f 70 :: f 71 :: f 72 :: f 73 :: f 74 :: f 75 :: f 76 :: f 77 :: f 78 :: f 79 :: f 80 :: f 81 :: f 82 :: ([] : List Value)).toArray := rfl
    rw [e1, e2, e4, e5, e6, e7, e8, e10] at elit
    rw [elit] at htm
    subst htm
    subst hdf'
    clear hsz hdf hoth hall hf elit e1 e2 e4 e5 e6 e7 e8 e10
    have hMx := hM16.add hbel hg hRg
    clear hM16 hbel hRg hg
    go_wp2_with fail
    refine region_below_tail 40 (by kernel_rfl) (by kernel_rfl) ?_
    simp only [List.take_succ_cons, List.take_zero, List.drop_succ_cons, List.drop_zero]
    repeat (first
      | ((with_reducible change wpQuiet _ _ _ _ (Oper.mk (some 43) _ _ _ _ _ :: _) _); refine qLoadM hMx 5 _ _ _ rfl rfl rfl rfl ?_; go_frame)
      | ((with_reducible change wpQuiet _ _ _ _ (Oper.mk (some 49) _ _ _ _ _ :: _) _); refine qLoadM hMx 4 _ _ _ rfl rfl rfl rfl ?_; go_frame)
      | ((with_reducible change wpQuiet _ _ _ _ (Oper.mk (some 50) _ _ _ _ _ :: _) _); refine qLoadM hMx 6 _ _ _ rfl rfl rfl rfl ?_; go_frame)
      | ((with_reducible change wpQuiet _ _ _ _ (Oper.mk (some 56) _ _ _ _ _ :: _) _); refine qLoadM hMx 2 _ _ _ rfl rfl rfl rfl ?_; go_frame)
      | ((with_reducible change wpQuiet _ _ _ _ (Oper.mk (some 57) _ _ _ _ _ :: _) _); refine qLoadM hMx 6 _ _ _ rfl rfl rfl rfl ?_; go_frame)
      | ((with_reducible change wpQuiet _ _ _ _ (Oper.mk (some 63) _ _ _ _ _ :: _) _); refine qLoadM hMx 0 _ _ _ rfl rfl rfl rfl ?_; go_frame)
      | ((with_reducible change wpQuiet _ _ _ _ (Oper.mk (some 64) _ _ _ _ _ :: _) _); refine qLoadM hMx 6 _ _ _ rfl rfl rfl rfl ?_; go_frame)
      | ((with_reducible change wpQuiet _ _ _ _ (Oper.mk (some 68) _ _ _ _ _ :: _) _); refine qLoadM hMx 3 _ _ _ rfl rfl rfl rfl ?_; go_frame)
      | ((with_reducible change wpQuiet _ _ _ _ (Oper.mk (some 74) _ _ _ _ _ :: _) _); refine qLoadM hMx 6 _ _ _ rfl rfl rfl rfl ?_; go_frame)
      | ((with_reducible change wpQuiet _ _ _ _ (Oper.mk (some 78) _ _ _ _ _ :: _) _); refine qLoadM hMx 4 _ _ _ rfl rfl rfl rfl ?_; go_frame)
      | ((with_reducible change wpQuiet _ _ _ _ (Oper.mk (some 53) _ _ _ _ _ :: _) _); refine qEqlW _ _ _ t (a / 2 ^ (N : Int).toNat) true rfl rfl rfl rfl F1.out ?_; go_frame)
      | ((with_reducible change wpQuiet _ _ _ _ (Oper.mk (some 60) _ _ _ _ _ :: _) _); refine qEqlW _ _ _ (a * one) (a * 2 ^ (N : Int).toNat) true rfl rfl rfl rfl F2.out ?_; go_frame)
      | ((with_reducible change wpQuiet _ _ _ _ (Oper.mk (some 65) _ _ _ _ _ :: _) _); refine qEqlW _ _ _ (L + s) a true rfl rfl rfl rfl F3.out ?_; go_frame)
      | ((with_reducible change wpQuiet _ _ _ _ (Oper.mk (some 80) _ _ _ _ _ :: _) _); refine qEqlW _ _ _ t 0 bb rfl rfl rfl (by rw [lit_zero]; rfl) F5.out ?_; go_frame)
      | ((with_reducible change wpQuiet _ _ _ _ (Oper.mk (some 77) _ _ _ _ _ :: _) _); refine qLeqInt _ _ _ _ _ bb rfl rfl rfl rfl F6.out ?_; go_frame)
      | ((with_reducible change wpQuiet _ _ _ _ (Oper.mk (some 71) _ _ _ _ _ :: _) _); refine qLeqInt _ _ _ _ _ true rfl rfl rfl rfl F4.out ?_; go_frame)
      | ((with_reducible change wpQuiet _ _ _ _ (Oper.mk (some 81) _ _ _ _ _ :: _) _); refine qEqlBool _ _ _ _ bb bb true rfl rfl rfl rfl Try.underlying4 (by simp) ?_; go_frame)
      | go_big_quiet_step (first
        | (go_at_call 15; (with_reducible change Calls _ _ #[Value.agg (wcells one)] _ _); exact Calls.regrown_of (wBits_val one _ _ mone rfl hb1.out _))
        | (go_at_call 15; (with_reducible change Calls _ _ #[Value.agg (wcells s)] _ _); exact Calls.regrown_of (wBits_any s ms _))
        | (go_at_call 15; (with_reducible change Calls _ _ #[Value.agg (wcells a)] _ _); exact Calls.regrown_of (wBits_any a ma _))
        | (go_at_call 17; exact Calls.regrown_of (wRight_any a (N : Int) ma (by omega) _))
        | (go_at_call 16; exact Calls.regrown_of (wLeft_any a (N : Int) (by omega) _))))
    refine wpQuiet_nil ?_
    rintro _ ⟨p, rfl⟩
    have hbr := below_regrown w17 p.d p.os
    have hB := hMx.below.trans (hbr.mono hMx.size)
    go_wp2
    go_ret
    exact ⟨rfl, hB⟩
  · intro A w hsz hoth hbel hdep
    exact kLoadRow _ _ _ _ _ _ rfl rfl ((hoth 6 (free2_of (by kernel_rfl))).trans rfl) ((hM16.get 3 rfl).below hbel (hM16.get 3 rfl).lt) Try.underlying24 rfl (info_WideC _) (stepV powPr_mono hbel hsz rfl rfl (show 36 < 83 by decide) (Below.refl _ _) rfl)
  · intro A w hsz hoth hbel hdep
    exact kMoveV _ (.int .i64 (N : Int)) rfl rfl ((hoth 1 (free2_of (by kernel_rfl))).trans rfl) (stepV powPr_mono hbel hsz rfl rfl (show 37 < 83 by decide) (Below.refl _ _) rfl)
  · intro A w hsz hoth hbel hdep
    have d0 : A.tmps.getD 36 undef = .agg (wcells t) := (by have h := hdep ⟨0, .data⟩ (by simp) rfl; exact h)
    have d1 : A.tmps.getD 37 undef = .int .i64 (N : Int) := (by have h := hdep ⟨1, .data⟩ (by simp) rfl; exact h)
    refine kCall2 16 _ _ _ _ _ rfl rfl (by kernel_rfl) d0 d1 ?_
    refine (wLeft_any t (N : Int) (by omega) w).mono ?_
    rintro e r ⟨rfl, hBc⟩
    exact ⟨_, rfl, stepV powPr_mono hbel hsz rfl rfl (show 38 < 83 by decide) hBc (show WV (t * 2 ^ (N : Int).toNat) = .agg (wcells L) by rw [HL.out]; rfl)⟩
  · intro A w hsz hoth hbel hdep
    exact kLoadRow _ _ _ _ _ _ rfl rfl ((hoth 7 (free2_of (by kernel_rfl))).trans rfl) ((hM16.get 2 rfl).below hbel (hM16.get 2 rfl).lt) Try.underlying24 rfl (info_WideC _) (stepV powPr_mono hbel hsz rfl rfl (show 39 < 83 by decide) (Below.refl _ _) rfl)
  · intro A w hsz hoth hbel hdep
    have d2 : A.tmps.getD 38 undef = .agg (wcells L) := (by have h := hdep ⟨2, .data⟩ (by simp) rfl; exact h)
    have d3 : A.tmps.getD 39 undef = .agg (wcells s) := (by have h := hdep ⟨3, .data⟩ (by simp) rfl; exact h)
    refine kCall2 20 _ _ _ _ _ rfl rfl (by kernel_rfl) d2 d3 ?_
    refine (wAdd_any L s mL ms w).mono ?_
    rintro e r ⟨rfl, hBc⟩
    exact ⟨_, rfl, stepV powPr_mono hbel hsz rfl rfl (show 40 < 83 by decide) hBc rfl⟩
  · intro A w hsz hoth hbel hdep
    have d4 : A.tmps.getD 40 undef = .tuple #[.agg (wcells (L + s)), .bool (decide (M256 ≤ L + s))] := (by have h := hdep ⟨4, .data⟩ (by simp) rfl; exact h)
    exact kMoveV _ _ rfl rfl d4 (stepV powPr_mono hbel hsz rfl rfl (show 35 < 83 by decide) (Below.refl _ _) rfl)
  · intro A w hsz hoth hbel hdep
    have d5 : A.tmps.getD 35 undef = .tuple #[.agg (wcells (L + s)), .bool (decide (M256 ≤ L + s))] := (by have h := hdep ⟨5, .data⟩ (by simp) rfl; exact h)
    exact kExtract _ _ _ (.agg (wcells (L + s))) rfl rfl d5 rfl (stepV powPr_mono hbel hsz rfl rfl (show 41 < 83 by decide) (Below.refl _ _) rfl)
  · intro A w hsz hoth hbel hdep
    have d5 : A.tmps.getD 35 undef = .tuple #[.agg (wcells (L + s)), .bool (decide (M256 ≤ L + s))] := (by have h := hdep ⟨5, .data⟩ (by simp) rfl; exact h)
    exact kExtract _ _ _ (.bool (decide (M256 ≤ L + s))) rfl rfl d5 rfl (stepV powPr_mono hbel hsz rfl rfl (show 42 < 83 by decide) (Below.refl _ _) rfl)
  · intro A w hsz hoth hbel hdep
    refine kAllocL _ _ rfl rfl zero_Wide ?_
    intro r hR hl hBc
    exact stepV powPr_mono hbel hsz rfl rfl (show 10 < 83 by decide) hBc ⟨w.heap.size, _, rfl, hbel.size, wcells_size _, hR⟩
  · intro A w hsz hoth hbel hdep
    have d6 : A.tmps.getD 41 undef = .agg (wcells (L + s)) := (by have h := hdep ⟨6, .data⟩ (by simp) rfl; exact h)
    obtain ⟨g, cs, d8, hg, hcs, hR⟩ : ∃ g cs, A.tmps.getD 10 undef = .pointer (some ⟨g, 0, none⟩) ∧ w16.heap.size ≤ g ∧ cs.size = 4 ∧ Row w g 24 cs := (by have h := hdep ⟨8, .data⟩ (by simp) rfl; exact h)
    refine kStoreRow _ _ _ _ _ _ _ rfl rfl d8 d6 hR (info_WideC _) (by rw [wcells_size, hcs]) (wcells_one _) ?_
    intro r hR2 hW
    exact mixOn ⟨_, rfl, hbel.trans (hW.below hg), powPr_wrote hW hR2, ⟨g, d8, hg, hR2⟩⟩
  · intro A w hsz hoth hbel hdep
    have d7 : A.tmps.getD 42 undef = .bool (decide (M256 ≤ L + s)) := (by have h := hdep ⟨7, .data⟩ (by simp) rfl; exact h)
    exact kAssignV _ _ rfl rfl d7 (stepV powPr_mono hbel hsz rfl rfl (show 11 < 83 by decide) (Below.refl _ _) rfl)

set_option maxRecDepth 100000 in
set_option maxHeartbeats 2000000 in
theorem WidePowers_out (a : Nat) (z : Int) (hz : z < 0 ∨ z > 255) (w : World) :
    Calls Try.prog 9 #[WV a, .int .i64 z] w fun e w' => e = .returned (.bool true) ∧ Below w.heap.size w w' := by
  have hM0 := mem_nil w
  unfold WV
  by_cases h : z < 0
  · have hd1 : decide (z < 0) = true := by simpa using h
    go_enter Try.func9, Try.ntmps9
    go_wp2_with (first
      | ((with_reducible change wpList _ _ _ (Oper.mk (some 2) _ _ _ _ _ :: _) _ _); refine mBox hM0 _ _ rfl rfl rfl ?_; intro w1 hM1; clear hM0; go_frame)
      | (go_at_call 14; refine (wideAlive_any _).mono ?_; rintro e w2 ⟨rfl, hB2⟩; have hM2 := hM1.on hB2; clear hB2 hM1; go_frame))
    go_ret
    exact ⟨rfl, hM2.below⟩
  · have hd1 : decide (z < 0) = false := by simpa using h
    have hd2 : decide (z > 255) = true := by simp; omega
    go_enter Try.func9, Try.ntmps9
    go_wp2_with (first
      | ((with_reducible change wpList _ _ _ (Oper.mk (some 2) _ _ _ _ _ :: _) _ _); refine mBox hM0 _ _ rfl rfl rfl ?_; intro w1 hM1; clear hM0; go_frame)
      | (go_at_call 14; refine (wideAlive_any _).mono ?_; rintro e w2 ⟨rfl, hB2⟩; have hM2 := hM1.on hB2; clear hB2 hM1; go_frame))
    go_ret
    exact ⟨rfl, hM2.below⟩

theorem WidePowers_any (a : Nat) (ma : a < M256) (z : Int) (hz : -9223372036854775808 ≤ z ∧ z ≤ 9223372036854775807) (w : World) :
    Calls Try.prog 9 #[WV a, .int .i64 z] w fun e w' => e = .returned (.bool true) ∧ Below w.heap.size w w' := by
  by_cases h : 0 ≤ z ∧ z ≤ 255
  · obtain ⟨N, rfl⟩ := Int.eq_ofNat_of_zero_le h.1
    exact WidePowers_in a ma N (by omega) w
  · exact WidePowers_out a z (by omega) w
end Go.Proofs.Ytehklogmeinocaa
