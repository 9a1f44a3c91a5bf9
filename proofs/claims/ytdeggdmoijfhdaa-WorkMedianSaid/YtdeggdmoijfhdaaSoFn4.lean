/-
  Layer 12: the sort: breakPatterns: it exchanges within its bounds.
-/
import Derived.Test.YtdeggdmoijfhdaaSoFn3
import Derived.Test.YtdeggdmoijfhdaaKitE
namespace Go.Proofs.Ytdeggdmoijfhdaa
open Go Go.RowKit

section
variable {P : Program} {ops : Array Oper} {o : Oper} {a : Act} {S : World → Prop}
theorem yShlI (k : IntKind) (T T2 : TypeId) (x y : Operand) (n e z : Nat) (hz : n * 2 ^ e = z ∧ e ≤ k.bits ∧ k.wrap (n * 2 ^ e : Nat) = (n * 2 ^ e : Nat)) (ho : o.op = .binOp .shl T x y T2) (hg : Region.wanted o (yielded ops a.tmps) = true) (hx : a.eval x = .int k (n : Int)) (hy : a.eval y = .int .i64 (e : Int)) : YieldsIf P ops S o (.int k (z : Int)) a :=
  yOf hg fun w _ => by
    obtain ⟨rfl, h1, h2⟩ := hz
    rw [Int.natCast_mul, Int.natCast_pow] at h2
    unfold execOp; simp only [ho, hx, hy]; simp [eqGuard, binOp, Op.shift, Nat.min_eq_left h1]
    rw [if_neg (by omega)]
    have h3 : k.wrap ((n : Int) * 2 ^ e) = (n : Int) * 2 ^ e := h2
    rw [h3]
theorem yShlU (T T2 : TypeId) (x y : Operand) (n e z : Nat) (hz : n * 2 ^ e % 18446744073709551616 = z ∧ e ≤ 64) (ho : o.op = .binOp .shl T x y T2) (hg : Region.wanted o (yielded ops a.tmps) = true) (hx : a.eval x = .int .u64 (n : Int)) (hy : a.eval y = .int .u64 (e : Int)) : YieldsIf P ops S o (.int .u64 (z : Int)) a :=
  yOf hg fun w _ => by
    obtain ⟨rfl, h1⟩ := hz
    have h2 : min e IntKind.u64.bits = e := Nat.min_eq_left h1
    unfold execOp; simp only [ho, hx, hy]; simp [eqGuard, binOp, Op.shift, h2]
    exact IntKind.wrap_u64 _
theorem yXorU (T T2 : TypeId) (x y : Operand) (m n z : Nat) (hz : m ^^^ n = z ∧ m < 18446744073709551616 ∧ n < 18446744073709551616) (ho : o.op = .binOp .xor T x y T2) (hg : Region.wanted o (yielded ops a.tmps) = true) (hx : a.eval x = .int .u64 (m : Int)) (hy : a.eval y = .int .u64 (n : Int)) : YieldsIf P ops S o (.int .u64 (z : Int)) a :=
  yOf hg fun w _ => by
    obtain ⟨rfl, h1, h2⟩ := hz
    have e1 : (BitVec.ofNat 64 m ^^^ BitVec.ofNat 64 n).toNat = m ^^^ n := by
      rw [BitVec.toNat_xor, BitVec.toNat_ofNat, BitVec.toNat_ofNat, Nat.mod_eq_of_lt h1, Nat.mod_eq_of_lt h2]
    have h3 : m ^^^ n < 18446744073709551616 := Nat.xor_lt_two_pow (n := 64) h1 h2
    unfold execOp; simp only [ho, hx, hy]; simp [eqGuard, binOp, Op.intBits, IntKind.bits]
    exact (congrArg (fun z : Nat => IntKind.u64.wrap (z : Int)) e1).trans (by rw [IntKind.wrap_u64]; omega)
theorem yAndU (T T2 : TypeId) (x y : Operand) (m n z : Nat) (hz : m &&& n = z ∧ m < 18446744073709551616 ∧ n < 18446744073709551616) (ho : o.op = .binOp .and T x y T2) (hg : Region.wanted o (yielded ops a.tmps) = true) (hx : a.eval x = .int .u64 (m : Int)) (hy : a.eval y = .int .u64 (n : Int)) : YieldsIf P ops S o (.int .u64 (z : Int)) a :=
  yOf hg fun w _ => by
    obtain ⟨rfl, h1, h2⟩ := hz
    have e1 : (BitVec.ofNat 64 m &&& BitVec.ofNat 64 n).toNat = m &&& n := by
      rw [BitVec.toNat_and, BitVec.toNat_ofNat, BitVec.toNat_ofNat, Nat.mod_eq_of_lt h1, Nat.mod_eq_of_lt h2]
    have h3 : m &&& n < 18446744073709551616 := Nat.lt_of_le_of_lt Nat.and_le_left h1
    unfold execOp; simp only [ho, hx, hy]; simp [eqGuard, binOp, Op.intBits, IntKind.bits]
    exact (congrArg (fun z : Nat => IntKind.u64.wrap (z : Int)) e1).trans (by rw [IntKind.wrap_u64]; omega)
theorem ySubN (k : IntKind) (T T2 : TypeId) (x y : Operand) (m n z : Nat) (hz : m = n + z ∧ k.wrap (z : Nat) = (z : Nat)) (ho : o.op = .binOp .sub T x y T2) (hg : Region.wanted o (yielded ops a.tmps) = true) (hx : a.eval x = .int k (m : Int)) (hy : a.eval y = .int k (n : Int)) : YieldsIf P ops S o (.int k (z : Int)) a :=
  yOf hg fun w _ => by
    obtain ⟨rfl, h1⟩ := hz
    have e : k.wrap (((n + z : Nat) : Int) - (n : Int)) = (z : Int) := by rw [show ((n + z : Nat) : Int) - (n : Int) = (z : Int) by omega]; exact h1
    unfold execOp; simp only [ho, hx, hy]; simp [eqGuard, binOp, Op.intArith]
    simpa using e
end
set_option maxRecDepth 100000 in
theorem bitsLen_as {n r : Nat} (hn : n < 18446744073709551616) (hr : blen n = r) (w : World) : Calls Try.prog 57 #[.int .u64 (n : Int)] w fun e w' => e = .returned (.int .i64 (r : Int)) ∧ w = w' := by
  subst hr
  go_enter Try.func57, Try.ntmps57
  go_wp2_with (first
    | (go_at_call 30; refine (Len64_any n hn _).mono ?_; rintro e w1 ⟨rfl, rfl⟩; go_frame))
  go_ret
  exact ⟨rfl, rfl⟩
set_option maxRecDepth 100000 in
theorem sNextPow_as {l r m : Nat} (hl : l ≤ 50) (hr : blen l = r) (hm : 1 * 2 ^ r = m) (w : World) : Calls Try.prog 71 #[.int .i64 (l : Int)] w fun e w' => e = .returned (.int .u64 (m : Int)) ∧ w = w' := by
  have hr6 : r ≤ 6 := by rw [← hr]; exact (blen_le l 6).2 (by omega)
  have h2 : 2 ^ r ≤ 2 ^ 6 := Nat.pow_le_pow_right (by decide) hr6
  have f4 : Hid (IntKind.u64.wrap (l : Int) = (l : Int)) := Lib.hid (wrap_u64N (by omega))
  have f6 : Hid (1 * 2 ^ r = m ∧ r ≤ IntKind.u64.bits ∧ IntKind.u64.wrap (1 * 2 ^ r : Nat) = (1 * 2 ^ r : Nat)) := Lib.hid ⟨hm, Nat.le_trans hr6 (by decide), wrap_u64N (by omega)⟩
  clear hm h2
  go_enter Try.func71, Try.ntmps71
  go_wp2_with (first
    | ((with_reducible change wpList _ _ _ (Oper.mk (some 4) _ _ _ _ _ :: _) _ _); refine kYw (yConvK Try.underlying3 Try.underlying55 _ (l : Int) (l : Int) f4.out rfl rfl rfl) ?_; go_frame)
    | (go_at_call 57; refine (bitsLen_as (by omega) hr _).mono ?_; rintro e w1 ⟨rfl, rfl⟩; go_frame)
    | ((with_reducible change wpList _ _ _ (Oper.mk (some 6) _ _ _ _ _ :: _) _ _); refine kYw (yShlI .u64 _ _ _ _ 1 r m f6.out rfl rfl rfl rfl) ?_; go_frame))
  go_ret
  exact ⟨rfl, rfl⟩
/-- a number that is stirred, in a row of its own -/
def Rnd (w : World) (s v : Nat) : Prop := Row w s 99 #[.int .u64 (v : Int)]
theorem Rnd.lt {w : World} {s c : Nat} (h : Rnd w s c) : s < w.heap.size := Row.lt h
theorem Rnd.below {B : Nat} {w w' : World} {s c : Nat} (h : Rnd w s c) (hb : Below B w w') (hs : s < B) : Rnd w' s c := Row.below h hb hs
theorem info_xorW : (Try.prog.info? 99).map (·.size) = some 1 := by kernel_rfl
theorem zero_xorW : ((Try.prog.info? 99).bind (·.zero)).map Value.cells = some #[.int .u64 0] := by kernel_rfl
def XorPost (w : World) (s : Nat) (e : Ending) (w' : World) : Prop := ∃ v : Nat, v < 18446744073709551616 ∧ e = .returned (.int .u64 (v : Int)) ∧ Rnd w' s v ∧ Exc s w w'
set_option maxRecDepth 100000 in
set_option maxHeartbeats 16000000 in
theorem sXor_any {s v : Nat} (w : World) (hs : Rnd w s v) (hv : v < 18446744073709551616) : Calls Try.prog 72 #[.pointer (some ⟨s, 0, none⟩)] w (XorPost w s) := by
  have hE := exc_refl s w
  obtain ⟨u1, Hu1⟩ : ∃ u, Hid (v * 2 ^ 13 % 18446744073709551616 = u) := ⟨_, Lib.hid rfl⟩
  obtain ⟨v1, Hv1⟩ : ∃ u, Hid (v ^^^ u1 = u) := ⟨_, Lib.hid rfl⟩
  obtain ⟨u2, Hu2⟩ : ∃ u, Hid (v1 / 2 ^ 7 = u) := ⟨_, Lib.hid rfl⟩
  obtain ⟨v2, Hv2⟩ : ∃ u, Hid (v1 ^^^ u2 = u) := ⟨_, Lib.hid rfl⟩
  obtain ⟨u3, Hu3⟩ : ∃ u, Hid (v2 * 2 ^ 17 % 18446744073709551616 = u) := ⟨_, Lib.hid rfl⟩
  obtain ⟨v3, Hv3⟩ : ∃ u, Hid (v2 ^^^ u3 = u) := ⟨_, Lib.hid rfl⟩
  have b1 : u1 < 18446744073709551616 := by rw [← Hu1.out]; exact Nat.mod_lt _ (by decide)
  have b2 : v1 < 18446744073709551616 := by rw [← Hv1.out]; exact Nat.xor_lt_two_pow (n := 64) hv b1
  have b3 : u2 < 18446744073709551616 := by rw [← Hu2.out]; exact Nat.lt_of_le_of_lt (Nat.div_le_self _ _) b2
  have b4 : v2 < 18446744073709551616 := by rw [← Hv2.out]; exact Nat.xor_lt_two_pow (n := 64) b2 b3
  have b5 : u3 < 18446744073709551616 := by rw [← Hu3.out]; exact Nat.mod_lt _ (by decide)
  have b6 : v3 < 18446744073709551616 := by rw [← Hv3.out]; exact Nat.xor_lt_two_pow (n := 64) b4 b5
  have f9 : Hid (v * 2 ^ 13 % 18446744073709551616 = u1 ∧ 13 ≤ 64) := Lib.hid ⟨Hu1.out, by decide⟩
  have f10 : Hid (v ^^^ u1 = v1 ∧ v < 18446744073709551616 ∧ u1 < 18446744073709551616) := Lib.hid ⟨Hv1.out, hv, b1⟩
  have f18 : Hid (v1 / 2 ^ 7 = u2 ∧ 7 ≤ IntKind.u64.bits) := Lib.hid ⟨Hu2.out, by decide⟩
  have f19 : Hid (v1 ^^^ u2 = v2 ∧ v1 < 18446744073709551616 ∧ u2 < 18446744073709551616) := Lib.hid ⟨Hv2.out, b2, b3⟩
  have f27 : Hid (v2 * 2 ^ 17 % 18446744073709551616 = u3 ∧ 17 ≤ 64) := Lib.hid ⟨Hu3.out, by decide⟩
  have f28 : Hid (v2 ^^^ u3 = v3 ∧ v2 < 18446744073709551616 ∧ u3 < 18446744073709551616) := Lib.hid ⟨Hv3.out, b4, b5⟩
  clear Hu1 Hv1 Hu2 Hv2 Hu3 Hv3
  go_enter Try.func72, Try.ntmps72
  go_wp2
  refine region_mixE [(0, true), (1, true), (2, true), (3, true), (4, true), (5, true), (6, true), (7, true), (8, true)] 9 _ (fun q => Rnd q s v) (by kernel_rfl) (by kernel_rfl) rfl rfl ?_
  intro z1 hBd hsd; clear hsd
  simp only [List.map_cons, List.map_nil]
  dsimp only [List.filterMap, List.getElem?_cons_zero, List.getElem?_cons_succ]
  have hR1 := hs.below hBd hs.lt
  have hF1 := hE.trans (exc_below s hBd)
  clear hBd hs hE
  refine dY _ hR1 (yMove _ (.pointer (some ⟨s, 0, none⟩)) rfl rfl rfl) ?_; go_frame
  refine dY _ hR1 (yNil _ ⟨s, 0, none⟩ rfl rfl rfl) ?_; go_frame
  refine dY _ hR1 (yLoad1 _ _ _ s 0 _ (.int .u64 (v : Int)) _ rfl rfl rfl (fun _ h => h) Try.underlying99 rfl rfl) ?_; go_frame
  refine dY _ hR1 (yMove _ (.pointer (some ⟨s, 0, none⟩)) rfl rfl rfl) ?_; go_frame
  refine dY _ hR1 (yNil _ ⟨s, 0, none⟩ rfl rfl rfl) ?_; go_frame
  refine dY _ hR1 (yLoad1 _ _ _ s 0 _ (.int .u64 (v : Int)) _ rfl rfl rfl (fun _ h => h) Try.underlying99 rfl rfl) ?_; go_frame
  refine dY _ hR1 (yShlU _ _ _ _ v 13 u1 f9.out rfl rfl rfl rfl) ?_; go_frame
  refine dY _ hR1 (yXorU _ _ _ _ v u1 v1 f10.out rfl rfl rfl rfl) ?_; go_frame
  refine dY _ hR1 (yNil _ ⟨s, 0, none⟩ rfl rfl rfl) ?_; go_frame
  refine dDone ?_
  refine kStore1 _ _ _ _ s 0 _ (.int .u64 (v1 : Int)) rfl rfl rfl rfl hR1 info_xorW Nat.zero_lt_one rfl ?_
  intro q1 hq hWn
  have hs1 : Rnd q1 s v1 := hq
  have hE1 := hF1.trans (exc_wrote hWn)
  clear hq hWn hF1 hR1
  go_frame
  (try go_wp2)
  refine region_mixE [(0, true), (1, true), (2, true), (3, true), (4, true), (5, true), (6, true), (7, true), (8, true)] 9 _ (fun q => Rnd q s v1) (by kernel_rfl) (by kernel_rfl) rfl rfl ?_
  intro z2 hBd hsd; clear hsd
  simp only [List.map_cons, List.map_nil]
  dsimp only [List.filterMap, List.getElem?_cons_zero, List.getElem?_cons_succ]
  have hR2 := hs1.below hBd hs1.lt
  have hF2 := hE1.trans (exc_below s hBd)
  clear hBd hs1 hE1
  refine dY _ hR2 (yMove _ (.pointer (some ⟨s, 0, none⟩)) rfl rfl rfl) ?_; go_frame
  refine dY _ hR2 (yNil _ ⟨s, 0, none⟩ rfl rfl rfl) ?_; go_frame
  refine dY _ hR2 (yLoad1 _ _ _ s 0 _ (.int .u64 (v1 : Int)) _ rfl rfl rfl (fun _ h => h) Try.underlying99 rfl rfl) ?_; go_frame
  refine dY _ hR2 (yMove _ (.pointer (some ⟨s, 0, none⟩)) rfl rfl rfl) ?_; go_frame
  refine dY _ hR2 (yNil _ ⟨s, 0, none⟩ rfl rfl rfl) ?_; go_frame
  refine dY _ hR2 (yLoad1 _ _ _ s 0 _ (.int .u64 (v1 : Int)) _ rfl rfl rfl (fun _ h => h) Try.underlying99 rfl rfl) ?_; go_frame
  refine dY _ hR2 (yShrN .u64 _ _ _ _ v1 7 u2 f18.out rfl rfl rfl rfl) ?_; go_frame
  refine dY _ hR2 (yXorU _ _ _ _ v1 u2 v2 f19.out rfl rfl rfl rfl) ?_; go_frame
  refine dY _ hR2 (yNil _ ⟨s, 0, none⟩ rfl rfl rfl) ?_; go_frame
  refine dDone ?_
  refine kStore1 _ _ _ _ s 0 _ (.int .u64 (v2 : Int)) rfl rfl rfl rfl hR2 info_xorW Nat.zero_lt_one rfl ?_
  intro q2 hq hWn
  have hs2 : Rnd q2 s v2 := hq
  have hE2 := hF2.trans (exc_wrote hWn)
  clear hq hWn hF2 hR2
  go_frame
  (try go_wp2)
  refine region_mixE [(0, true), (1, true), (2, true), (3, true), (4, true), (5, true), (6, true), (7, true), (8, true)] 9 _ (fun q => Rnd q s v2) (by kernel_rfl) (by kernel_rfl) rfl rfl ?_
  intro z3 hBd hsd; clear hsd
  simp only [List.map_cons, List.map_nil]
  dsimp only [List.filterMap, List.getElem?_cons_zero, List.getElem?_cons_succ]
  have hR3 := hs2.below hBd hs2.lt
  have hF3 := hE2.trans (exc_below s hBd)
  clear hBd hs2 hE2
  refine dY _ hR3 (yMove _ (.pointer (some ⟨s, 0, none⟩)) rfl rfl rfl) ?_; go_frame
  refine dY _ hR3 (yNil _ ⟨s, 0, none⟩ rfl rfl rfl) ?_; go_frame
  refine dY _ hR3 (yLoad1 _ _ _ s 0 _ (.int .u64 (v2 : Int)) _ rfl rfl rfl (fun _ h => h) Try.underlying99 rfl rfl) ?_; go_frame
  refine dY _ hR3 (yMove _ (.pointer (some ⟨s, 0, none⟩)) rfl rfl rfl) ?_; go_frame
  refine dY _ hR3 (yNil _ ⟨s, 0, none⟩ rfl rfl rfl) ?_; go_frame
  refine dY _ hR3 (yLoad1 _ _ _ s 0 _ (.int .u64 (v2 : Int)) _ rfl rfl rfl (fun _ h => h) Try.underlying99 rfl rfl) ?_; go_frame
  refine dY _ hR3 (yShlU _ _ _ _ v2 17 u3 f27.out rfl rfl rfl rfl) ?_; go_frame
  refine dY _ hR3 (yXorU _ _ _ _ v2 u3 v3 f28.out rfl rfl rfl rfl) ?_; go_frame
  refine dY _ hR3 (yNil _ ⟨s, 0, none⟩ rfl rfl rfl) ?_; go_frame
  refine dDone ?_
  refine kStore1 _ _ _ _ s 0 _ (.int .u64 (v3 : Int)) rfl rfl rfl rfl hR3 info_xorW Nat.zero_lt_one rfl ?_
  intro q3 hq hWn
  have hs3 : Rnd q3 s v3 := hq
  have hE3 := hF3.trans (exc_wrote hWn)
  clear hq hWn hF3 hR3
  go_frame
  go_wp2_with (first
    | ((with_reducible change wpList _ _ _ (Oper.mk (some 31) _ _ _ _ _ :: _) _ _); refine kNilCheck _ ⟨s, 0, none⟩ rfl rfl rfl ?_; go_frame)
    | ((with_reducible change wpList _ _ _ (Oper.mk (some 32) _ _ _ _ _ :: _) _ _); refine kLoad1 _ _ _ s 0 _ (.int .u64 (v3 : Int)) _ rfl rfl rfl hs3 Try.underlying99 rfl rfl ?_; go_frame))
  (try simp only [Exit.inBlock, Exit.then])
  refine ret1W rfl rfl ?_
  exact ⟨v3, b6, rfl, hs3, hE3⟩
theorem pow_blen {l : Nat} (h : 0 < l) : 2 ^ blen l ≤ 2 * l := by
  have h1 := blen_ge l (by omega)
  have h2 := blen_pos l (by omega)
  have h3 : 2 ^ blen l = 2 * 2 ^ (blen l - 1) := by rw [← Nat.pow_succ']; congr 1; omega
  omega
set_option maxRecDepth 100000 in
set_option maxHeartbeats 16000000 in
theorem sBreak_any {g n cap a b : Nat} {d : Array Nat} (w : World) (hD : Dat w g n cap d) (hab : a + 12 < b) (hb : b ≤ n) (hn : n ≤ 50) : Calls Try.prog 61 #[.slice (some ⟨g, 0, none⟩) n cap, .int .i64 (a : Int), .int .i64 (b : Int)] w (SoPost w g n cap fun d' => PermI a b d d') := by
  have hE := exc_refl g w
  obtain ⟨l, Hl⟩ : ∃ l, Hid (b - a = l) := ⟨_, Lib.hid rfl⟩
  obtain ⟨q, Hq⟩ : ∃ q, Hid (l / 4 = q) := ⟨_, Lib.hid rfl⟩
  obtain ⟨r, Hr⟩ : ∃ r, Hid (blen l = r) := ⟨_, Lib.hid rfl⟩
  obtain ⟨m, Hm⟩ : ∃ m, Hid (1 * 2 ^ r = m) := ⟨_, Lib.hid rfl⟩
  obtain ⟨m1, Hm1⟩ : ∃ m1, Hid (m - 1 = m1) := ⟨_, Lib.hid rfl⟩
  have hl := Hl.out
  have hq := Hq.out
  have hm2 : m ≤ 2 * l := by have := pow_blen (l := l) (by omega); rw [← Hm.out, ← Hr.out]; omega
  have hm0 : 0 < m := by rw [← Hm.out, Nat.one_mul]; exact Nat.pow_pos (by decide)
  have d15 : decide ((l : Int) ≥ 8) = true := by simp; omega
  have f17 : Hid (IntKind.u64.wrap (l : Int) = (l : Int)) := Lib.hid (wrap_u64N (by omega))
  have hl50 : l ≤ 50 := by omega
  have hs := hD.size
  replace hl := Lib.hid hl
  replace hq := Lib.hid hq
  go_enter Try.func61, Try.ntmps61
  go_wp2_with (first
    | ((with_reducible change wpList _ _ _ (Oper.mk (some 13) _ _ _ _ _ :: _) _ _); refine kYw (ySubZ _ _ _ _ (b : Int) (a : Int) (l : Int) (by have := hl.out; have := hq.out; omega) rfl rfl rfl rfl) ?_; go_frame)
    | ((with_reducible change wpList _ _ _ (Oper.mk (some 15) _ _ _ _ _ :: _) _ _); refine kYw (yGeqK _ _ _ _ .i64 (l : Int) 8 true d15 rfl rfl rfl rfl) ?_; go_frame)
    | ((with_reducible change wpList _ _ _ (Oper.mk (some 17) _ _ _ _ _ :: _) _ _); refine kYw (yConvK Try.underlying3 Try.underlying99 _ (l : Int) (l : Int) f17.out rfl rfl rfl) ?_; go_frame)
    | ((with_reducible change wpList _ _ _ (Oper.mk (some 7) _ _ _ _ _ :: _) _ _); refine kAllocL _ _ rfl rfl zero_xorW ?_; intro q0 hs0 hzq hBq; clear hzq; have hD0 := hD.below hBq; have hE0 := exc_below g hBq; clear hBq; go_frame)
    | ((with_reducible change wpList _ _ _ (Oper.mk none (Op.store _ _ _) _ _ _ _ :: _) _ _); refine kStore1 _ _ _ _ w.heap.size 0 _ (.int .u64 (l : Int)) rfl rfl rfl rfl hs0 info_xorW Nat.zero_lt_one rfl ?_; intro q1 hq1 hWn; have hR1 : Rnd q1 w.heap.size l := hq1; have hD1 := hD0.other (exc_wrote hWn) (Nat.ne_of_lt hD.lt); have hE1 := exc_new hE0 hWn (Nat.le_refl _); clear hq1 hWn hs0 hD0 hE0; go_frame)
    | (go_at_call 71; refine (sNextPow_as hl50 Hr.out Hm.out _).mono ?_; rintro e q2 ⟨rfl, rfl⟩; go_frame)
    | ((with_reducible change wpList _ _ _ (Oper.mk (some 22) _ _ _ _ _ :: _) _ _); refine kYw (yQuoN .i64 _ _ _ _ l 4 q ⟨(by have := hl.out; have := hq.out; omega), by decide, wrap_i64N (by have := hl.out; have := hq.out; omega)⟩ rfl rfl rfl rfl) ?_; go_frame)
    | ((with_reducible change wpList _ _ _ (Oper.mk (some 23) _ _ _ _ _ :: _) _ _); refine kYw (yMulZ _ _ _ _ (q : Int) 2 ((q * 2 : Nat) : Int) (by have := hl.out; have := hq.out; omega) rfl rfl rfl rfl) ?_; go_frame)
    | ((with_reducible change wpList _ _ _ (Oper.mk (some 24) _ _ _ _ _ :: _) _ _); refine kYw (yAddZ _ _ _ _ (a : Int) ((q * 2 : Nat) : Int) ((a + q * 2 : Nat) : Int) (by have := hl.out; have := hq.out; omega) rfl rfl rfl rfl) ?_; go_frame)
    | ((with_reducible change wpList _ _ _ (Oper.mk (some 25) _ _ _ _ _ :: _) _ _); refine kYw (ySubZ _ _ _ _ ((a + q * 2 : Nat) : Int) 1 ((a + q * 2 - 1 : Nat) : Int) (by have := hl.out; have := hq.out; omega) rfl rfl rfl rfl) ?_; go_frame))
  go_loopw [9] (fun i wr => ∃ (k v : Nat) (dk : Array Nat), a + q * 2 - 1 ≤ k ∧ k ≤ a + q * 2 + 2 ∧ i = .int .i64 (k : Int) ∧ Dat wr g n cap dk ∧ Exc g w wr ∧ Rnd wr w.heap.size v ∧ v < 18446744073709551616 ∧ PermI a b d dk) (fun i _ => 200 - (intOf i).toNat)
  case atStart => exact ⟨a + q * 2 - 1, l, d, Nat.le_refl _, by omega, rfl, hD1, hE1, hR1, by omega, PermI.refl _ _ _⟩
  case round =>
    obtain ⟨k, v, dk, hk1, hk2, rfl, hDk, hEk, hRk, hv, hP⟩ := hrel
    have hgw := Nat.ne_of_lt hD.lt
    clear hD1 hE1 hR1 hE
    by_cases hlt : k ≤ a + q * 2 + 1
    · have d33 : decide ((k : Int) ≤ ((a + q * 2 + 1 : Nat) : Int)) = true := by simp; omega
      have hk3 : a ≤ k ∧ k < b := by have := hl.out; have := hq.out; omega
      have f38 : Hid (m = 1 + m1 ∧ IntKind.u64.wrap (m1 : Nat) = (m1 : Nat)) := Lib.hid ⟨by have := Hm1.out; omega, wrap_u64N (by have := Hm1.out; omega)⟩
      go_wp2_with (first
        | ((with_reducible change wpList _ _ _ (Oper.mk (some 29) _ _ _ _ _ :: _) _ _); refine kYw (yQuoN .i64 _ _ _ _ l 4 q ⟨(by have := hl.out; have := hq.out; omega), by decide, wrap_i64N (by have := hl.out; have := hq.out; omega)⟩ rfl rfl rfl rfl) ?_; go_frame)
        | ((with_reducible change wpList _ _ _ (Oper.mk (some 30) _ _ _ _ _ :: _) _ _); refine kYw (yMulZ _ _ _ _ (q : Int) 2 ((q * 2 : Nat) : Int) (by have := hl.out; have := hq.out; omega) rfl rfl rfl rfl) ?_; go_frame)
        | ((with_reducible change wpList _ _ _ (Oper.mk (some 31) _ _ _ _ _ :: _) _ _); refine kYw (yAddZ _ _ _ _ (a : Int) ((q * 2 : Nat) : Int) ((a + q * 2 : Nat) : Int) (by have := hl.out; have := hq.out; omega) rfl rfl rfl rfl) ?_; go_frame)
        | ((with_reducible change wpList _ _ _ (Oper.mk (some 32) _ _ _ _ _ :: _) _ _); refine kYw (yAddZ _ _ _ _ ((a + q * 2 : Nat) : Int) 1 ((a + q * 2 + 1 : Nat) : Int) (by have := hl.out; have := hq.out; omega) rfl rfl rfl rfl) ?_; go_frame)
        | ((with_reducible change wpList _ _ _ (Oper.mk (some 33) _ _ _ _ _ :: _) _ _); refine kYw (yLeqK _ _ _ _ .i64 (k : Int) ((a + q * 2 + 1 : Nat) : Int) true d33 rfl rfl rfl rfl) ?_; go_frame)
        | (go_at_call 72; refine (sXor_any _ hRk hv).mono ?_; rintro e x1 ⟨v1, hv1, rfl, hR1, hEq⟩; have hD1 := hDk.other hEq hgw; have hE1 : Exc g w x1 := ⟨hEq.os.trans hEk.os, hEq.tape.trans hEk.tape, hEq.output.trans hEk.output, Nat.le_trans hEk.size hEq.size, fun k hk hn => (hEq.block k (Nat.lt_of_lt_of_le hk hEk.size) (fun e => by cases e; exact absurd hk (Nat.lt_irrefl _))).trans (hEk.block k hk hn)⟩; clear hEq hDk hEk hRk; obtain ⟨z, Hz⟩ : ∃ z, Hid (v1 &&& m1 = z) := ⟨_, Lib.hid rfl⟩; have hz : z < 2 * l := (by have := Hz.out; have := Hm1.out; have h0 : v1 &&& m1 ≤ m1 := Nat.and_le_right; omega); have f39 : Hid (v1 &&& m1 = z ∧ v1 < 18446744073709551616 ∧ m1 < 18446744073709551616) := Lib.hid ⟨Hz.out, hv1, (by have := Hm1.out; omega)⟩; have f40 : Hid (IntKind.i64.wrap (z : Int) = (z : Int)) := Lib.hid (wrap_i64N (by omega)); go_frame)
        | ((with_reducible change wpList _ _ _ (Oper.mk (some 38) _ _ _ _ _ :: _) _ _); refine kYw (ySubN .u64 _ _ _ _ m 1 m1 f38.out rfl rfl rfl rfl) ?_; go_frame)
        | ((with_reducible change wpList _ _ _ (Oper.mk (some 39) _ _ _ _ _ :: _) _ _); refine kYw (yAndU _ _ _ _ v1 m1 z f39.out rfl rfl rfl rfl) ?_; go_frame)
        | ((with_reducible change wpList _ _ _ (Oper.mk (some 40) _ _ _ _ _ :: _) _ _); refine kYw (yConvK Try.underlying55 Try.underlying3 _ (z : Int) (z : Int) f40.out rfl rfl rfl) ?_; go_frame)
        | ((with_reducible change wpList _ _ _ (Oper.mk (some 43) _ _ _ _ _ :: _) _ _); (rcases Nat.lt_or_ge z l with hzl | hzl; · (refine kYw (yGeqK _ _ _ _ .i64 (z : Int) (l : Int) false (by simp; omega) rfl rfl rfl rfl) ?_; go_frame); · (refine kYw (yGeqK _ _ _ _ .i64 (z : Int) (l : Int) true (by simp; omega) rfl rfl rfl rfl) ?_; go_frame)))
        | ((with_reducible change wpList _ _ _ (Oper.mk (some 46) _ _ _ _ _ :: _) _ _); refine kYw (ySubZ _ _ _ _ (z : Int) (l : Int) ((z - l : Nat) : Int) (by omega) rfl rfl rfl rfl) ?_; go_frame))
      · (try go_wp2)
        refine region_tree (.q 0 (.q 1 (.q 2 (.q 3 (.q 4 (.q 5 (.q 6 (.q 7 (.q 8 (.q 9 (.q 10 (.q 12 (.q 13 (.q 14 (.two 11 (.one 15 (.q 16 (.one 17 (.q 18 (.one 19 .fin))))) 15 (.one 11 (.q 16 (.one 17 (.q 18 (.one 19 .fin)))))))))))))))))))) (fun _ => True) (by kernel_rfl) (by kernel_rfl) ?_
        intro z1 hBd hsd; clear hsd
        have hDz1 := hD1.below hBd
        have hEz1 := hE1.trans (exc_below g hBd)
        have hR1_z1 := hR1.below hBd hR1.lt
        clear hBd hD1 hE1 hR1
        have hS : (fun _ : World => True) z1 := trivial
        refine tY _ hS rfl (yMove _ (.slice (some ⟨g, 0, none⟩) n cap) rfl rfl rfl) ?_; go_frame
        refine tY _ hS rfl (yMove _ (.int .i64 (k : Int)) rfl rfl rfl) ?_; go_frame
        refine tY _ hS rfl (yMove _ (.slice (some ⟨g, 0, none⟩) n cap) rfl rfl rfl) ?_; go_frame
        refine tY _ hS rfl (yMove _ (.int .i64 (a : Int)) rfl rfl rfl) ?_; go_frame
        refine tY _ hS rfl (yMove _ (.int .i64 ((z - l : Nat) : Int)) rfl rfl rfl) ?_; go_frame
        refine tY _ hS rfl (yAddZ _ _ _ _ (a : Int) ((z - l : Nat) : Int) ((a + (z - l) : Nat) : Int) (by have := hl.out; have := hq.out; omega) rfl rfl rfl rfl) ?_; go_frame
        refine tY _ hS rfl (yMove _ (.slice (some ⟨g, 0, none⟩) n cap) rfl rfl rfl) ?_; go_frame
        refine tY _ hS rfl (yMove _ (.int .i64 (a : Int)) rfl rfl rfl) ?_; go_frame
        refine tY _ hS rfl (yMove _ (.int .i64 ((z - l : Nat) : Int)) rfl rfl rfl) ?_; go_frame
        refine tY _ hS rfl (yAddZ _ _ _ _ (a : Int) ((z - l : Nat) : Int) ((a + (z - l) : Nat) : Int) (by have := hl.out; have := hq.out; omega) rfl rfl rfl rfl) ?_; go_frame
        refine tY _ hS rfl (yIdxD _ _ g n cap (a + (z - l)) (by have := hl.out; have := hq.out; omega) rfl rfl rfl rfl) ?_; go_frame
        refine tY _ hS rfl (yMove _ (.slice (some ⟨g, 0, none⟩) n cap) rfl rfl rfl) ?_; go_frame
        refine tY _ hS rfl (yMove _ (.int .i64 (k : Int)) rfl rfl rfl) ?_; go_frame
        refine tY _ hS rfl (yIdxD _ _ g n cap k (by have := hl.out; have := hq.out; omega) rfl rfl rfl rfl) ?_; go_frame
        refine tTwoSo (VW (dv dk (a + (z - l)))) (VW (dv dk k)) rfl rfl rfl rfl (by decide) (yLoadD _ (fun _ e => by cases e; exact hDz1) (by have := hl.out; have := hq.out; omega) rfl rfl rfl) (yLoadD _ (fun _ e => by cases e; exact hDz1) (by have := hl.out; have := hq.out; omega) rfl rfl rfl) (yLoadD _ (fun _ e => by cases e; exact hDz1) (by have := hl.out; have := hq.out; omega) rfl rfl rfl) (yLoadD _ (fun _ e => by cases e; exact hDz1) (by have := hl.out; have := hq.out; omega) rfl rfl rfl) ?_; go_frame
        refine tY _ hS rfl (yIdxD _ _ g n cap k (by have := hl.out; have := hq.out; omega) rfl rfl rfl rfl) ?_; go_frame
        refine tOne rfl ?_
        refine kStoreD _ _ g n cap k (dv dk (a + (z - l))) dk hDz1 (by have := hl.out; have := hq.out; omega) rfl rfl rfl rfl ?_
        intro z1a hDz1a hWn
        have hEz1a := hEz1.trans (exc_wrote hWn)
        have hR1_z1a : Rnd z1a w.heap.size v1 := Wrote.row hWn hR1_z1 hgw.symm
        clear hWn hDz1 hEz1 hR1_z1 hS
        have hS : (fun _ : World => True) z1a := trivial
        refine mixOn ⟨_, (fun _ h => h), hS, ?_⟩
        go_frame
        refine tY _ hS rfl (yIdxD _ _ g n cap (a + (z - l)) (by have := hl.out; have := hq.out; omega) rfl rfl rfl rfl) ?_; go_frame
        refine tOne rfl ?_
        refine kStoreD _ _ g n cap (a + (z - l)) (dv dk k) ((dk.setIfInBounds k (dv dk (a + (z - l))))) hDz1a (by have := hl.out; have := hq.out; omega) rfl rfl rfl rfl ?_
        intro z1b hDz1b hWn
        have hEz1b := hEz1a.trans (exc_wrote hWn)
        have hR1_z1b : Rnd z1b w.heap.size v1 := Wrote.row hWn hR1_z1a hgw.symm
        clear hWn hDz1a hEz1a hR1_z1a hS
        have hS : (fun _ : World => True) z1b := trivial
        refine mixOn ⟨_, (fun _ h => h), hS, ?_⟩
        go_frame
        refine tDone ?_
        clear hS
        have hFz1 : Dat z1b g n cap (Sort.swp dk k (a + (z - l))) := hDz1b
        clear hDz1b
        go_wp2_with (first
          | ((with_reducible change wpList _ _ _ (Oper.mk (some 35) _ _ _ _ _ :: _) _ _); refine kYw (yAddZ _ _ _ _ (k : Int) 1 ((k + 1 : Nat) : Int) (by have := hl.out; have := hq.out; omega) rfl rfl rfl rfl) ?_; go_frame))
        go_roundw
        case rel => exact ⟨k + 1, v1, _, by omega, by omega, rfl, hFz1, hEz1b, hR1_z1b, hv1, hP.trans (PermI.swp dk hk3 (by have := hl.out; omega) (by rw [hP.size]; omega))⟩
        case measure => first | (simp [intOf]; done) | (simp [intOf]; omega)
      · (try go_wp2)
        refine region_tree (.q 0 (.q 1 (.q 2 (.q 3 (.q 4 (.q 5 (.q 6 (.q 7 (.q 8 (.q 9 (.q 10 (.q 12 (.q 13 (.q 14 (.two 11 (.one 15 (.q 16 (.one 17 (.q 18 (.one 19 .fin))))) 15 (.one 11 (.q 16 (.one 17 (.q 18 (.one 19 .fin)))))))))))))))))))) (fun _ => True) (by kernel_rfl) (by kernel_rfl) ?_
        intro z1 hBd hsd; clear hsd
        have hDz1 := hD1.below hBd
        have hEz1 := hE1.trans (exc_below g hBd)
        have hR1_z1 := hR1.below hBd hR1.lt
        clear hBd hD1 hE1 hR1
        have hS : (fun _ : World => True) z1 := trivial
        refine tY _ hS rfl (yMove _ (.slice (some ⟨g, 0, none⟩) n cap) rfl rfl rfl) ?_; go_frame
        refine tY _ hS rfl (yMove _ (.int .i64 (k : Int)) rfl rfl rfl) ?_; go_frame
        refine tY _ hS rfl (yMove _ (.slice (some ⟨g, 0, none⟩) n cap) rfl rfl rfl) ?_; go_frame
        refine tY _ hS rfl (yMove _ (.int .i64 (a : Int)) rfl rfl rfl) ?_; go_frame
        refine tY _ hS rfl (yMove _ (.int .i64 (z : Int)) rfl rfl rfl) ?_; go_frame
        refine tY _ hS rfl (yAddZ _ _ _ _ (a : Int) (z : Int) ((a + z : Nat) : Int) (by have := hl.out; have := hq.out; omega) rfl rfl rfl rfl) ?_; go_frame
        refine tY _ hS rfl (yMove _ (.slice (some ⟨g, 0, none⟩) n cap) rfl rfl rfl) ?_; go_frame
        refine tY _ hS rfl (yMove _ (.int .i64 (a : Int)) rfl rfl rfl) ?_; go_frame
        refine tY _ hS rfl (yMove _ (.int .i64 (z : Int)) rfl rfl rfl) ?_; go_frame
        refine tY _ hS rfl (yAddZ _ _ _ _ (a : Int) (z : Int) ((a + z : Nat) : Int) (by have := hl.out; have := hq.out; omega) rfl rfl rfl rfl) ?_; go_frame
        refine tY _ hS rfl (yIdxD _ _ g n cap (a + z) (by have := hl.out; have := hq.out; omega) rfl rfl rfl rfl) ?_; go_frame
        refine tY _ hS rfl (yMove _ (.slice (some ⟨g, 0, none⟩) n cap) rfl rfl rfl) ?_; go_frame
        refine tY _ hS rfl (yMove _ (.int .i64 (k : Int)) rfl rfl rfl) ?_; go_frame
        refine tY _ hS rfl (yIdxD _ _ g n cap k (by have := hl.out; have := hq.out; omega) rfl rfl rfl rfl) ?_; go_frame
        refine tTwoSo (VW (dv dk (a + z))) (VW (dv dk k)) rfl rfl rfl rfl (by decide) (yLoadD _ (fun _ e => by cases e; exact hDz1) (by have := hl.out; have := hq.out; omega) rfl rfl rfl) (yLoadD _ (fun _ e => by cases e; exact hDz1) (by have := hl.out; have := hq.out; omega) rfl rfl rfl) (yLoadD _ (fun _ e => by cases e; exact hDz1) (by have := hl.out; have := hq.out; omega) rfl rfl rfl) (yLoadD _ (fun _ e => by cases e; exact hDz1) (by have := hl.out; have := hq.out; omega) rfl rfl rfl) ?_; go_frame
        refine tY _ hS rfl (yIdxD _ _ g n cap k (by have := hl.out; have := hq.out; omega) rfl rfl rfl rfl) ?_; go_frame
        refine tOne rfl ?_
        refine kStoreD _ _ g n cap k (dv dk (a + z)) dk hDz1 (by have := hl.out; have := hq.out; omega) rfl rfl rfl rfl ?_
        intro z1a hDz1a hWn
        have hEz1a := hEz1.trans (exc_wrote hWn)
        have hR1_z1a : Rnd z1a w.heap.size v1 := Wrote.row hWn hR1_z1 hgw.symm
        clear hWn hDz1 hEz1 hR1_z1 hS
        have hS : (fun _ : World => True) z1a := trivial
        refine mixOn ⟨_, (fun _ h => h), hS, ?_⟩
        go_frame
        refine tY _ hS rfl (yIdxD _ _ g n cap (a + z) (by have := hl.out; have := hq.out; omega) rfl rfl rfl rfl) ?_; go_frame
        refine tOne rfl ?_
        refine kStoreD _ _ g n cap (a + z) (dv dk k) ((dk.setIfInBounds k (dv dk (a + z)))) hDz1a (by have := hl.out; have := hq.out; omega) rfl rfl rfl rfl ?_
        intro z1b hDz1b hWn
        have hEz1b := hEz1a.trans (exc_wrote hWn)
        have hR1_z1b : Rnd z1b w.heap.size v1 := Wrote.row hWn hR1_z1a hgw.symm
        clear hWn hDz1a hEz1a hR1_z1a hS
        have hS : (fun _ : World => True) z1b := trivial
        refine mixOn ⟨_, (fun _ h => h), hS, ?_⟩
        go_frame
        refine tDone ?_
        clear hS
        have hFz1 : Dat z1b g n cap (Sort.swp dk k (a + z)) := hDz1b
        clear hDz1b
        go_wp2_with (first
          | ((with_reducible change wpList _ _ _ (Oper.mk (some 35) _ _ _ _ _ :: _) _ _); refine kYw (yAddZ _ _ _ _ (k : Int) 1 ((k + 1 : Nat) : Int) (by have := hl.out; have := hq.out; omega) rfl rfl rfl rfl) ?_; go_frame))
        go_roundw
        case rel => exact ⟨k + 1, v1, _, by omega, by omega, rfl, hFz1, hEz1b, hR1_z1b, hv1, hP.trans (PermI.swp dk hk3 (by have := hl.out; omega) (by rw [hP.size]; omega))⟩
        case measure => first | (simp [intOf]; done) | (simp [intOf]; omega)
    · have d33 : decide ((k : Int) ≤ ((a + q * 2 + 1 : Nat) : Int)) = false := by simp; omega
      go_wp2_with (first
        | ((with_reducible change wpList _ _ _ (Oper.mk (some 29) _ _ _ _ _ :: _) _ _); refine kYw (yQuoN .i64 _ _ _ _ l 4 q ⟨(by have := hl.out; have := hq.out; omega), by decide, wrap_i64N (by have := hl.out; have := hq.out; omega)⟩ rfl rfl rfl rfl) ?_; go_frame)
        | ((with_reducible change wpList _ _ _ (Oper.mk (some 30) _ _ _ _ _ :: _) _ _); refine kYw (yMulZ _ _ _ _ (q : Int) 2 ((q * 2 : Nat) : Int) (by have := hl.out; have := hq.out; omega) rfl rfl rfl rfl) ?_; go_frame)
        | ((with_reducible change wpList _ _ _ (Oper.mk (some 31) _ _ _ _ _ :: _) _ _); refine kYw (yAddZ _ _ _ _ (a : Int) ((q * 2 : Nat) : Int) ((a + q * 2 : Nat) : Int) (by have := hl.out; have := hq.out; omega) rfl rfl rfl rfl) ?_; go_frame)
        | ((with_reducible change wpList _ _ _ (Oper.mk (some 32) _ _ _ _ _ :: _) _ _); refine kYw (yAddZ _ _ _ _ ((a + q * 2 : Nat) : Int) 1 ((a + q * 2 + 1 : Nat) : Int) (by have := hl.out; have := hq.out; omega) rfl rfl rfl rfl) ?_; go_frame)
        | ((with_reducible change wpList _ _ _ (Oper.mk (some 33) _ _ _ _ _ :: _) _ _); refine kYw (yLeqK _ _ _ _ .i64 (k : Int) ((a + q * 2 + 1 : Nat) : Int) false d33 rfl rfl rfl rfl) ?_; go_frame))
      go_end0
      exact ⟨rfl, dk, hP, hDk, hEk⟩
end Go.Proofs.Ytdeggdmoijfhdaa
