/-
  Joined: WNum, WBase, WAdd, WMul64, WMul, WBits, WShift, WDiv, WMem, WBytes, WNamesW.
-/
import Derived.Test.YtdeggdmoijfhdaaKitAll
import Derived.Test.YtdeggdmoijfhdaaChecked
import Derived.Laws.Externs
import Derived.Maps.RangeWalk
/-
  Numbers of 256 bits: a natural number by its four limbs of 64 bits. No walk here, no program.
-/
namespace Go.Proofs.Ytdeggdmoijfhdaa
open Go Go.RowKit

/-- 2 to the power of 64 k -/
def P64 (k : Nat) : Nat := 18446744073709551616 ^ k
theorem P64_pos (k : Nat) : 0 < P64 k := Nat.pow_pos (by decide)
theorem P64_succ (k : Nat) : P64 (k + 1) = P64 k * 18446744073709551616 := Nat.pow_succ ..
theorem P64_zero : P64 0 = 1 := rfl
/-- 2 to the power of 256 -/
def M256 : Nat := 115792089237316195423570985008687907853269984665640564039457584007913129639936
theorem P64_four : P64 4 = M256 := by decide
theorem M256_pos : 0 < M256 := by decide
/-- the k-th limb -/
def limb (a k : Nat) : Nat := a / P64 k % 18446744073709551616
theorem limb_lt (a k : Nat) : limb a k < 18446744073709551616 := Nat.mod_lt _ (by decide)
/-- what lies below the k-th limb -/
def low (a k : Nat) : Nat := a % P64 k
theorem low_lt (a k : Nat) : low a k < P64 k := Nat.mod_lt _ (P64_pos k)
theorem low_zero (a : Nat) : low a 0 = 0 := by unfold low; rw [P64_zero, Nat.mod_one]
theorem low_succ (a k : Nat) : low a (k + 1) = low a k + P64 k * limb a k := by
  unfold low limb; rw [P64_succ, Nat.mod_mul]
theorem low_four (a : Nat) (h : a < M256) : low a 4 = a := by
  unfold low; rw [P64_four]; exact Nat.mod_eq_of_lt h
theorem low_mod (a k : Nat) : low (low a k) k = low a k := Nat.mod_mod _ _

/-- what is carried into the k-th limb -/
def car (a b k : Nat) : Nat := (low a k + low b k) / P64 k
theorem car_zero (a b : Nat) : car a b 0 = 0 := by unfold car; rw [low_zero, low_zero]; rfl
theorem car_le (a b k : Nat) : car a b k ≤ 1 := by
  unfold car
  have h1 := low_lt a k; have h2 := low_lt b k
  have : (low a k + low b k) / P64 k < 2 := Nat.div_lt_of_lt_mul (by omega)
  omega
theorem car_succ (a b k : Nat) : car a b (k + 1) = (limb a k + limb b k + car a b k) / 18446744073709551616 := by
  unfold car
  rw [low_succ, low_succ, P64_succ, ← Nat.div_div_eq_div_mul]
  rw [show low a k + P64 k * limb a k + (low b k + P64 k * limb b k) = (low a k + low b k) + P64 k * (limb a k + limb b k) by rw [Nat.mul_add]; omega]
  rw [Nat.add_mul_div_left _ _ (P64_pos k), Nat.add_comm]
theorem div_add_car (a b k : Nat) : (a + b) / P64 k = a / P64 k + b / P64 k + car a b k := by
  have ha : a = low a k + P64 k * (a / P64 k) := (Nat.mod_add_div a _).symm
  have hb : b = low b k + P64 k * (b / P64 k) := (Nat.mod_add_div b _).symm
  have e : a + b = (low a k + low b k) + P64 k * (a / P64 k + b / P64 k) := by rw [Nat.mul_add]; omega
  unfold car
  rw [congrArg (· / P64 k) e]
  show (low a k + low b k + P64 k * (a / P64 k + b / P64 k)) / P64 k = _
  rw [Nat.add_mul_div_left _ _ (P64_pos k), Nat.add_comm]
theorem limb_add (a b k : Nat) : limb (a + b) k = (limb a k + limb b k + car a b k) % 18446744073709551616 := by
  show (a + b) / P64 k % _ = _
  rw [div_add_car]; unfold limb; omega
theorem car_four (a b : Nat) (ha : a < M256) (hb : b < M256) : car a b 4 = if M256 ≤ a + b then 1 else 0 := by
  unfold car; rw [low_four a ha, low_four b hb, P64_four]
  split
  · exact Nat.div_eq_of_lt_le (by omega) (by omega)
  · exact Nat.div_eq_of_lt (by omega)

/-- is there less below the k-th limb -/
def brw (a b k : Nat) : Nat := if low a k < low b k then 1 else 0
theorem brw_zero (a b : Nat) : brw a b 0 = 0 := by unfold brw; rw [low_zero, low_zero]; rfl
theorem brw_le (a b k : Nat) : brw a b k ≤ 1 := by unfold brw; split <;> omega
theorem brw_succ (a b k : Nat) : brw a b (k + 1) = if limb a k < limb b k + brw a b k then 1 else 0 := by
  have h1 := low_lt a k; have h2 := low_lt b k
  have hA := low_succ a k; have hB := low_succ b k
  have key : low a (k + 1) < low b (k + 1) ↔ limb a k < limb b k + brw a b k := by
    rw [hA, hB]
    unfold brw
    rcases Nat.lt_trichotomy (limb a k) (limb b k) with h | h | h
    · have : P64 k * limb a k + P64 k ≤ P64 k * limb b k := by rw [← Nat.mul_succ]; exact Nat.mul_le_mul_left _ h
      constructor
      · intro _; split <;> omega
      · intro _; omega
    · rw [h]
      split
      · constructor <;> intro _ <;> omega
      · constructor <;> intro _ <;> omega
    · have : P64 k * limb b k + P64 k ≤ P64 k * limb a k := by rw [← Nat.mul_succ]; exact Nat.mul_le_mul_left _ h
      constructor
      · intro _; omega
      · intro hh; split at hh <;> omega
  show (if low a (k + 1) < low b (k + 1) then 1 else 0) = _
  by_cases h : low a (k + 1) < low b (k + 1)
  · rw [if_pos h, if_pos (key.1 h)]
  · rw [if_neg h, if_neg (fun h' => h (key.2 h'))]
theorem brw_four (a b : Nat) (ha : a < M256) (hb : b < M256) : brw a b 4 = if a < b then 1 else 0 := by
  unfold brw; rw [low_four a ha, low_four b hb]
theorem P64_dvd (k : Nat) (hk : k ≤ 4) : ∃ q, M256 = P64 k * q := by
  rw [← P64_four]; exact ⟨P64 (4 - k), by unfold P64; rw [← Nat.pow_add]; congr 1; omega⟩
theorem limb_M256 (a k : Nat) (hk : k < 4) : limb (a + M256) k = limb a k := by
  obtain ⟨q, hq⟩ := P64_dvd (k + 1) hk
  rw [P64_succ, Nat.mul_assoc] at hq
  unfold limb
  rw [hq, Nat.add_mul_div_left _ _ (P64_pos k), Nat.add_mul_mod_self_left]
theorem low_M256 (a k : Nat) (hk : k ≤ 4) : low (a + M256) k = low a k := by
  obtain ⟨q, hq⟩ := P64_dvd k hk
  unfold low; rw [hq, Nat.add_mul_mod_self_left]
theorem car_of_low (d b k : Nat) : car d b k = if low (d + b) k < low b k then 1 else 0 := by
  have h1 := low_lt d k; have h2 := low_lt b k
  have e : low (d + b) k = (low d k + low b k) % P64 k := Nat.add_mod ..
  unfold car; rw [e]
  by_cases h : low d k + low b k < P64 k
  · rw [Nat.div_eq_of_lt h, Nat.mod_eq_of_lt h, if_neg (by omega)]
  · have hm : (low d k + low b k) % P64 k = low d k + low b k - P64 k := by
      rw [Nat.mod_eq_sub_mod (by omega), Nat.mod_eq_of_lt (by omega)]
    rw [hm, if_pos (by omega)]
    exact Nat.div_eq_of_lt_le (by omega) (by omega)
theorem limb_sub (a b k : Nat) (hb : b ≤ a + M256) (hk : k < 4) : limb (a + M256 - b) k = (limb a k + 18446744073709551616 - limb b k - brw a b k) % 18446744073709551616 := by
  have h := limb_add (a + M256 - b) b k
  have hc := car_of_low (a + M256 - b) b k
  rw [show a + M256 - b + b = a + M256 by omega] at h hc
  rw [limb_M256 a k hk] at h
  rw [low_M256 a k (by omega)] at hc
  have hbe : brw a b k = car (a + M256 - b) b k := by rw [hc]; rfl
  have h1 := limb_lt (a + M256 - b) k; have h2 := limb_lt b k; have h3 := limb_lt a k; have h4 := brw_le a b k
  omega

/-- the limbs tell the number -/
theorem low_of_limbs {a b : Nat} : ∀ k, (∀ j, j < k → limb a j = limb b j) → low a k = low b k
  | 0, _ => by rw [low_zero, low_zero]
  | k + 1, h => by rw [low_succ, low_succ, low_of_limbs k (fun j hj => h j (by omega)), h k (by omega)]
theorem limb_low {a b k : Nat} (hk : k < 4) (h : low a 4 = low b 4) : limb a k = limb b k := by
  have e : ∀ c, limb c k = limb (low c 4) k := fun c => by
    unfold low
    rw [P64_four]
    conv => lhs; rw [← Nat.mod_add_div c M256]
    generalize c % M256 = r
    generalize c / M256 = q
    induction q with
    | zero => simp
    | succ q ih => rw [Nat.mul_succ, ← Nat.add_assoc, limb_M256 _ _ hk]; exact ih
  rw [e a, e b, h]

/-- the cells of a number of 256 bits -/
def wcells (a : Nat) : Array Value := tab 4 fun j => .int .u64 (limb a j : Int)
/-- a number of 256 bits as a value -/
def WV (a : Nat) : Value := .agg (wcells a)
theorem wcells_size (a : Nat) : (wcells a).size = 4 := tab_size ..
theorem wcells_get (a j : Nat) (h : j < 4) : (wcells a)[j]? = some (.int .u64 (limb a j : Int)) := tab_get _ _ _ h
theorem wcells_one (a : Nat) : ∀ v ∈ wcells a, v.oneCell' = true := tab_one _ _ fun _ _ => rfl
theorem wcells_mod (a : Nat) : wcells (a % M256) = wcells a := tab_congr fun j hj => by
  rw [limb_low (a := a % M256) (b := a) hj (by unfold low; rw [P64_four, Nat.mod_mod])]
theorem WV_mod (a : Nat) : WV (a % M256) = WV a := by unfold WV; rw [wcells_mod]
theorem limbs_eq (a b : Nat) : ((List.range 4).all fun j => ((limb a j : Nat) : Int) == ((limb b j : Nat) : Int)) = decide (a % M256 = b % M256) := by
  rw [Bool.eq_iff_iff]
  simp only [List.all_eq_true, List.mem_range, beq_iff_eq, decide_eq_true_eq, Int.natCast_inj]
  constructor
  · intro h
    have := low_of_limbs (a := a) (b := b) 4 h
    unfold low at this; rwa [P64_four] at this
  · intro h j hj
    exact limb_low hj (by unfold low; rw [P64_four]; exact h)
theorem wcells_zero : wcells 0 = tab 4 fun _ => .int .u64 0 := tab_congr fun j _ => by unfold limb; simp

end Go.Proofs.Ytdeggdmoijfhdaa

/-
  The types of package wide, math/bits.Add64 and Sub64 as the model has them, and '==' of numbers of 256 bits.
-/
namespace Go.Proofs.Ytdeggdmoijfhdaa
open Go Go.RowKit

theorem info_Wide : (Try.prog.info? 24).map (·.size) = some 4 := by kernel_rfl
theorem info_WideC (a : Nat) : (Try.prog.info? 24).map (·.size) = some (wcells a).size := by rw [wcells_size]; exact info_Wide
theorem info_w64 : (Try.prog.info? 22).map (·.size) = some 1 := by kernel_rfl
theorem zero_Wide0 : ((Try.prog.info? 24).bind (·.zero)).map Value.cells = some (tab 4 fun _ => .int .u64 0) := by kernel_rfl
theorem zero_Wide : ((Try.prog.info? 24).bind (·.zero)).map Value.cells = some (wcells 0) := by rw [wcells_zero]; exact zero_Wide0

theorem run_add64W (x y c : Nat) (hc : c ≤ 1) (w : World) : (callFunc 53 #[.int .u64 x, .int .u64 y, .int .u64 c]).run Try.prog w =
    .ok (.value (.tuple #[.int .u64 (((x + y + c) % 18446744073709551616 : Nat) : Int), .int .u64 (((x + y + c) / 18446744073709551616 : Nat) : Int)])) w := by
  rw [run_callFunc_extern Try.func53 (by kernel_rfl) (by kernel_rfl) (by kernel_rfl) (e := add64Entry) (by kernel_rfl), run_add64 x y c (by omega) (by omega) (by omega) (by omega)]
  simp only [Result.andThen]
  congr 5 <;> omega
/-- The model's entry for math/bits.Sub64, as the walk meets it. -/
def sub64E : Array Value → Sem Value := fun args => do
  let (x, y, b) ← Extern.MathBitsCarry.three "Sub64" args
  pure (Extern.MathBitsCarry.pair ((x + Extern.MathBitsCarry.m64 - y - b) % Extern.MathBitsCarry.m64) (if x < y + b then 1 else 0))
theorem run_sub64E {P : Program} (x y b : Nat) (hb : b ≤ 1) (w : World) :
    (sub64E #[.int .u64 x, .int .u64 y, .int .u64 b]).run P w =
      .ok (.tuple #[.int .u64 (((x + 18446744073709551616 - y - b) % 18446744073709551616 : Nat) : Int), .int .u64 ((if x < y + b then 1 else 0 : Nat) : Int)]) w := by
  have : b = 0 ∨ b = 1 := by omega
  rcases this with rfl | rfl <;> rfl
theorem run_sub64W (x y b : Nat) (hb : b ≤ 1) (w : World) : (callFunc 46 #[.int .u64 x, .int .u64 y, .int .u64 b]).run Try.prog w =
    .ok (.value (.tuple #[.int .u64 (((x + 18446744073709551616 - y - b) % 18446744073709551616 : Nat) : Int), .int .u64 ((if x < y + b then 1 else 0 : Nat) : Int)])) w := by
  rw [run_callFunc_extern Try.func46 (by kernel_rfl) (by kernel_rfl) (by kernel_rfl) (e := sub64E) (by kernel_rfl), run_sub64E x y b hb]
  rfl

theorem eqGuard_Wide : Try.prog.eqGuardType Try.prog.depth 24 = false := by kernel_rfl
section
variable {ops : Array Oper} {S : World → Prop} {Q : Exit → Act → World → Prop} {L : Act → World → Prop} {bs : List Bool} {o : Oper} {rest : List Oper} {a : Act} {w : World}
theorem run_eqlW (m n : Nat) (x y : Operand) (w : World) : (do eqGuard .eql 24 x y (WV m) (WV n); binOp .eql 24 (WV m) (WV n) : Sem Value).run Try.prog w = .ok (.bool (decide (m % M256 = n % M256))) w := by
  rw [← limbs_eq]
  exact run_eqlArr (k := .u64) Try.underlying24 Try.underlying22 info_w64 eqGuard_Wide _ _ x y
theorem run_neqW (m n : Nat) (x y : Operand) (w : World) : (do eqGuard .neq 24 x y (WV m) (WV n); binOp .neq 24 (WV m) (WV n) : Sem Value).run Try.prog w = .ok (.bool (!decide (m % M256 = n % M256))) w := by
  rw [← limbs_eq]
  exact run_neqArr (k := .u64) Try.underlying24 Try.underlying22 info_w64 eqGuard_Wide _ _ x y
theorem exec_eqlW (T2 : TypeId) (x y : Operand) (m n : Nat) (b : Bool) (ho : o.op = .binOp .eql 24 x y T2) (hx : a.eval x = WV m) (hy : a.eval y = WV n) (hb : decide (m % M256 = n % M256) = b) (w : World) : (execOp a.eval o).run Try.prog w = .ok (.value (.bool b)) w := by
  subst hb
  unfold execOp
  have hr := run_eqlW m n x y w
  simp only [ho, hx, hy]
  rw [Sem.run_bind, hr]
  rfl
theorem exec_neqW (T2 : TypeId) (x y : Operand) (m n : Nat) (b : Bool) (ho : o.op = .binOp .neq 24 x y T2) (hx : a.eval x = WV m) (hy : a.eval y = WV n) (hb : (!decide (m % M256 = n % M256)) = b) (w : World) : (execOp a.eval o).run Try.prog w = .ok (.value (.bool b)) w := by
  subst hb
  unfold execOp
  have hr := run_neqW m n x y w
  simp only [ho, hx, hy]
  rw [Sem.run_bind, hr]
  rfl
theorem kEqlW (T2 : TypeId) (x y : Operand) (m n : Nat) (b : Bool) (ho : o.op = .binOp .eql 24 x y T2) (hg : Region.wanted o (yielded ops a.tmps) = true) (hx : a.eval x = .agg (wcells m)) (hy : a.eval y = .agg (wcells n)) (hb : decide (m % M256 = n % M256) = b)
    (h : wpList Try.prog ops Q rest (a.put o.dst (.bool b)) w) : wpList Try.prog ops Q (o :: rest) a w := by
  refine BigFrame.wpList_want hg fun K hK => ?_
  unfold Oper.wp
  rw [exec_eqlW T2 x y m n b ho hx hy hb]
  exact hK _ _ h
theorem kNeqW (T2 : TypeId) (x y : Operand) (m n : Nat) (b : Bool) (ho : o.op = .binOp .neq 24 x y T2) (hg : Region.wanted o (yielded ops a.tmps) = true) (hx : a.eval x = .agg (wcells m)) (hy : a.eval y = .agg (wcells n)) (hb : (!decide (m % M256 = n % M256)) = b)
    (h : wpList Try.prog ops Q rest (a.put o.dst (.bool b)) w) : wpList Try.prog ops Q (o :: rest) a w := by
  refine BigFrame.wpList_want hg fun K hK => ?_
  unfold Oper.wp
  rw [exec_neqW T2 x y m n b ho hx hy hb]
  exact hK _ _ h
theorem mixEqlW (T2 : TypeId) (x y : Operand) (m n : Nat) (b : Bool) (hS : S w) (ho : o.op = .binOp .eql 24 x y T2) (hg : Region.wanted o (yielded ops a.tmps) = true) (hx : a.eval x = .agg (wcells m)) (hy : a.eval y = .agg (wcells n)) (hb : decide (m % M256 = n % M256) = b)
    (h : wpMix Try.prog ops Q S L bs rest (a.put o.dst (.bool b)) w) : wpMix Try.prog ops Q S L (true :: bs) (o :: rest) a w :=
  mixQuiet _ hS hg (fun w _ => exec_eqlW T2 x y m n b ho hx hy hb w) h
theorem mixNeqW (T2 : TypeId) (x y : Operand) (m n : Nat) (b : Bool) (hS : S w) (ho : o.op = .binOp .neq 24 x y T2) (hg : Region.wanted o (yielded ops a.tmps) = true) (hx : a.eval x = .agg (wcells m)) (hy : a.eval y = .agg (wcells n)) (hb : (!decide (m % M256 = n % M256)) = b)
    (h : wpMix Try.prog ops Q S L bs rest (a.put o.dst (.bool b)) w) : wpMix Try.prog ops Q S L (true :: bs) (o :: rest) a w :=
  mixQuiet _ hS hg (fun w _ => exec_neqW T2 x y m n b ho hx hy hb w) h
end
end Go.Proofs.Ytdeggdmoijfhdaa

/-
  The walks of wide's Add, Sub and Less, and of Of: numbers of 256 bits, modulo 2 to the power of 256.
-/
namespace Go.Proofs.Ytdeggdmoijfhdaa
open Go Go.RowKit

/-- the sum's cells, the first k of them written -/
def sumTo (n k : Nat) : Array Value := tab 4 fun j => .int .u64 ((if j < k then limb n j else 0 : Nat) : Int)
theorem sumTo_zero (n : Nat) : sumTo n 0 = wcells 0 := by rw [wcells_zero]; exact tab_congr fun j _ => by simp
theorem sumTo_four (n : Nat) : sumTo n 4 = wcells n := tab_congr fun j hj => by rw [if_pos hj]
theorem sumTo_set (n k : Nat) : (sumTo n k).setIfInBounds k (.int .u64 (limb n k : Int)) = sumTo n (k + 1) := tab_set fun j hj => by
  by_cases h : j = k
  · subst h; rw [if_pos rfl, if_pos (by omega)]
  · rw [if_neg h]
    by_cases h2 : j < k
    · rw [if_pos h2, if_pos (by omega)]
    · rw [if_neg h2, if_neg (by omega)]

set_option maxRecDepth 100000 in
set_option maxHeartbeats 1000000 in
theorem wAdd_any (a b : Nat) (ha : a < M256) (hb : b < M256) (w : World) :
    Calls Try.prog 39 #[WV a, WV b] w fun e w' => e = .returned (.tuple #[WV (a + b), .bool (decide (M256 ≤ a + b))]) ∧ Below w.heap.size w w' := by
  unfold WV
  go_enter Try.func39, Try.ntmps39
  go_wp2_with (first
    | ((with_reducible change wpList _ _ _ (Oper.mk (some 2) _ _ _ _ _ :: _) _ _); refine kBoxL _ _ _ rfl rfl rfl ?_; intro w1 hR1 hl1 hB1)
    | ((with_reducible change wpList _ _ _ (Oper.mk (some 3) _ _ _ _ _ :: _) _ _); refine kBoxL _ _ _ rfl rfl rfl ?_; intro w2 hR2 hl2 hB2)
    | ((with_reducible change wpList _ _ _ (Oper.mk (some 4) _ _ _ _ _ :: _) _ _); refine kAllocL _ _ rfl rfl zero_Wide ?_; intro w3 hR3 hl3 hB3)
    | ((with_reducible change wpList _ _ _ (Oper.mk (some 6) _ _ _ _ _ :: _) _ _); refine kAllocL _ _ rfl rfl zero_Wide ?_; intro w4 hR4 hl4 hB4))
  have hRa := ((hR1.below hB2 (by omega)).below hB3 (by omega)).below hB4 (by omega)
  have hRb := (hR2.below hB3 (by omega)).below hB4 (by omega)
  have hRs := hR3.below hB4 (by omega)
  have hB : Below w.heap.size w w4 := ((hB1.trans (hB2.mono (by omega))).trans (hB3.mono (by omega))).trans (hB4.mono (by omega))
  clear hR1 hR2 hR3 hB1 hB2 hB3 hB4
  go_loopw [9, 7] (fun i c wr => ∃ k : Nat, k ≤ 4 ∧ i = .int .i64 k ∧ c = .int .u64 (car a b k : Int) ∧ Row wr w3.heap.size 24 (sumTo (a + b) k) ∧ Below w3.heap.size w4 wr) (fun i _ _ => 4 - (intOf i).toNat)
  case atStart => exact ⟨0, by omega, rfl, by rw [car_zero]; rfl, by rw [sumTo_zero]; exact hR4, Below.refl _ _⟩
  case round =>
    obtain ⟨k, hk, rfl, rfl, hR, hBr⟩ := hrel
    by_cases hlt : k < 4
    · have hd : decide ((k : Int) < 4) = true := by simp; omega
      go_wp2_with fail
      refine region_mix' [true, true, true, true, true, true, true, true, true, true, true, true, true, false] (fun w' => Row w' w.heap.size 24 (wcells a) ∧ Row w' w1.heap.size 24 (wcells b)) (by kernel_rfl) (by kernel_rfl) ?_
      intro wd hBd hsd
      have hS : Row wd w.heap.size 24 (wcells a) ∧ Row wd w1.heap.size 24 (wcells b) := ⟨((hRa.below hBr (by omega)).below hBd (hRa.below hBr (by omega)).lt), ((hRb.below hBr (by omega)).below hBd (hRb.below hBr (by omega)).lt)⟩
      have hRd := hR.below hBd hR.lt
      simp only [List.length_cons, List.length_nil, List.take_succ_cons, List.take_zero, List.drop_succ_cons, List.drop_zero]
      refine mixMove _ (.int .i64 k) hS rfl rfl rfl ?_; go_frame
      refine mixMove _ (.int .i64 k) hS rfl rfl rfl ?_; go_frame
      refine mixIndexAddr1 _ _ _ _ _ _ _ k _ hS rfl rfl rfl rfl Try.underlying24 info_w64 rfl hlt ?_; go_frame
      refine mixLoad1 _ _ _ _ _ _ _ _ hS rfl rfl rfl (fun _ h => h.1) Try.underlying22 rfl (wcells_get a k hlt) ?_; go_frame
      refine mixMove _ (.int .i64 k) hS rfl rfl rfl ?_; go_frame
      refine mixIndexAddr1 _ _ _ _ _ _ _ k _ hS rfl rfl rfl rfl Try.underlying24 info_w64 rfl hlt ?_; go_frame
      refine mixLoad1 _ _ _ _ _ _ _ _ hS rfl rfl rfl (fun _ h => h.2) Try.underlying22 rfl (wcells_get b k hlt) ?_; go_frame
      refine mixMove _ (.int .u64 (car a b k : Int)) hS rfl rfl rfl ?_; go_frame
      refine mixCallV3 _ _ _ _ _ _ _ _ (.tuple #[.int .u64 (limb (a + b) k : Int), .int .u64 (car a b (k + 1) : Int)]) hS rfl rfl rfl rfl rfl (fun w => by rw [limb_add, car_succ]; exact run_add64W _ _ _ (car_le a b k) w) ?_; go_frame
      refine mixMove _ (.tuple #[.int .u64 (limb (a + b) k : Int), .int .u64 (car a b (k + 1) : Int)]) hS rfl rfl rfl ?_; go_frame
      refine mixExtract _ _ _ (.int .u64 (limb (a + b) k : Int)) hS rfl rfl rfl rfl ?_; go_frame
      refine mixExtract _ _ _ (.int .u64 (car a b (k + 1) : Int)) hS rfl rfl rfl rfl ?_; go_frame
      refine mixIndexAddr1 _ _ _ _ _ _ _ k _ hS rfl rfl rfl rfl Try.underlying24 info_w64 rfl hlt ?_; go_frame
      refine mixLoud ?_
      refine kStore1 _ _ _ _ _ _ _ (.int .u64 (limb (a + b) k : Int)) rfl rfl rfl rfl hRd info_w64 (by unfold sumTo; rw [tab_size]; omega) rfl ?_
      intro w5 hR5 hW5
      rw [sumTo_set] at hR5
      refine mixOn ⟨⟨hW5.row hS.1 (by omega), hW5.row hS.2 (by omega)⟩, ?_⟩
      go_frame
      refine mixEnd ?_
      have hB5 : Below w3.heap.size w4 w5 := (hBr.trans (hBd.mono (Nat.le_of_lt hR.lt))).trans (hW5.below (Nat.le_refl _))
      clear hW5 hRd hS hBd hsd
      go_wp2
      go_roundw
      case rel => exact ⟨k + 1, by omega, by go_num, rfl, hR5, hB5⟩
      case measure => simp [intOf]; omega
    · obtain rfl : k = 4 := by omega
      rw [sumTo_four] at hR
      have hRq := hRs.below hBr (by omega)
      have hBq : Below w.heap.size w wr := hB.trans (hBr.mono (by omega))
      go_wp2_with (first
        | ((with_reducible change wpList _ _ _ (Oper.mk (some 26) _ _ _ _ _ :: _) _ _); refine kLoadRow _ _ _ _ _ _ rfl rfl rfl hR Try.underlying24 rfl (info_WideC _) ?_)
        | ((with_reducible change wpList _ _ _ (Oper.mk none _ _ _ _ _ :: _) _ _); refine kStoreRow _ _ _ _ _ _ _ rfl rfl rfl rfl hRq (info_WideC _) (by simp only [wcells_size]) (wcells_one _) ?_; intro w6 hR6 hW6))
      refine result_row_tmp Try.results39 rfl rfl hR6 Try.underlying24 rfl (info_WideC _) rfl ⟨?_, hBq.trans (hW6.below (by omega))⟩
      rw [car_four a b ha hb]
      by_cases hm : M256 ≤ a + b <;> simp [hm]
set_option maxRecDepth 100000 in
set_option maxHeartbeats 1000000 in
theorem wSub_any (a b : Nat) (ha : a < M256) (hb : b < M256) (w : World) :
    Calls Try.prog 24 #[WV a, WV b] w fun e w' => e = .returned (.tuple #[WV (a + M256 - b), .bool (decide (a < b))]) ∧ Below w.heap.size w w' := by
  unfold WV
  go_enter Try.func24, Try.ntmps24
  go_wp2_with (first
    | ((with_reducible change wpList _ _ _ (Oper.mk (some 2) _ _ _ _ _ :: _) _ _); refine kBoxL _ _ _ rfl rfl rfl ?_; intro w1 hR1 hl1 hB1)
    | ((with_reducible change wpList _ _ _ (Oper.mk (some 3) _ _ _ _ _ :: _) _ _); refine kBoxL _ _ _ rfl rfl rfl ?_; intro w2 hR2 hl2 hB2)
    | ((with_reducible change wpList _ _ _ (Oper.mk (some 4) _ _ _ _ _ :: _) _ _); refine kAllocL _ _ rfl rfl zero_Wide ?_; intro w3 hR3 hl3 hB3)
    | ((with_reducible change wpList _ _ _ (Oper.mk (some 6) _ _ _ _ _ :: _) _ _); refine kAllocL _ _ rfl rfl zero_Wide ?_; intro w4 hR4 hl4 hB4))
  have hRa := ((hR1.below hB2 (by omega)).below hB3 (by omega)).below hB4 (by omega)
  have hRb := (hR2.below hB3 (by omega)).below hB4 (by omega)
  have hRs := hR3.below hB4 (by omega)
  have hB : Below w.heap.size w w4 := ((hB1.trans (hB2.mono (by omega))).trans (hB3.mono (by omega))).trans (hB4.mono (by omega))
  clear hR1 hR2 hR3 hB1 hB2 hB3 hB4
  go_loopw [9, 7] (fun i c wr => ∃ k : Nat, k ≤ 4 ∧ i = .int .i64 k ∧ c = .int .u64 (brw a b k : Int) ∧ Row wr w3.heap.size 24 (sumTo (a + M256 - b) k) ∧ Below w3.heap.size w4 wr) (fun i _ _ => 4 - (intOf i).toNat)
  case atStart => exact ⟨0, by omega, rfl, by rw [brw_zero]; rfl, by rw [sumTo_zero]; exact hR4, Below.refl _ _⟩
  case round =>
    obtain ⟨k, hk, rfl, rfl, hR, hBr⟩ := hrel
    by_cases hlt : k < 4
    · have hd : decide ((k : Int) < 4) = true := by simp; omega
      go_wp2_with fail
      refine region_mix' [true, true, true, true, true, true, true, true, true, true, true, true, true, false] (fun w' => Row w' w.heap.size 24 (wcells a) ∧ Row w' w1.heap.size 24 (wcells b)) (by kernel_rfl) (by kernel_rfl) ?_
      intro wd hBd hsd
      have hS : Row wd w.heap.size 24 (wcells a) ∧ Row wd w1.heap.size 24 (wcells b) := ⟨((hRa.below hBr (by omega)).below hBd (hRa.below hBr (by omega)).lt), ((hRb.below hBr (by omega)).below hBd (hRb.below hBr (by omega)).lt)⟩
      have hRd := hR.below hBd hR.lt
      simp only [List.length_cons, List.length_nil, List.take_succ_cons, List.take_zero, List.drop_succ_cons, List.drop_zero]
      refine mixMove _ (.int .i64 k) hS rfl rfl rfl ?_; go_frame
      refine mixMove _ (.int .i64 k) hS rfl rfl rfl ?_; go_frame
      refine mixIndexAddr1 _ _ _ _ _ _ _ k _ hS rfl rfl rfl rfl Try.underlying24 info_w64 rfl hlt ?_; go_frame
      refine mixLoad1 _ _ _ _ _ _ _ _ hS rfl rfl rfl (fun _ h => h.1) Try.underlying22 rfl (wcells_get a k hlt) ?_; go_frame
      refine mixMove _ (.int .i64 k) hS rfl rfl rfl ?_; go_frame
      refine mixIndexAddr1 _ _ _ _ _ _ _ k _ hS rfl rfl rfl rfl Try.underlying24 info_w64 rfl hlt ?_; go_frame
      refine mixLoad1 _ _ _ _ _ _ _ _ hS rfl rfl rfl (fun _ h => h.2) Try.underlying22 rfl (wcells_get b k hlt) ?_; go_frame
      refine mixMove _ (.int .u64 (brw a b k : Int)) hS rfl rfl rfl ?_; go_frame
      refine mixCallV3 _ _ _ _ _ _ _ _ (.tuple #[.int .u64 (limb (a + M256 - b) k : Int), .int .u64 (brw a b (k + 1) : Int)]) hS rfl rfl rfl rfl rfl (fun w => by rw [limb_sub a b k (by omega) hlt, brw_succ]; exact run_sub64W _ _ _ (brw_le a b k) w) ?_; go_frame
      refine mixMove _ (.tuple #[.int .u64 (limb (a + M256 - b) k : Int), .int .u64 (brw a b (k + 1) : Int)]) hS rfl rfl rfl ?_; go_frame
      refine mixExtract _ _ _ (.int .u64 (limb (a + M256 - b) k : Int)) hS rfl rfl rfl rfl ?_; go_frame
      refine mixExtract _ _ _ (.int .u64 (brw a b (k + 1) : Int)) hS rfl rfl rfl rfl ?_; go_frame
      refine mixIndexAddr1 _ _ _ _ _ _ _ k _ hS rfl rfl rfl rfl Try.underlying24 info_w64 rfl hlt ?_; go_frame
      refine mixLoud ?_
      refine kStore1 _ _ _ _ _ _ _ (.int .u64 (limb (a + M256 - b) k : Int)) rfl rfl rfl rfl hRd info_w64 (by unfold sumTo; rw [tab_size]; omega) rfl ?_
      intro w5 hR5 hW5
      rw [sumTo_set] at hR5
      refine mixOn ⟨⟨hW5.row hS.1 (by omega), hW5.row hS.2 (by omega)⟩, ?_⟩
      go_frame
      refine mixEnd ?_
      have hB5 : Below w3.heap.size w4 w5 := (hBr.trans (hBd.mono (Nat.le_of_lt hR.lt))).trans (hW5.below (Nat.le_refl _))
      clear hW5 hRd hS hBd hsd
      go_wp2
      go_roundw
      case rel => exact ⟨k + 1, by omega, by go_num, rfl, hR5, hB5⟩
      case measure => simp [intOf]; omega
    · obtain rfl : k = 4 := by omega
      rw [sumTo_four] at hR
      have hRq := hRs.below hBr (by omega)
      have hBq : Below w.heap.size w wr := hB.trans (hBr.mono (by omega))
      go_wp2_with (first
        | ((with_reducible change wpList _ _ _ (Oper.mk (some 26) _ _ _ _ _ :: _) _ _); refine kLoadRow _ _ _ _ _ _ rfl rfl rfl hR Try.underlying24 rfl (info_WideC _) ?_)
        | ((with_reducible change wpList _ _ _ (Oper.mk none _ _ _ _ _ :: _) _ _); refine kStoreRow _ _ _ _ _ _ _ rfl rfl rfl rfl hRq (info_WideC _) (by simp only [wcells_size]) (wcells_one _) ?_; intro w6 hR6 hW6))
      refine result_row_tmp Try.results24 rfl rfl hR6 Try.underlying24 rfl (info_WideC _) rfl ⟨?_, hBq.trans (hW6.below (by omega))⟩
      rw [brw_four a b ha hb]
      by_cases hm : a < b <;> simp [hm]
set_option maxRecDepth 100000 in
set_option maxHeartbeats 1000000 in
theorem wLess_any (a b : Nat) (ha : a < M256) (hb : b < M256) (w : World) :
    Calls Try.prog 23 #[WV a, WV b] w fun e w' => e = .returned (.bool (decide (a < b))) ∧ Below w.heap.size w w' := by
  unfold WV
  go_enter Try.func23, Try.ntmps23
  go_wp2_with (first
    | ((with_reducible change wpList _ _ _ (Oper.mk (some 2) _ _ _ _ _ :: _) _ _); refine kBoxL _ _ _ rfl rfl rfl ?_; intro w1 hR1 hl1 hB1)
    | ((with_reducible change wpList _ _ _ (Oper.mk (some 3) _ _ _ _ _ :: _) _ _); refine kBoxL _ _ _ rfl rfl rfl ?_; intro w2 hR2 hl2 hB2)
    | ((with_reducible change wpList _ _ _ (Oper.mk (some 8) _ _ _ _ _ :: _) _ _); refine kLoadRow _ _ _ _ _ _ rfl rfl rfl (hR1.below hB2 hR1.lt) Try.underlying24 rfl (info_WideC _) ?_)
    | ((with_reducible change wpList _ _ _ (Oper.mk (some 9) _ _ _ _ _ :: _) _ _); refine kLoadRow _ _ _ _ _ _ rfl rfl rfl hR2 Try.underlying24 rfl (info_WideC _) ?_)
    | (go_at_call 24; refine (wSub_any a b ha hb _).mono ?_; rintro e w3 ⟨rfl, hB3⟩; have hl3 := hB3.size; unfold WV)
    | ((with_reducible change wpList _ _ _ (Oper.mk (some 5) _ _ _ _ _ :: _) _ _); refine kAllocL _ _ rfl rfl zero_Wide ?_; intro w4 hR4 hl4 hB4)
    | ((with_reducible change wpList _ _ _ (Oper.mk none _ _ _ _ _ :: _) _ _); refine kStoreRow _ _ _ _ _ _ _ rfl rfl rfl rfl hR4 (info_WideC _) (by simp only [wcells_size]) (wcells_one _) ?_; intro w5 hR5 hW5))
  go_ret
  exact ⟨rfl, (((hB1.trans (hB2.mono (by omega))).trans (hB3.mono (by omega))).trans (hB4.mono (by omega))).trans (hW5.below (by omega))⟩

theorem of_cells (n : Nat) (h : n < 18446744073709551616) : wcells n = tab 4 fun j => .int .u64 ((if j = 0 then n else 0 : Nat) : Int) := tab_congr fun j hj => by
  have h1 : n < P64 1 := by simpa [P64] using h
  match j, hj with
  | 0, _ => unfold limb; rw [P64_zero, Nat.div_one, Nat.mod_eq_of_lt h, if_pos rfl]
  | j + 1, _ =>
    have h2 : P64 1 ≤ P64 (j + 1) := Nat.pow_le_pow_right (by decide) (by omega)
    unfold limb
    rw [Nat.div_eq_of_lt (by omega), if_neg (by omega)]
theorem of_lit (n : Nat) (h : n < 18446744073709551616) : wcells n = #[.int .u64 (n : Int), .int .u64 0, .int .u64 0, .int .u64 0] := by rw [of_cells n h]; rfl

set_option maxRecDepth 100000 in
set_option maxHeartbeats 1000000 in
theorem wOf_any (n : Nat) (h : n < 18446744073709551616) (w : World) :
    Calls Try.prog 29 #[.int .u64 (n : Int)] w fun e w' => e = .returned (WV n) ∧ Below w.heap.size w w' := by
  unfold WV
  go_enter Try.func29, Try.ntmps29
  go_wp2_with (first
    | ((with_reducible change wpList _ _ _ (Oper.mk (some 2) _ _ _ _ _ :: _) _ _); refine kAllocL _ _ rfl rfl zero_Wide ?_; intro w1 hR1 hl1 hB1)
    | ((with_reducible change wpList _ _ _ (Oper.mk none _ _ _ _ _ :: _) _ _); refine kStoreRow _ _ _ _ _ _ (wcells n) rfl rfl rfl (congrArg Value.agg (of_lit n h).symm) hR1 (info_WideC _) (by simp only [wcells_size]) (wcells_one _) ?_; intro w5 hR5 hW5))
  exact result_row Try.results29 rfl hR5 Try.underlying24 rfl (info_WideC _) rfl ⟨rfl, hB1.trans (hW5.below (by omega))⟩
end Go.Proofs.Ytdeggdmoijfhdaa

/-
  The walks of math/bits.Mul64 and Len64, and of wide's mulAdd.
-/
namespace Go.Proofs.Ytdeggdmoijfhdaa
open Go Go.RowKit

theorem and32 (x : Nat) (h : x < 18446744073709551616) : bits .and .u64 (x : Int) 4294967295 = ((x % 4294967296 : Nat) : Int) := by
  have := u64_and_nat x 4294967295 h (by decide)
  rw [show (4294967295 : Int) = ((4294967295 : Nat) : Int) from rfl, this, show (4294967295 : Nat) = 2 ^ 32 - 1 from rfl, Nat.and_two_pow_sub_one_eq_mod]

theorem wrap64 (n : Nat) : IntKind.u64.wrap (n : Int) = ((n % 18446744073709551616 : Nat) : Int) := by
  rw [IntKind.wrap_u64]; omega
theorem wrap64_lt (n : Nat) (h : n < 18446744073709551616) : IntKind.u64.wrap (n : Int) = (n : Int) := by rw [wrap64, Nat.mod_eq_of_lt h]
theorem mul_lt32 {a b : Nat} (ha : a < 4294967296) (hb : b < 4294967296) : a * b ≤ 18446744065119617025 := by
  have := Nat.mul_le_mul (Nat.le_of_lt_succ ha) (Nat.le_of_lt_succ hb)
  omega
theorem mul64_hi (x y : Nat) (hx : x < 18446744073709551616) (hy : y < 18446744073709551616) :
    IntKind.u64.wrap (IntKind.u64.wrap (IntKind.u64.wrap ((x : Int) / 4294967296 * ((y : Int) / 4294967296)) +
      IntKind.u64.wrap (IntKind.u64.wrap ((x : Int) / 4294967296 * ((y : Int) % 4294967296)) + IntKind.u64.wrap ((x : Int) % 4294967296 * ((y : Int) % 4294967296)) / 4294967296) / 4294967296) +
      IntKind.u64.wrap (bits BinOp.and IntKind.u64 (IntKind.u64.wrap (IntKind.u64.wrap ((x : Int) / 4294967296 * ((y : Int) % 4294967296)) + IntKind.u64.wrap ((x : Int) % 4294967296 * ((y : Int) % 4294967296)) / 4294967296)) 4294967295 +
        IntKind.u64.wrap ((x : Int) % 4294967296 * ((y : Int) / 4294967296))) / 4294967296) = ((x * y / 18446744073709551616 : Nat) : Int) := by
  have ex1 : (x : Int) / 4294967296 = ((x / 4294967296 : Nat) : Int) := by omega
  have ex0 : (x : Int) % 4294967296 = ((x % 4294967296 : Nat) : Int) := by omega
  have ey1 : (y : Int) / 4294967296 = ((y / 4294967296 : Nat) : Int) := by omega
  have ey0 : (y : Int) % 4294967296 = ((y % 4294967296 : Nat) : Int) := by omega
  rw [ex1, ex0, ey1, ey0]
  have hx1 : x / 4294967296 < 4294967296 := by omega
  have hx0 : x % 4294967296 < 4294967296 := by omega
  have hy1 : y / 4294967296 < 4294967296 := by omega
  have hy0 : y % 4294967296 < 4294967296 := by omega
  have hxy : x * y = x / 4294967296 * (y / 4294967296) * 18446744073709551616 + (x / 4294967296 * (y % 4294967296) + x % 4294967296 * (y / 4294967296)) * 4294967296 + x % 4294967296 * (y % 4294967296) := by
    conv => lhs; rw [show x = x / 4294967296 * 4294967296 + x % 4294967296 by omega, show y = y / 4294967296 * 4294967296 + y % 4294967296 by omega]
    generalize x / 4294967296 = a; generalize x % 4294967296 = b; generalize y / 4294967296 = c; generalize y % 4294967296 = d
    rw [Nat.add_mul, Nat.mul_add, Nat.mul_add, Nat.add_mul]
    rw [show a * 4294967296 * (c * 4294967296) = a * c * 18446744073709551616 by rw [Nat.mul_mul_mul_comm]]
    rw [show a * 4294967296 * d = a * d * 4294967296 by rw [Nat.mul_right_comm], show b * (c * 4294967296) = b * c * 4294967296 by rw [Nat.mul_assoc]]
    omega
  rw [hxy]
  have hp := mul_lt32 hx1 hy1; have hq := mul_lt32 hx1 hy0; have hr := mul_lt32 hx0 hy1; have hs := mul_lt32 hx0 hy0
  generalize x / 4294967296 = a at *; generalize x % 4294967296 = b at *; generalize y / 4294967296 = c at *; generalize y % 4294967296 = d at *
  simp only [← Int.natCast_mul]
  generalize a * c = p at *; generalize a * d = q at *; generalize b * c = r at *; generalize b * d = s at *
  rw [wrap64_lt p (by omega), wrap64_lt q (by omega), wrap64_lt r (by omega), wrap64_lt s (by omega)]
  have e1 : (s : Int) / 4294967296 = ((s / 4294967296 : Nat) : Int) := by omega
  rw [e1, ← Int.natCast_add, wrap64_lt (q + s / 4294967296) (by omega), and32 _ (by omega), ← Int.natCast_add, wrap64_lt ((q + s / 4294967296) % 4294967296 + r) (by omega)]
  have e2 : ((q + s / 4294967296 : Nat) : Int) / 4294967296 = (((q + s / 4294967296) / 4294967296 : Nat) : Int) := by omega
  rw [e2, ← Int.natCast_add]
  have hxy2 : p * 18446744073709551616 + (q + r) * 4294967296 + s < 340282366920938463463374607431768211456 := by
    rw [← hxy]
    exact Nat.lt_of_le_of_lt (Nat.mul_le_mul (Nat.le_of_lt_succ hx) (Nat.le_of_lt_succ hy)) (by decide)
  rw [wrap64_lt (p + (q + s / 4294967296) / 4294967296) (by omega)]
  have e3 : (((q + s / 4294967296) % 4294967296 + r : Nat) : Int) / 4294967296 = ((((q + s / 4294967296) % 4294967296 + r) / 4294967296 : Nat) : Int) := by omega
  rw [e3, ← Int.natCast_add, wrap64_lt _ (by omega)]
  congr 1
  omega

set_option maxRecDepth 100000 in
set_option maxHeartbeats 1000000 in
theorem Mul64_any (x y : Nat) (hx : x < 18446744073709551616) (hy : y < 18446744073709551616) (w : World) :
    Calls Try.prog 69 #[.int .u64 x, .int .u64 y] w fun e w' => e = .returned (.tuple #[.int .u64 ((x * y / 18446744073709551616 : Nat) : Int), .int .u64 ((x * y % 18446744073709551616 : Nat) : Int)]) ∧ w = w' := by
  have h1 := and32 x hx
  have h2 := and32 y hy
  go_enter Try.func69, Try.ntmps69
  go_wp2
  refine bodyPost_ret (results_tmp2 Try.results69 _ _ _) rfl ⟨?_, rfl⟩
  show Ending.returned (.tuple #[.int .u64 _, .int .u64 (IntKind.u64.wrap ((x : Int) * (y : Int)))]) = _
  rw [mul64_hi x y hx hy, ← Int.natCast_mul, wrap64]

set_option maxRecDepth 100000 in
set_option maxHeartbeats 1000000 in
theorem mulAdd_any (x y p q : Nat) (hx : x < 18446744073709551616) (hy : y < 18446744073709551616) (hp : p < 18446744073709551616) (hq : q < 18446744073709551616) (w : World) :
    Calls Try.prog 58 #[.int .u64 x, .int .u64 y, .int .u64 p, .int .u64 q] w fun e w' => e = .returned (.tuple #[.int .u64 (((x * y + p + q) % 18446744073709551616 : Nat) : Int), .int .u64 (((x * y + p + q) / 18446744073709551616 : Nat) : Int)]) ∧ w = w' := by
  go_enter Try.func58, Try.ntmps58
  go_wp2_with (first
    | (go_at_call 69; refine (Mul64_any x y hx hy _).mono ?_; rintro e w1 ⟨rfl, rfl⟩; (generalize hhi : x * y / 18446744073709551616 = hi); (generalize hlo : x * y % 18446744073709551616 = lo); have Hhi := Lib.hid hhi; have Hlo := Lib.hid hlo; clear hhi hlo)
    | ((with_reducible change wpList _ _ _ (Oper.mk (some 22) _ _ _ _ _ :: _) _ _); refine kCallV3 _ _ _ _ _ _ _ _ _ rfl rfl rfl rfl rfl (run_add64W lo p 0 (by decide) _) ?_; (generalize hc1 : (lo + p + 0) / 18446744073709551616 = c1); (generalize hs1 : (lo + p + 0) % 18446744073709551616 = s1); have Hc1 := Lib.hid hc1; have Hs1 := Lib.hid hs1; clear hc1 hs1)
    | ((with_reducible change wpList _ _ _ (Oper.mk (some 31) _ _ _ _ _ :: _) _ _); refine kCallV3 _ _ _ _ _ _ _ _ _ rfl rfl rfl rfl rfl (run_add64W s1 q 0 (by decide) _) ?_; (generalize hc2 : (s1 + q + 0) / 18446744073709551616 = c2); (generalize hs2 : (s1 + q + 0) % 18446744073709551616 = s2); have Hc2 := Lib.hid hc2; have Hs2 := Lib.hid hs2; clear hc2 hs2))
  refine bodyPost_ret (results_tmp2 Try.results58 _ _ _) rfl ⟨?_, rfl⟩
  have h1 := Hhi.out; have h2 := Hlo.out; have h3 := Hc1.out; have h4 := Hs1.out; have h5 := Hc2.out; have h6 := Hs2.out
  have hle : x * y ≤ 340282366920938463426481119284349108225 := Nat.mul_le_mul (Nat.le_of_lt_succ hx) (Nat.le_of_lt_succ hy)
  generalize x * y = xy at *
  show Ending.returned (.tuple #[.int .u64 (s2 : Int), .int .u64 (IntKind.u64.wrap (IntKind.u64.wrap ((hi : Int) + (c1 : Int)) + (c2 : Int)))]) = _
  rw [← Int.natCast_add, wrap64, ← Int.natCast_add, wrap64]
  have e1 : s2 = (xy + p + q) % 18446744073709551616 := by omega
  have e2 : ((hi + c1) % 18446744073709551616 + c2) % 18446744073709551616 = (xy + p + q) / 18446744073709551616 := by omega
  rw [e1, e2]
end Go.Proofs.Ytdeggdmoijfhdaa

/-
  The walk of wide's Mul: both numbers multiplied, 512 bits.
-/
namespace Go.Proofs.Ytdeggdmoijfhdaa
open Go Go.RowKit

theorem info_arr8 : (Try.prog.info? 86).map (·.size) = some 8 := by kernel_rfl
theorem zero_arr8 : ((Try.prog.info? 86).bind (·.zero)).map Value.cells = some (tab 8 fun _ => .int .u64 0) := by kernel_rfl

/-- what is in the row of eight once k limbs of a are through, and of the next one m limbs of b -/
def mulN (a b k m : Nat) : Nat := low a k * b + limb a k * low b m * P64 k
def mulTab (a b k m : Nat) : Array Value := tab 8 fun j => .int .u64 ((if j < k + m then limb (mulN a b k m) j else limb (low a k * b) j : Nat) : Int)
def mulRow (n : Nat) : Array Value := tab 8 fun j => .int .u64 (limb n j : Int)
theorem mulN_zero (a b k : Nat) : mulN a b k 0 = low a k * b := by unfold mulN; rw [low_zero]; simp
theorem mulN_four (a b k : Nat) (hb : b < M256) : mulN a b k 4 = low a (k + 1) * b := by
  unfold mulN; rw [low_four b hb, low_succ, Nat.add_mul]; congr 1
  rw [Nat.mul_comm (P64 k), Nat.mul_right_comm]
theorem mulN_succ (a b k m : Nat) : mulN a b k (m + 1) = mulN a b k m + P64 (k + m) * (limb a k * limb b m) := by
  unfold mulN
  rw [low_succ, Nat.mul_add, Nat.add_mul, Nat.add_assoc]
  congr 1
  congr 1
  have e : P64 (k + m) = P64 k * P64 m := by unfold P64; rw [Nat.pow_add]
  rw [e]
  generalize P64 k = p; generalize P64 m = q; generalize limb a k = x; generalize limb b m = y
  ac_rfl
theorem mulTab_zero (a b k : Nat) : mulTab a b k 0 = mulRow (low a k * b) := tab_congr fun j _ => by
  rw [mulN_zero]; split <;> rfl
theorem limb_mult (n q j k : Nat) (h : j < k) : limb (n + P64 k * q) j = limb n j := by
  have e : P64 k = P64 j * (18446744073709551616 * P64 (k - j - 1)) := by
    unfold P64; rw [← Nat.mul_assoc, ← Nat.pow_succ, ← Nat.pow_add]; congr 1; omega
  unfold limb
  rw [e, Nat.mul_assoc, Nat.add_mul_div_left _ _ (P64_pos j), Nat.mul_assoc, Nat.add_mul_mod_self_left]
theorem div_step (n k : Nat) : n / P64 k = limb n k + 18446744073709551616 * (n / P64 (k + 1)) := by
  unfold limb
  rw [P64_succ, ← Nat.div_div_eq_div_mul, Nat.mod_add_div]
/-- one step of the inner loop -/
theorem mul_step {a b k m c : Nat} (h : mulN a b k m / P64 (k + m) = low a k * b / P64 (k + m) + c) :
    limb (mulN a b k (m + 1)) (k + m) = (limb a k * limb b m + limb (low a k * b) (k + m) + c) % 18446744073709551616 ∧
    mulN a b k (m + 1) / P64 (k + (m + 1)) = low a k * b / P64 (k + (m + 1)) + (limb a k * limb b m + limb (low a k * b) (k + m) + c) / 18446744073709551616 := by
  have e1 : mulN a b k (m + 1) / P64 (k + m) = limb (low a k * b) (k + m) + 18446744073709551616 * (low a k * b / P64 (k + m + 1)) + c + limb a k * limb b m := by
    rw [mulN_succ, Nat.add_mul_div_left _ _ (P64_pos _), h, div_step (low a k * b) (k + m)]
  constructor
  · show mulN a b k (m + 1) / P64 (k + m) % _ = _
    rw [e1]; omega
  · rw [show k + (m + 1) = k + m + 1 from rfl, P64_succ, ← Nat.div_div_eq_div_mul, ← Nat.div_div_eq_div_mul, e1, div_step (low a k * b) (k + m)]
    have hl := limb_lt (low a k * b) (k + m)
    generalize limb a k * limb b m = z
    generalize limb (low a k * b) (k + m) = y at *
    generalize low a k * b / P64 (k + m + 1) = q
    omega
theorem mulTab_set (a b k m : Nat) (v : Nat) (hv : v = limb (mulN a b k (m + 1)) (k + m)) : (mulTab a b k m).setIfInBounds (k + m) (.int .u64 (v : Int)) = mulTab a b k (m + 1) := tab_set fun j hj => by
  subst hv
  by_cases h : j = k + m
  · subst h; rw [if_pos rfl, if_pos (by omega)]
  · rw [if_neg h]
    by_cases h2 : j < k + m
    · rw [if_pos h2, if_pos (by omega), mulN_succ, limb_mult _ _ _ _ h2]
    · rw [if_neg h2, if_neg (by omega)]
theorem mulAdd_bound {x y p q : Nat} (hx : x < 18446744073709551616) (hy : y < 18446744073709551616) (hp : p < 18446744073709551616) (hq : q < 18446744073709551616) : (x * y + p + q) / 18446744073709551616 < 18446744073709551616 := by
  have hle : x * y ≤ 340282366920938463426481119284349108225 := Nat.mul_le_mul (Nat.le_of_lt_succ hx) (Nat.le_of_lt_succ hy)
  omega
theorem low_mul_lt (a b k : Nat) (hb : b < M256) : low a k * b < P64 (k + 4) := by
  have h1 := low_lt a k
  have e : P64 (k + 4) = P64 k * M256 := by rw [← P64_four]; unfold P64; rw [Nat.pow_add]
  rw [e]
  exact Nat.lt_of_le_of_lt (Nat.mul_le_mul_right b (Nat.le_of_lt h1)) (Nat.mul_lt_mul_of_pos_left hb (P64_pos k))
theorem mulRow_end (a b k c : Nat) (hb : b < M256) (h : mulN a b k 4 / P64 (k + 4) = low a k * b / P64 (k + 4) + c) : (mulTab a b k 4).setIfInBounds (k + 4) (.int .u64 (c : Int)) = mulRow (low a (k + 1) * b) := tab_set fun j hj => by
  rw [mulN_four a b k hb] at *
  have hT := low_mul_lt a b k hb
  have hN := low_mul_lt a b (k + 1) hb
  rw [Nat.div_eq_of_lt hT, Nat.zero_add] at h
  by_cases hjk : j = k + 4
  · subst hjk
    rw [if_pos rfl]
    congr 2
    unfold limb
    rw [h]
    have : c < 18446744073709551616 := by
      rw [← h]
      rw [show k + 1 + 4 = k + 4 + 1 by omega, P64_succ] at hN
      exact Nat.div_lt_of_lt_mul hN
    exact Nat.mod_eq_of_lt this
  · rw [if_neg hjk]
    by_cases h2 : j < k + 4
    · rw [if_pos h2]
    · rw [if_neg h2]
      have hP : P64 (k + 4) ≤ P64 j := Nat.pow_le_pow_right (by decide) (by omega)
      have hP2 : P64 (k + 1 + 4) ≤ P64 j := Nat.pow_le_pow_right (by decide) (by omega)
      unfold limb
      rw [Nat.div_eq_of_lt (Nat.lt_of_lt_of_le hN hP2), Nat.div_eq_of_lt (Nat.lt_of_lt_of_le hT hP)]
theorem mulRow_zero : mulRow 0 = tab 8 fun _ => .int .u64 0 := tab_congr fun j _ => by unfold limb; simp
theorem mulRow_low (n : Nat) : (mulRow n).extract 0 4 = wcells n := by
  unfold mulRow wcells tab; rfl
theorem limb_high (n j : Nat) : limb n (4 + j) = limb (n / M256) j := by
  unfold limb; rw [Nat.div_div_eq_div_mul, ← P64_four]; unfold P64; rw [← Nat.pow_add]
theorem mulRow_high (n : Nat) : (mulRow n).extract 4 8 = wcells (n / M256) := by
  have : (mulRow n).extract 4 8 = tab 4 fun j => .int .u64 (limb n (4 + j) : Int) := by unfold mulRow tab; rfl
  rw [this]; exact tab_congr fun j _ => by rw [limb_high]

set_option maxRecDepth 100000 in
set_option maxHeartbeats 2000000 in
theorem wMul_any (a b : Nat) (ha : a < M256) (hb : b < M256) (w : World) :
    Calls Try.prog 51 #[WV a, WV b] w fun e w' => e = .returned (.tuple #[WV (a * b), WV (a * b / M256)]) ∧ Below w.heap.size w w' := by
  unfold WV
  go_enter Try.func51, Try.ntmps51
  go_wp2_with (first
    | ((with_reducible change wpList _ _ _ (Oper.mk (some 2) _ _ _ _ _ :: _) _ _); refine kBoxL _ _ _ rfl rfl rfl ?_; intro w1 hR1 hl1 hB1)
    | ((with_reducible change wpList _ _ _ (Oper.mk (some 3) _ _ _ _ _ :: _) _ _); refine kBoxL _ _ _ rfl rfl rfl ?_; intro w2 hR2 hl2 hB2)
    | ((with_reducible change wpList _ _ _ (Oper.mk (some 4) _ _ _ _ _ :: _) _ _); refine kAllocL _ _ rfl rfl zero_Wide ?_; intro w3 hR3 hl3 hB3)
    | ((with_reducible change wpList _ _ _ (Oper.mk (some 5) _ _ _ _ _ :: _) _ _); refine kAllocL _ _ rfl rfl zero_Wide ?_; intro w4 hR4 hl4 hB4)
    | ((with_reducible change wpList _ _ _ (Oper.mk (some 6) _ _ _ _ _ :: _) _ _); refine kAllocL _ _ rfl rfl zero_arr8 ?_; intro w5 hR5 hl5 hB5)
    | ((with_reducible change wpList _ _ _ (Oper.mk (some 12) _ _ _ _ _ :: _) _ _); refine kLoadRow _ _ _ _ _ _ rfl rfl rfl ((((hR1.below hB2 (by omega)).below hB3 (by omega)).below hB4 (by omega)).below hB5 (by omega)) Try.underlying24 rfl (info_WideC _) ?_))
  have hRb := ((hR2.below hB3 (by omega)).below hB4 (by omega)).below hB5 (by omega)
  have hRp := (hR3.below hB4 (by omega)).below hB5 (by omega)
  have hRq := hR4.below hB5 (by omega)
  have hB : Below w.heap.size w w5 := (((hB1.trans (hB2.mono (by omega))).trans (hB3.mono (by omega))).trans (hB4.mono (by omega))).trans (hB5.mono (by omega))
  rw [← mulRow_zero] at hR5
  clear hR1 hR2 hR3 hR4 hB1 hB2 hB3 hB4 hB5
  go_loopw [13] (fun i wr => ∃ k : Nat, k ≤ 4 ∧ i = .int .i64 k ∧ Row wr w4.heap.size 86 (mulRow (low a k * b)) ∧ Below w4.heap.size w5 wr) (fun i _ => 4 - (intOf i).toNat)
  case atStart => exact ⟨0, by omega, rfl, by rw [low_zero, Nat.zero_mul]; exact hR5, Below.refl _ _⟩
  case round =>
    obtain ⟨k, hk, rfl, hR, hBr⟩ := hrel
    by_cases hlt : k < 4
    · have hd : decide ((k : Int) < 4) = true := by simp; omega
      go_wp2_with (first
        | ((with_reducible change wpList _ _ _ (Oper.mk (some 16) _ _ _ _ _ :: _) _ _); refine kIndex _ _ _ _ _ _ _ k _ _ _ rfl rfl rfl rfl Try.underlying24 Try.underlying22 rfl info_w64 rfl hlt (wcells_get a k hlt) ?_)
        | ((with_reducible change wpList _ _ _ (Oper.mk (some 17) _ _ _ _ _ :: _) _ _); refine kLoadRow _ _ _ _ _ _ rfl rfl rfl (hRb.below hBr (by omega)) Try.underlying24 rfl (info_WideC _) ?_))
      go_loopw [18, 9] (fun i c wq => ∃ m cn : Nat, m ≤ 4 ∧ cn < 18446744073709551616 ∧ i = .int .i64 m ∧ c = .int .u64 (cn : Int) ∧ Hid (mulN a b k m / P64 (k + m) = low a k * b / P64 (k + m) + cn) ∧ Row wq w4.heap.size 86 (mulTab a b k m) ∧ Below w4.heap.size w5 wq) (fun i _ _ => 4 - (intOf i).toNat)
      case atStart => exact ⟨0, 0, by omega, by decide, rfl, rfl, Lib.hid (by rw [mulN_zero]; rfl), by rw [mulTab_zero]; exact hR, hBr⟩
      case round =>
        obtain ⟨m, cn, hm, hcn, rfl, rfl, Hc, hRq2, hBq⟩ := hrel
        by_cases hltm : m < 4
        · have hdm : decide ((m : Int) < 4) = true := by simp; omega
          have hst := Lib.hid (mul_step Hc.out)
          have hbd := mulAdd_bound (limb_lt a k) (limb_lt b m) (limb_lt (low a k * b) (k + m)) hcn
          have hget : (mulTab a b k m)[k + m]? = some (.int .u64 (limb (low a k * b) (k + m) : Int)) := by
            unfold mulTab; rw [tab_get _ _ _ (by omega), if_neg (by omega)]
          go_wp2_with (first
            | ((with_reducible change wpList _ _ _ (Oper.mk (some 21) _ _ _ _ _ :: _) _ _); refine kIndex _ _ _ _ _ _ _ m _ _ _ rfl rfl rfl rfl Try.underlying24 Try.underlying22 rfl info_w64 rfl hltm (wcells_get b m hltm) ?_)
            | ((with_reducible change wpList _ _ _ (Oper.mk (some 31) _ _ _ _ _ :: _) _ _); refine kIndexAddr1 _ _ _ _ _ _ _ (k + m) _ rfl rfl rfl rfl Try.underlying86 info_w64 (by omega) (by omega) ?_)
            | ((with_reducible change wpList _ _ _ (Oper.mk (some 32) _ _ _ _ _ :: _) _ _); refine kLoad1 _ _ _ _ _ _ _ _ rfl rfl rfl hRq2 Try.underlying22 rfl hget ?_)
            | (go_at_call 58; refine (mulAdd_any (limb a k) (limb b m) (limb (low a k * b) (k + m)) cn (limb_lt _ _) (limb_lt _ _) (limb_lt _ _) hcn _).mono ?_; rintro e w6 ⟨rfl, rfl⟩; rw [← hst.out.1]; (generalize hc2 : (limb a k * limb b m + limb (low a k * b) (k + m) + cn) / 18446744073709551616 = c2 at *); have Hc2 := Lib.hid hc2; clear hc2)
            | ((with_reducible change wpList _ _ _ (Oper.mk (some 37) _ _ _ _ _ :: _) _ _); refine kIndexAddr1 _ _ _ _ _ _ _ (k + m) _ rfl rfl rfl rfl Try.underlying86 info_w64 (by omega) (by omega) ?_)
            | ((with_reducible change wpList _ _ _ (Oper.mk none _ _ _ _ _ :: _) _ _); refine kStore1 _ _ _ _ _ _ _ (.int .u64 (limb (mulN a b k (m + 1)) (k + m) : Int)) rfl rfl rfl rfl hRq2 info_w64 (by unfold mulTab; rw [tab_size]; omega) rfl ?_; intro w7 hR7 hW7; rw [mulTab_set _ _ _ _ _ rfl] at hR7))
          go_roundw
          case rel => exact ⟨m + 1, c2, by omega, hbd, by go_num, rfl, Lib.hid hst.out.2, hR7, hBq.trans (hW7.below (Nat.le_refl _))⟩
          case measure => simp [intOf]; omega
        · obtain rfl : m = 4 := by omega
          go_wp2_with (first
            | ((with_reducible change wpList _ _ _ (Oper.mk (some 42) _ _ _ _ _ :: _) _ _); refine kIndexAddr1 _ _ _ _ _ _ _ (k + 4) _ rfl rfl rfl rfl Try.underlying86 info_w64 (by omega) (by omega) ?_)
            | ((with_reducible change wpList _ _ _ (Oper.mk none _ _ _ _ _ :: _) _ _); refine kStore1 _ _ _ _ _ _ _ (.int .u64 (cn : Int)) rfl rfl rfl rfl hRq2 info_w64 (by unfold mulTab; rw [tab_size]; omega) rfl ?_; intro w7 hR7 hW7; rw [mulRow_end _ _ _ _ hb Hc.out] at hR7))
          go_roundw
          case rel => exact ⟨k + 1, by omega, by go_num, hR7, hBq.trans (hW7.below (Nat.le_refl _))⟩
          case measure => simp [intOf]; omega
    · obtain rfl : k = 4 := by omega
      rw [low_four a ha] at hR
      have hRpr := hRp.below hBr (by omega)
      have hRqr := hRq.below hBr (by omega)
      have hBw : Below w.heap.size w wr := hB.trans (hBr.mono (by omega))
      go_wp2_with fail
      refine region_mix' [true, true, true, true, true, true, false] (fun w' => Row w' w4.heap.size 86 (mulRow (a * b))) (by kernel_rfl) (by kernel_rfl) ?_
      intro wd hBd hsd
      have hS := hR.below hBd hR.lt
      simp only [List.length_cons, List.length_nil, List.take_succ_cons, List.take_zero, List.drop_succ_cons, List.drop_zero]
      refine mixSliceArrTo _ _ _ _ 8 w4.heap.size 4 _ _ hS rfl rfl rfl rfl Try.underlying86 info_w64 rfl (by decide) ?_; go_frame
      refine mixArrayAt _ _ _ 4 4 8 _ hS rfl rfl rfl Try.underlying24 (by decide) ?_; go_frame
      refine mixLoadAs _ _ _ _ 0 4 _ _ _ hS rfl rfl rfl (fun _ h => h) Try.underlying24 rfl info_Wide (by unfold mulRow; rw [tab_size]; decide) (mulRow_low _) ?_; go_frame
      refine mixSliceArrFrom _ _ _ _ 8 w4.heap.size 4 _ _ hS rfl rfl rfl rfl Try.underlying86 info_w64 rfl (by decide) ?_; go_frame
      refine mixArrayAt _ _ _ 4 4 4 _ hS rfl rfl rfl Try.underlying24 (by decide) ?_; go_frame
      refine mixLoadAs _ _ _ _ 4 4 _ _ _ hS rfl rfl rfl (fun _ h => h) Try.underlying24 rfl info_Wide (by unfold mulRow; rw [tab_size]; decide) (mulRow_high _) ?_; go_frame
      refine mixLoud ?_
      refine kStoreRow _ _ _ _ _ _ _ rfl rfl rfl rfl (hRpr.below hBd hRpr.lt) (info_WideC _) (by simp only [wcells_size]) (wcells_one _) ?_
      intro w6 hR6 hW6
      refine mixOn ⟨hW6.row hS (by omega), ?_⟩
      go_frame
      refine mixEnd ?_
      refine kStoreRow _ _ _ _ _ _ _ rfl rfl rfl rfl (hW6.row (hRqr.below hBd hRqr.lt) (by omega)) (info_WideC _) (by simp only [wcells_size]) (wcells_one _) ?_
      intro w7 hR7 hW7
      go_frame
      go_wp2
      have hlr := hR.lt
      exact result_row2 Try.results51 rfl rfl (hW7.row hR6 (by omega)) Try.underlying24 rfl (info_WideC _) hR7 Try.underlying24 rfl (info_WideC _) rfl ⟨rfl, ((hBw.trans (hBd.mono (by omega))).trans (hW6.below (by omega))).trans (hW7.below (by omega))⟩
end Go.Proofs.Ytdeggdmoijfhdaa

/-
  How many bits a number has; the walks of math/bits.Len64 and of wide's Bits.
-/
namespace Go.Proofs.Ytdeggdmoijfhdaa
open Go Go.RowKit

/-- the least n so that a is less than 2 to the power of n -/
def blen (a : Nat) : Nat := if a = 0 then 0 else a.log2 + 1
theorem blen_le (a n : Nat) : blen a ≤ n ↔ a < 2 ^ n := by
  unfold blen
  by_cases h : a = 0
  · subst h; rw [if_pos rfl]; exact ⟨fun _ => Nat.pow_pos (by decide), fun _ => Nat.zero_le _⟩
  · rw [if_neg h]
    constructor
    · intro h1; exact (Nat.log2_lt h).1 (by omega)
    · intro h1; have := (Nat.log2_lt h).2 h1; omega
theorem blen_unique (a n : Nat) (h1 : a < 2 ^ n) (h2 : n = 0 ∨ 2 ^ (n - 1) ≤ a) : blen a = n := by
  have e1 := (blen_le a n).2 h1
  rcases h2 with h | h
  · omega
  · by_cases e : blen a ≤ n - 1
    · have := (blen_le a (n - 1)).1 e; omega
    · omega
theorem blen_lt (a : Nat) : a < 2 ^ blen a := (blen_le a _).1 (Nat.le_refl _)
theorem blen_ge (a : Nat) (h : a ≠ 0) : 2 ^ (blen a - 1) ≤ a := by
  by_cases e : a < 2 ^ (blen a - 1)
  · have h1 := (blen_le a _).2 e
    have : 0 < blen a := by unfold blen; rw [if_neg h]; omega
    omega
  · omega
theorem blen_pos (a : Nat) (h : a ≠ 0) : 0 < blen a := by unfold blen; rw [if_neg h]; omega
theorem blen_zero : blen 0 = 0 := rfl
theorem blen_shift (x s : Nat) (h : 0 < x / 2 ^ s) : blen x = s + blen (x / 2 ^ s) := by
  have h1 := blen_lt (x / 2 ^ s)
  have h2 := blen_ge (x / 2 ^ s) (by omega)
  have h3 := blen_pos (x / 2 ^ s) (by omega)
  refine blen_unique _ _ ?_ (.inr ?_)
  · rw [Nat.pow_add, Nat.mul_comm]; exact (Nat.div_lt_iff_lt_mul (Nat.pow_pos (by decide))).1 h1
  · rw [show s + blen (x / 2 ^ s) - 1 = s + (blen (x / 2 ^ s) - 1) by omega, Nat.pow_add, Nat.mul_comm]
    exact (Nat.le_div_iff_mul_le (Nat.pow_pos (by decide))).1 h2

def tab8L : List UInt8 := (List.range 256).map fun i => UInt8.ofNat (blen i)
theorem tab8L_len : tab8L.length = 256 := by simp [tab8L]
theorem tab8L_at (j : Nat) (h : j < 256) : B (at8 tab8L j) = (blen j : Int) := by
  have hb : blen j ≤ 8 := (blen_le j 8).2 (by omega)
  have e : at8 tab8L j = UInt8.ofNat (blen j) := by rw [at8_lt _ _ (by rw [tab8L_len]; exact h)]; simp [tab8L]
  rw [e]; unfold B
  simp; omega

theorem kIndexTab8 {P : Program} {ops : Array Oper} {Q : Exit → Act → World → Prop} {rest : List Oper} {o : Oper} {a : Act} {w : World} (T : TypeId) (x y : Operand) (k : IntKind) (i : Int) (ho : o.op = .index T x y) (hg : Region.wanted o (yielded ops a.tmps) = true) (hx : a.eval x = textV tab8L) (hy : a.eval y = .int k i) (hu : P.underlying T = some .string) (hi : 0 ≤ i ∧ i < 256)
    (h : ∀ t : Nat, t ≤ 8 → Hid (t = blen i.toNat) → wpList P ops Q rest (a.put o.dst (.int .u8 (t : Int))) w) : wpList P ops Q (o :: rest) a w := by
  refine kIndexStr T x y k i i.toNat tab8L ho hg hx hy hu (by omega) (by rw [tab8L_len]; omega) ?_
  unfold VB
  rw [tab8L_at _ (by omega)]
  exact h _ ((blen_le _ 8).2 (by omega)) (Lib.hid rfl)
theorem lenEnd (s x t : Nat) (i : Int) (Ht : Hid (t = blen i.toNat)) (hi : i.toNat = x / 2 ^ s) (h : s = 0 ∨ 0 < x / 2 ^ s) : (t : Int) + (s : Int) = (blen x : Int) := by
  have e := Ht.out
  rw [hi] at e
  rcases h with h | h
  · subst h; rw [e]; simp
  · rw [blen_shift x s h, e]; omega

set_option maxRecDepth 100000 in
set_option maxHeartbeats 2000000 in
theorem Len64_any (x : Nat) (hx : x < 18446744073709551616) (w : World) :
    Calls Try.prog 30 #[.int .u64 x] w fun e w' => e = .returned (.int .i64 (blen x : Int)) ∧ w = w' := by
  by_cases h0 : 4294967296 ≤ x
  · have d0 : decide ((x : Int) ≥ 4294967296) = true := by simp; omega
    by_cases h1 : 65536 ≤ x / 4294967296
    · have d1 : decide ((x : Int) / 4294967296 ≥ 65536) = true := by simp; omega
      by_cases h2 : 256 ≤ x / 4294967296 / 65536
      · have d2 : decide ((x : Int) / 4294967296 / 65536 ≥ 256) = true := by simp; omega
        go_enter Try.func30, Try.ntmps30
        go_wp2_with (first
          | ((with_reducible change wpList _ _ _ (Oper.mk (some 22) _ _ _ _ _ :: _) _ _); refine kIndexTab8 _ _ _ _ _ rfl rfl (by kernel_rfl) rfl Try.underlying9 (by omega) ?_; intro t ht8 Ht))
        go_ret
        refine ⟨congrArg (fun z => Ending.returned (.int .i64 z)) ?_, rfl⟩
        have e := lenEnd 56 x t _ Ht (by omega) (.inr (by omega))
        omega
      · have d2 : decide ((x : Int) / 4294967296 / 65536 ≥ 256) = false := by simp; omega
        go_enter Try.func30, Try.ntmps30
        go_wp2_with (first
          | ((with_reducible change wpList _ _ _ (Oper.mk (some 22) _ _ _ _ _ :: _) _ _); refine kIndexTab8 _ _ _ _ _ rfl rfl (by kernel_rfl) rfl Try.underlying9 (by omega) ?_; intro t ht8 Ht))
        go_ret
        refine ⟨congrArg (fun z => Ending.returned (.int .i64 z)) ?_, rfl⟩
        have e := lenEnd 48 x t _ Ht (by omega) (.inr (by omega))
        omega
    · have d1 : decide ((x : Int) / 4294967296 ≥ 65536) = false := by simp; omega
      by_cases h2 : 256 ≤ x / 4294967296
      · have d2 : decide ((x : Int) / 4294967296 ≥ 256) = true := by simp; omega
        go_enter Try.func30, Try.ntmps30
        go_wp2_with (first
          | ((with_reducible change wpList _ _ _ (Oper.mk (some 22) _ _ _ _ _ :: _) _ _); refine kIndexTab8 _ _ _ _ _ rfl rfl (by kernel_rfl) rfl Try.underlying9 (by omega) ?_; intro t ht8 Ht))
        go_ret
        refine ⟨congrArg (fun z => Ending.returned (.int .i64 z)) ?_, rfl⟩
        have e := lenEnd 40 x t _ Ht (by omega) (.inr (by omega))
        omega
      · have d2 : decide ((x : Int) / 4294967296 ≥ 256) = false := by simp; omega
        go_enter Try.func30, Try.ntmps30
        go_wp2_with (first
          | ((with_reducible change wpList _ _ _ (Oper.mk (some 22) _ _ _ _ _ :: _) _ _); refine kIndexTab8 _ _ _ _ _ rfl rfl (by kernel_rfl) rfl Try.underlying9 (by omega) ?_; intro t ht8 Ht))
        go_ret
        refine ⟨congrArg (fun z => Ending.returned (.int .i64 z)) ?_, rfl⟩
        have e := lenEnd 32 x t _ Ht (by omega) (.inr (by omega))
        omega
  · have d0 : decide ((x : Int) ≥ 4294967296) = false := by simp; omega
    by_cases h1 : 65536 ≤ x
    · have d1 : decide ((x : Int) ≥ 65536) = true := by simp; omega
      by_cases h2 : 256 ≤ x / 65536
      · have d2 : decide ((x : Int) / 65536 ≥ 256) = true := by simp; omega
        go_enter Try.func30, Try.ntmps30
        go_wp2_with (first
          | ((with_reducible change wpList _ _ _ (Oper.mk (some 22) _ _ _ _ _ :: _) _ _); refine kIndexTab8 _ _ _ _ _ rfl rfl (by kernel_rfl) rfl Try.underlying9 (by omega) ?_; intro t ht8 Ht))
        go_ret
        refine ⟨congrArg (fun z => Ending.returned (.int .i64 z)) ?_, rfl⟩
        have e := lenEnd 24 x t _ Ht (by omega) (.inr (by omega))
        omega
      · have d2 : decide ((x : Int) / 65536 ≥ 256) = false := by simp; omega
        go_enter Try.func30, Try.ntmps30
        go_wp2_with (first
          | ((with_reducible change wpList _ _ _ (Oper.mk (some 22) _ _ _ _ _ :: _) _ _); refine kIndexTab8 _ _ _ _ _ rfl rfl (by kernel_rfl) rfl Try.underlying9 (by omega) ?_; intro t ht8 Ht))
        go_ret
        refine ⟨congrArg (fun z => Ending.returned (.int .i64 z)) ?_, rfl⟩
        have e := lenEnd 16 x t _ Ht (by omega) (.inr (by omega))
        omega
    · have d1 : decide ((x : Int) ≥ 65536) = false := by simp; omega
      by_cases h2 : 256 ≤ x
      · have d2 : decide ((x : Int) ≥ 256) = true := by simp; omega
        go_enter Try.func30, Try.ntmps30
        go_wp2_with (first
          | ((with_reducible change wpList _ _ _ (Oper.mk (some 22) _ _ _ _ _ :: _) _ _); refine kIndexTab8 _ _ _ _ _ rfl rfl (by kernel_rfl) rfl Try.underlying9 (by omega) ?_; intro t ht8 Ht))
        go_ret
        refine ⟨congrArg (fun z => Ending.returned (.int .i64 z)) ?_, rfl⟩
        have e := lenEnd 8 x t _ Ht (by omega) (.inr (by omega))
        omega
      · have d2 : decide ((x : Int) ≥ 256) = false := by simp; omega
        go_enter Try.func30, Try.ntmps30
        go_wp2_with (first
          | ((with_reducible change wpList _ _ _ (Oper.mk (some 22) _ _ _ _ _ :: _) _ _); refine kIndexTab8 _ _ _ _ _ rfl rfl (by kernel_rfl) rfl Try.underlying9 (by omega) ?_; intro t ht8 Ht))
        go_ret
        refine ⟨congrArg (fun z => Ending.returned (.int .i64 z)) ?_, rfl⟩
        have e := lenEnd 0 x t _ Ht (by omega) (.inl rfl)
        omega

theorem P64_pow (k : Nat) : P64 k = 2 ^ (64 * k) := by unfold P64; rw [Nat.pow_mul]
theorem limb_top (a k : Nat) (h : a < P64 (k + 1)) : limb a k = a / P64 k := by
  unfold limb; rw [P64_succ] at h; exact Nat.mod_eq_of_lt (Nat.div_lt_of_lt_mul h)
theorem bits_top (a k : Nat) (h : a < P64 (k + 1)) (h0 : limb a k ≠ 0) : 64 * k + blen (limb a k) = blen a := by
  rw [limb_top a k h] at *
  rw [P64_pow] at *
  exact (blen_shift a (64 * k) (Nat.pos_of_ne_zero h0)).symm
theorem bits_less (a k : Nat) (h : a < P64 (k + 1)) (h0 : limb a k = 0) : a < P64 k := by
  rw [limb_top a k h] at h0
  exact (Nat.div_eq_zero_iff_lt (P64_pos k)).1 h0
theorem blen_limb (a k : Nat) : blen (limb a k) ≤ 64 := (blen_le _ 64).2 (limb_lt a k)

set_option maxRecDepth 100000 in
set_option maxHeartbeats 2000000 in
theorem wBits_any (a : Nat) (ha : a < M256) (w : World) :
    Calls Try.prog 11 #[WV a] w fun e w' => e = .returned (.int .i64 (blen a : Int)) ∧ Below w.heap.size w w' := by
  unfold WV
  go_enter Try.func11, Try.ntmps11
  go_wp2_with (first
    | ((with_reducible change wpList _ _ _ (Oper.mk (some 1) _ _ _ _ _ :: _) _ _); refine kBoxL _ _ _ rfl rfl rfl ?_; intro w1 hR1 hl1 hB1))
  go_loopw [3] (fun i wr => ∃ k : Nat, k ≤ 4 ∧ i = .int .i64 ((k : Int) - 1) ∧ a < P64 k ∧ wr = w1) (fun i _ => (intOf i + 1).toNat)
  case atStart => exact ⟨4, by omega, rfl, by rw [P64_four]; exact ha, rfl⟩
  case round =>
    obtain ⟨k, hk, rfl, hak, rfl⟩ := hrel
    by_cases h0 : k = 0
    · subst h0
      have ha0 : a = 0 := by rw [P64_zero] at hak; omega
      go_wp2
      go_ret
      exact ⟨by rw [ha0]; rfl, hB1⟩
    · obtain ⟨m, rfl⟩ : ∃ m, k = m + 1 := ⟨k - 1, by omega⟩
      have hd : decide (((m + 1 : Nat) : Int) - 1 ≥ 0) = true := by simp
      by_cases hz : limb a m = 0
      · have hn : ((limb a m : Int) != 0) = false := by simp [hz]
        have hless := Lib.hid (bits_less a m hak hz)
        go_wp2_with (first
          | ((with_reducible change wpList _ _ _ (Oper.mk (some 9) _ _ _ _ _ :: _) _ _); refine kIndexAddr1 _ _ _ _ _ _ _ m _ rfl rfl rfl rfl Try.underlying24 info_w64 (by omega) (by omega) ?_)
          | ((with_reducible change wpList _ _ _ (Oper.mk (some 10) _ _ _ _ _ :: _) _ _); refine kLoad1 _ _ _ _ _ _ _ _ rfl rfl rfl hR1 Try.underlying22 rfl (wcells_get a m (by omega)) ?_))
        go_roundw
        case rel => exact ⟨m, by omega, by go_num, hless.out, trivial⟩
        case measure => simp [intOf]
      · have hn : ((limb a m : Int) != 0) = true := by simp; omega
        have htop := Lib.hid (bits_top a m hak hz)
        have h64 := blen_limb a m
        go_wp2_with (first
          | ((with_reducible change wpList _ _ _ (Oper.mk (some 9) _ _ _ _ _ :: _) _ _); refine kIndexAddr1 _ _ _ _ _ _ _ m _ rfl rfl rfl rfl Try.underlying24 info_w64 (by omega) (by omega) ?_)
          | ((with_reducible change wpList _ _ _ (Oper.mk (some 10) _ _ _ _ _ :: _) _ _); refine kLoad1 _ _ _ _ _ _ _ _ rfl rfl rfl hR1 Try.underlying22 rfl (wcells_get a m (by omega)) ?_)
          | ((with_reducible change wpList _ _ _ (Oper.mk (some 15) _ _ _ _ _ :: _) _ _); refine kIndexAddr1 _ _ _ _ _ _ _ m _ rfl rfl rfl rfl Try.underlying24 info_w64 (by omega) (by omega) ?_)
          | ((with_reducible change wpList _ _ _ (Oper.mk (some 16) _ _ _ _ _ :: _) _ _); refine kLoad1 _ _ _ _ _ _ _ _ rfl rfl rfl hR1 Try.underlying22 rfl (wcells_get a m (by omega)) ?_)
          | (go_at_call 30; refine (Len64_any (limb a m) (limb_lt a m) _).mono ?_; rintro e w2 ⟨rfl, rfl⟩))
        go_ret
        refine ⟨congrArg (fun z => Ending.returned (.int .i64 z)) ?_, hB1⟩
        have := htop.out
        omega
end Go.Proofs.Ytdeggdmoijfhdaa

/-
  The walks of wide's Left and Right.
-/
namespace Go.Proofs.Ytdeggdmoijfhdaa
open Go Go.RowKit

/-! ### plain -/
theorem pow_split (r : Nat) (hr : r ≤ 64) : (18446744073709551616 : Nat) = 2 ^ (64 - r) * 2 ^ r := by
  rw [← Nat.pow_add, show 64 - r + r = 64 by omega]
theorem limb_shl0 (a r m : Nat) (hr : r ≤ 64) : limb (a * 2 ^ r) m = (limb a m * 2 ^ r % 18446744073709551616 + (if m = 0 then 0 else limb a (m - 1) / 2 ^ (64 - r))) ∧ (if m = 0 then 0 else limb a (m - 1) / 2 ^ (64 - r)) < 2 ^ r := by
  have h2 : 0 < 2 ^ r := Nat.pow_pos (by decide)
  have hB : (if m = 0 then 0 else limb a (m - 1) / 2 ^ (64 - r)) < 2 ^ r := by
    split
    · exact h2
    · have := limb_lt a (m - 1)
      refine Nat.div_lt_of_lt_mul ?_
      rw [← pow_split r hr]; exact this
  refine ⟨?_, hB⟩
  have e1 : a * 2 ^ r / P64 m = a / P64 m * 2 ^ r + low a m * 2 ^ r / P64 m := by
    have : a * 2 ^ r = low a m * 2 ^ r + P64 m * (a / P64 m * 2 ^ r) := by
      conv => lhs; rw [← Nat.mod_add_div a (P64 m)]
      rw [Nat.add_mul, Nat.mul_assoc]; rfl
    rw [this, Nat.add_mul_div_left _ _ (P64_pos m), Nat.add_comm]
  have e2 : low a m * 2 ^ r / P64 m = if m = 0 then 0 else limb a (m - 1) / 2 ^ (64 - r) := by
    by_cases hm : m = 0
    · subst hm; rw [low_zero, if_pos rfl]; simp
    · rw [if_neg hm]
      obtain ⟨k, rfl⟩ : ∃ k, m = k + 1 := ⟨m - 1, by omega⟩
      rw [P64_succ, pow_split r hr, ← Nat.mul_assoc, Nat.mul_div_mul_right _ _ h2, ← Nat.div_div_eq_div_mul, Nat.add_sub_cancel]
      congr 1
      rw [low_succ, Nat.add_mul_div_left _ _ (P64_pos k), Nat.div_eq_of_lt (low_lt a k), Nat.zero_add]
  show a * 2 ^ r / P64 m % _ = _
  rw [e1, e2]
  generalize (if m = 0 then 0 else limb a (m - 1) / 2 ^ (64 - r)) = e at *
  have e3 : (a / P64 m * 2 ^ r) % 18446744073709551616 = limb a m * 2 ^ r % 18446744073709551616 := by
    unfold limb; rw [Nat.mod_mul_mod]
  have e4 : limb a m * 2 ^ r % 18446744073709551616 + 2 ^ r ≤ 18446744073709551616 := by
    rw [pow_split r hr, Nat.mul_mod_mul_right, ← Nat.add_one_mul]
    exact Nat.mul_le_mul_right _ (Nat.mod_lt _ (Nat.pow_pos (by decide)))
  rw [Nat.add_mod, e3, Nat.mod_eq_of_lt (show e < 18446744073709551616 by omega)]
  exact Nat.mod_eq_of_lt (by omega)
theorem limb_shlq (a q r m : Nat) : limb (a * 2 ^ (64 * q + r)) (q + m) = limb (a * 2 ^ r) m := by
  have e : a * 2 ^ (64 * q + r) = a * 2 ^ r * P64 q := by rw [Nat.pow_add, ← P64_pow, Nat.mul_comm (P64 q), Nat.mul_assoc]
  have e2 : P64 (q + m) = P64 m * P64 q := by unfold P64; rw [← Nat.pow_add, Nat.add_comm]
  unfold limb
  rw [e, e2, Nat.mul_div_mul_right _ _ (P64_pos q)]
theorem limb_shl_low (a q r j : Nat) (h : j < q) : limb (a * 2 ^ (64 * q + r)) j = 0 := by
  have e : a * 2 ^ (64 * q + r) = 0 + P64 q * (a * 2 ^ r) := by rw [Nat.pow_add, ← P64_pow, Nat.zero_add]; ac_rfl
  rw [e, limb_mult _ _ _ _ h]; unfold limb; simp
theorem shl_or (a r m : Nat) (hr : r ≤ 64) (hm : m ≠ 0) : bits .or .u64 ((limb a m * 2 ^ r % 18446744073709551616 : Nat) : Int) ((limb a (m - 1) / 2 ^ (64 - r) : Nat) : Int) = ((limb (a * 2 ^ r) m : Nat) : Int) := by
  obtain ⟨e, hB⟩ := limb_shl0 a r m hr
  rw [if_neg hm] at e hB
  have h1 : limb a m * 2 ^ r % 18446744073709551616 < 18446744073709551616 := Nat.mod_lt _ (by decide)
  have h2 : limb a (m - 1) / 2 ^ (64 - r) < 18446744073709551616 := Nat.lt_of_le_of_lt (Nat.div_le_self _ _) (limb_lt _ _)
  rw [u64_or_nat _ _ h1 h2, e]
  congr 1
  have e4 : limb a m * 2 ^ r % 18446744073709551616 = 2 ^ r * (limb a m % 2 ^ (64 - r)) := by
    rw [pow_split r hr, Nat.mul_mod_mul_right, Nat.mul_comm]
  rw [e4]
  exact (Nat.two_pow_add_eq_or_of_lt hB _).symm

theorem shl_val (x r : Nat) : IntKind.u64.wrap ((x : Int) * 2 ^ r) = ((x * 2 ^ r % 18446744073709551616 : Nat) : Int) := by
  rw [← wrap64, Int.natCast_mul, Int.natCast_pow]; rfl
theorem shr_val (x r : Nat) : (x : Int) / 2 ^ r = ((x / 2 ^ r : Nat) : Int) := by
  rw [Int.natCast_ediv, Int.natCast_pow]; rfl
theorem shlm_val (x r : Nat) : (x : Int) * 2 ^ r % 18446744073709551616 = ((x * 2 ^ r % 18446744073709551616 : Nat) : Int) := by
  rw [Int.natCast_emod, Int.natCast_mul, Int.natCast_pow]; rfl
theorem set_set (cs : Array Value) (i : Nat) (u v : Value) : (cs.setIfInBounds i u).setIfInBounds i v = cs.setIfInBounds i v := by simp
/-- the first k cells of the number, the others nought -/
theorem sumTo_low (n q : Nat) (h : ∀ j, j < q → limb n j = 0) : sumTo n q = wcells 0 := by
  rw [wcells_zero]; exact tab_congr fun j _ => by
    split
    · rw [h j (by assumption)]; rfl
    · rfl

set_option maxRecDepth 100000 in
set_option maxHeartbeats 2000000 in
theorem wLeft_pos (a N : Nat) (h1 : 1 ≤ N) (hN : N < 9223372036854775808) (w : World) :
    Calls Try.prog 47 #[WV a, .int .i64 (N : Int)] w fun e w' => e = .returned (WV (a * 2 ^ N)) ∧ Below w.heap.size w w' := by
  unfold WV
  obtain ⟨q, r, hr, hq⟩ : ∃ q r, r < 64 ∧ N = 64 * q + r := ⟨N / 64, N % 64, Nat.mod_lt _ (by decide), (Nat.div_add_mod N 64).symm⟩
  have e1 : (N : Int) / 64 = (q : Int) := by omega
  have e2 : (N : Int) % 64 = (r : Int) := by omega
  have hqN : q < 144115188075855872 := by omega
  have Hq := Lib.hid hq
  clear hq
  go_enter Try.func47, Try.ntmps47
  go_wp2_with (first
    | ((with_reducible change wpList _ _ _ (Oper.mk (some 2) _ _ _ _ _ :: _) _ _); refine kBoxL _ _ _ rfl rfl rfl ?_; intro w1 hR1 hl1 hB1)
    | ((with_reducible change wpList _ _ _ (Oper.mk (some 4) _ _ _ _ _ :: _) _ _); refine kAllocL _ _ rfl rfl zero_Wide ?_; intro w2 hR2 hl2 hB2)
    | ((with_reducible change wpList _ _ _ (Oper.mk (some 5) _ _ _ _ _ :: _) _ _); refine kAllocL _ _ rfl rfl zero_Wide ?_; intro w3 hR3 hl3 hB3))
  have hRa := (hR1.below hB2 (by omega)).below hB3 (by omega)
  have hRm := hR2.below hB3 (by omega)
  have hB : Below w.heap.size w w3 := (hB1.trans (hB2.mono (by omega))).trans (hB3.mono (by omega))
  rw [e2]
  clear hR1 hR2 hB1 hB2 hB3 e1 e2
  go_loopw [8] (fun i wr => ∃ m : Nat, (m = 0 ∨ q + m ≤ 4) ∧ i = .int .i64 ((q : Int) + (m : Int)) ∧ Row wr w2.heap.size 24 (sumTo (a * 2 ^ N) (q + m)) ∧ Below w2.heap.size w3 wr) (fun i _ => 4 - (intOf i).toNat)
  case atStart => exact ⟨0, by omega, by simp, by rw [sumTo_low _ _ (fun j hj => by rw [Hq.out]; exact limb_shl_low a q r j hj)]; exact hR3, Below.refl _ _⟩
  case round =>
    obtain ⟨m, hm, rfl, hR, hBr⟩ := hrel
    by_cases hlt : q + m < 4
    · have hd : decide ((q : Int) + (m : Int) < 4) = true := by simp; omega
      have hRar := hRa.below hBr (by omega)
      have hget : (sumTo (a * 2 ^ N) (q + m)).size = 4 := by unfold sumTo; exact tab_size _ _
      by_cases hm0 : m = 0
      · have hd0 : decide ((q : Int) + (m : Int) > (q : Int)) = false := by simp; omega
        have hval : limb (a * 2 ^ N) (q + m) = limb a m * 2 ^ r % 18446744073709551616 := by
          rw [Hq.out, limb_shlq, (limb_shl0 a r m (by omega)).1, if_pos hm0, Nat.add_zero]
        have Hval := Lib.hid hval
        clear hval hm0
        go_wp2_with (first
          | ((with_reducible change wpList _ _ _ (Oper.mk (some 25) _ _ _ _ _ :: _) _ _); refine kIndexAddr1 _ _ _ _ _ _ _ m _ rfl rfl rfl rfl Try.underlying24 info_w64 (by omega) (by omega) ?_)
          | ((with_reducible change wpList _ _ _ (Oper.mk (some 26) _ _ _ _ _ :: _) _ _); refine kLoad1 _ _ _ _ _ _ _ _ rfl rfl rfl hRar Try.underlying22 rfl (wcells_get a m (by omega)) ?_)
          | ((with_reducible change wpList _ _ _ (Oper.mk (some 29) _ _ _ _ _ :: _) _ _); refine kIndexAddr1 _ _ _ _ _ _ _ (q + m) _ rfl rfl rfl rfl Try.underlying24 info_w64 (by omega) (by omega) ?_)
          | ((with_reducible change wpList _ _ _ (Oper.mk none _ _ _ _ _ :: _) _ _); refine kStore1 _ _ _ _ _ _ _ (.int .u64 (limb (a * 2 ^ N) (q + m) : Int)) rfl rfl rfl (congrArg (Value.int IntKind.u64) (by rw [Hval.out]; exact shl_val _ _)) hR info_w64 (by rw [hget]; omega) rfl ?_; intro w5 hR5 hW5; rw [sumTo_set] at hR5))
        go_roundw
        case rel => exact ⟨m + 1, by omega, by go_num, hR5, hBr.trans (hW5.below (by omega))⟩
        case measure => simp [intOf]; omega
      · have hd0 : decide ((q : Int) + (m : Int) > (q : Int)) = true := by simp; omega
        have hval : bits .or .u64 ((limb a m * 2 ^ r % 18446744073709551616 : Nat) : Int) ((limb a (m - 1) / 2 ^ (64 - r) : Nat) : Int) = (limb (a * 2 ^ N) (q + m) : Int) := by
          rw [Hq.out, limb_shlq]; exact shl_or a r m (by omega) hm0
        have Hval := Lib.hid hval
        have hm1 : 1 ≤ m := by omega
        clear hval hm0
        go_wp2_with (first
          | ((with_reducible change wpList _ _ _ (Oper.mk (some 25) _ _ _ _ _ :: _) _ _); refine kIndexAddr1 _ _ _ _ _ _ _ m _ rfl rfl rfl rfl Try.underlying24 info_w64 (by omega) (by omega) ?_)
          | ((with_reducible change wpList _ _ _ (Oper.mk (some 26) _ _ _ _ _ :: _) _ _); refine kLoad1 _ _ _ _ _ _ _ _ rfl rfl rfl hRar Try.underlying22 rfl (wcells_get a m (by omega)) ?_)
          | ((with_reducible change wpList _ _ _ (Oper.mk (some 29) _ _ _ _ _ :: _) _ _); refine kIndexAddr1 _ _ _ _ _ _ _ (q + m) _ rfl rfl rfl rfl Try.underlying24 info_w64 (by omega) (by omega) ?_)
          | ((with_reducible change wpList _ _ _ (Oper.mk none _ _ _ _ _ :: _) _ _); refine kStore1 _ _ _ _ _ _ _ (.int .u64 ((limb a m * 2 ^ r % 18446744073709551616 : Nat) : Int)) rfl rfl rfl (congrArg (Value.int IntKind.u64) (shl_val _ _)) hR info_w64 (by rw [hget]; omega) rfl ?_; intro w5 hR5 hW5))
        have hR5a := hW5.row hRar (by omega)
        have hg5 : ((sumTo (a * 2 ^ N) (q + m)).setIfInBounds (q + m) (.int .u64 ((limb a m * 2 ^ r % 18446744073709551616 : Nat) : Int)))[q + m]? = some (.int .u64 ((limb a m * 2 ^ r % 18446744073709551616 : Nat) : Int)) := by
          rw [Array.getElem?_setIfInBounds_self_of_lt (by rw [hget]; omega)]
        refine region_drew_tail 14 (by kernel_rfl) (by kernel_rfl) ?_
        simp only [List.take_succ_cons, List.take_zero, List.drop_succ_cons, List.drop_zero]
        repeat (first
          | ((with_reducible change wpQuiet _ _ _ _ (Oper.mk (some 34) _ _ _ _ _ :: _) _); refine qIndexAddr1 _ _ _ _ _ _ _ (q + m) _ rfl rfl rfl rfl Try.underlying24 info_w64 (by omega) (by omega) ?_; go_frame)
          | ((with_reducible change wpQuiet _ _ _ _ (Oper.mk (some 35) _ _ _ _ _ :: _) _); refine qLoad1 _ _ _ _ _ _ _ _ rfl rfl rfl (fun _ ⟨_, e⟩ => by rw [e]; exact hR5) Try.underlying22 rfl hg5 ?_; go_frame)
          | ((with_reducible change wpQuiet _ _ _ _ (Oper.mk (some 40) _ _ _ _ _ :: _) _); refine qIndexAddr1 _ _ _ _ _ _ _ (m - 1) _ rfl rfl rfl rfl Try.underlying24 info_w64 (by omega) (by omega) ?_; go_frame)
          | ((with_reducible change wpQuiet _ _ _ _ (Oper.mk (some 41) _ _ _ _ _ :: _) _); refine qLoad1 _ _ _ _ _ _ _ _ rfl rfl rfl (fun _ ⟨_, e⟩ => by rw [e]; exact hR5a) Try.underlying22 rfl (wcells_get a (m - 1) (by omega)) ?_; go_frame)
          | ((with_reducible change wpQuiet _ _ _ _ (Oper.mk (some 46) _ _ _ _ _ :: _) _); refine qIndexAddr1 _ _ _ _ _ _ _ (q + m) _ rfl rfl rfl rfl Try.underlying24 info_w64 (by omega) (by omega) ?_; go_frame)
          | go_big_quiet_step (fail))
        refine wpQuiet_nil ?_
        rintro _ ⟨nq, rfl⟩
        refine kStore1 _ _ _ _ _ (q + m) _ (.int .u64 (limb (a * 2 ^ N) (q + m) : Int)) rfl rfl rfl (congrArg (Value.int IntKind.u64) (by rw [shr_val, shlm_val]; exact Hval.out)) (hR5.drewN nq) info_w64 (by rw [Array.size_setIfInBounds, hget]; omega) rfl ?_
        intro w6 hR6 hW6
        rw [set_set, sumTo_set] at hR6
        have hB6 : Below w2.heap.size w3 w6 := (hBr.trans (hW5.below (by omega))).trans ⟨hW6.os, hW6.tape, hW6.output, Nat.le_of_eq hW6.size.symm, fun k hk => hW6.other k (by omega)⟩
        go_wp2
        go_roundw
        case rel => exact ⟨m + 1, by omega, by go_num, hR6, hB6⟩
        case measure => simp [intOf]; omega
    · have hd : decide ((q : Int) + (m : Int) < 4) = false := by simp; omega
      have hend : sumTo (a * 2 ^ N) (q + m) = wcells (a * 2 ^ N) := tab_congr fun j hj => by rw [if_pos (by omega)]
      rw [hend] at hR
      have hRmr := hRm.below hBr (by omega)
      have hBw : Below w.heap.size w wr := hB.trans (hBr.mono (by omega))
      clear hend
      go_wp2_with (first
        | ((with_reducible change wpList _ _ _ (Oper.mk (some 47) _ _ _ _ _ :: _) _ _); refine kLoadRow _ _ _ _ _ _ rfl rfl rfl hR Try.underlying24 rfl (info_WideC _) ?_)
        | ((with_reducible change wpList _ _ _ (Oper.mk none _ _ _ _ _ :: _) _ _); refine kStoreRow _ _ _ _ _ _ _ rfl rfl rfl rfl hRmr (info_WideC _) (by simp only [wcells_size]) (wcells_one _) ?_; intro w6 hR6 hW6))
      exact result_row Try.results47 rfl hR6 Try.underlying24 rfl (info_WideC _) rfl ⟨rfl, hBw.trans (hW6.below (by omega))⟩
theorem div_shr (a q r j : Nat) (hr : r ≤ 64) : a / 2 ^ (64 * q + r) / P64 j = limb a (q + j) / 2 ^ r + 2 ^ (64 - r) * (a / P64 (q + j + 1)) := by
  have h2 : 0 < 2 ^ r := Nat.pow_pos (by decide)
  have e : a / 2 ^ (64 * q + r) / P64 j = a / P64 (q + j) / 2 ^ r := by
    rw [Nat.pow_add, ← P64_pow, Nat.div_div_eq_div_mul, Nat.div_div_eq_div_mul]
    congr 1
    have : P64 (q + j) = P64 q * P64 j := by unfold P64; rw [Nat.pow_add]
    rw [this]; ac_rfl
  rw [e, div_step a (q + j), pow_split r hr, Nat.mul_comm (2 ^ (64 - r)) (2 ^ r), Nat.mul_assoc, Nat.add_mul_div_left _ _ h2]
theorem limb_shr_last (a q r j : Nat) (hr : r ≤ 64) (h : a < P64 (q + j + 1)) : limb (a / 2 ^ (64 * q + r)) j = limb a (q + j) / 2 ^ r := by
  show a / 2 ^ (64 * q + r) / P64 j % _ = _
  rw [div_shr a q r j hr, Nat.div_eq_of_lt h, Nat.mul_zero, Nat.add_zero]
  exact Nat.mod_eq_of_lt (Nat.lt_of_le_of_lt (Nat.div_le_self _ _) (limb_lt _ _))
theorem shr_or (a q r j : Nat) (hr : r ≤ 64) : bits .or .u64 ((limb a (q + j) / 2 ^ r : Nat) : Int) ((limb a (q + j + 1) * 2 ^ (64 - r) % 18446744073709551616 : Nat) : Int) = ((limb (a / 2 ^ (64 * q + r)) j : Nat) : Int) := by
  have h2 : 0 < 2 ^ r := Nat.pow_pos (by decide)
  have hb : limb a (q + j) / 2 ^ r < 2 ^ (64 - r) := by
    refine Nat.div_lt_of_lt_mul ?_
    have := limb_lt a (q + j)
    rw [Nat.mul_comm, ← pow_split r hr]; exact this
  have h1 : limb a (q + j + 1) * 2 ^ (64 - r) % 18446744073709551616 < 18446744073709551616 := Nat.mod_lt _ (by decide)
  rw [u64_or_nat _ _ (Nat.lt_of_le_of_lt (Nat.div_le_self _ _) (limb_lt _ _)) h1]
  congr 1
  have e4 : limb a (q + j + 1) * 2 ^ (64 - r) % 18446744073709551616 = 2 ^ (64 - r) * (limb a (q + j + 1) % 2 ^ r) := by
    rw [pow_split r hr, Nat.mul_comm, Nat.mul_mod_mul_left]
  have e5 : limb a (q + j + 1) % 2 ^ r = a / P64 (q + j + 1) % 2 ^ r := by
    unfold limb
    rw [pow_split r hr]
    exact Nat.mod_mod_of_dvd _ (Nat.dvd_mul_left _ _)
  rw [e4, e5, Nat.or_comm, ← Nat.two_pow_add_eq_or_of_lt hb]
  show _ = a / 2 ^ (64 * q + r) / P64 j % _
  rw [div_shr a q r j hr]
  have e6 : (2 ^ (64 - r) * (a / P64 (q + j + 1))) % 18446744073709551616 = 2 ^ (64 - r) * (a / P64 (q + j + 1) % 2 ^ r) := by
    rw [pow_split r hr, Nat.mul_mod_mul_left]
  have e7 : 2 ^ (64 - r) * (a / P64 (q + j + 1) % 2 ^ r) + 2 ^ (64 - r) ≤ 18446744073709551616 := by
    rw [pow_split r hr, ← Nat.mul_add_one]
    exact Nat.mul_le_mul_left _ (Nat.mod_lt _ h2)
  rw [Nat.add_comm (limb a (q + j) / 2 ^ r), Nat.add_mod, e6, Nat.mod_eq_of_lt (show limb a (q + j) / 2 ^ r < 18446744073709551616 by omega)]
  exact (Nat.mod_eq_of_lt (by omega)).symm
theorem sumTo_high (n k : Nat) (h : ∀ j, j < 4 → k ≤ j → limb n j = 0) : sumTo n k = wcells n := tab_congr fun j hj => by
  split
  · rfl
  · rw [h j hj (by omega)]
theorem limb_shr_high (a q r j : Nat) (ha : a < M256) (hr : r ≤ 64) (h : 4 ≤ q + j) : limb (a / 2 ^ (64 * q + r)) j = 0 := by
  have hP : M256 ≤ P64 (q + j) := by rw [← P64_four]; exact Nat.pow_le_pow_right (by decide) h
  have hP2 : M256 ≤ P64 (q + j + 1) := by rw [← P64_four]; exact Nat.pow_le_pow_right (by decide) (by omega)
  show a / 2 ^ (64 * q + r) / P64 j % _ = _
  rw [div_shr a q r j hr, Nat.div_eq_of_lt (show a < P64 (q + j + 1) by omega)]
  unfold limb
  rw [Nat.div_eq_of_lt (show a < P64 (q + j) by omega)]
  simp
theorem sumTo_size (n k : Nat) : (sumTo n k).size = 4 := by unfold sumTo; exact tab_size _ _

set_option maxRecDepth 100000 in
set_option maxHeartbeats 2000000 in
theorem wRight_pos (a N : Nat) (ha : a < M256) (h1 : 1 ≤ N) (hN : N < 9223372036854775808) (w : World) :
    Calls Try.prog 26 #[WV a, .int .i64 (N : Int)] w fun e w' => e = .returned (WV (a / 2 ^ N)) ∧ Below w.heap.size w w' := by
  unfold WV
  obtain ⟨q, r, hr, hq⟩ : ∃ q r, r < 64 ∧ N = 64 * q + r := ⟨N / 64, N % 64, Nat.mod_lt _ (by decide), (Nat.div_add_mod N 64).symm⟩
  have e1 : (N : Int) / 64 = (q : Int) := by omega
  have e2 : (N : Int) % 64 = (r : Int) := by omega
  have hqN : q < 144115188075855872 := by omega
  have Hq := Lib.hid hq
  clear hq
  go_enter Try.func26, Try.ntmps26
  go_wp2_with (first
    | ((with_reducible change wpList _ _ _ (Oper.mk (some 2) _ _ _ _ _ :: _) _ _); refine kBoxL _ _ _ rfl rfl rfl ?_; intro w1 hR1 hl1 hB1)
    | ((with_reducible change wpList _ _ _ (Oper.mk (some 4) _ _ _ _ _ :: _) _ _); refine kAllocL _ _ rfl rfl zero_Wide ?_; intro w2 hR2 hl2 hB2)
    | ((with_reducible change wpList _ _ _ (Oper.mk (some 5) _ _ _ _ _ :: _) _ _); refine kAllocL _ _ rfl rfl zero_Wide ?_; intro w3 hR3 hl3 hB3))
  have hRa := (hR1.below hB2 (by omega)).below hB3 (by omega)
  have hRm := hR2.below hB3 (by omega)
  have hB : Below w.heap.size w w3 := (hB1.trans (hB2.mono (by omega))).trans (hB3.mono (by omega))
  rw [e2]
  clear hR1 hR2 hB1 hB2 hB3 e1 e2
  go_loopw [8] (fun i wr => ∃ m : Nat, (m = 0 ∨ q + m ≤ 4) ∧ i = .int .i64 ((q : Int) + (m : Int)) ∧ Row wr w2.heap.size 24 (sumTo (a / 2 ^ N) m) ∧ Below w2.heap.size w3 wr) (fun i _ => 4 - (intOf i).toNat)
  case atStart => exact ⟨0, by omega, by simp, by rw [sumTo_zero]; exact hR3, Below.refl _ _⟩
  case round =>
    obtain ⟨m, hm, rfl, hR, hBr⟩ := hrel
    by_cases hlt : q + m < 4
    · have hd : decide ((q : Int) + (m : Int) < 4) = true := by simp; omega
      have hRar := hRa.below hBr (by omega)
      by_cases hm0 : q + m = 3
      · have hd0 : decide ((q : Int) + (m : Int) + 1 < 4) = false := by simp; omega
        have hval : limb (a / 2 ^ N) m = limb a (q + m) / 2 ^ r := by
          rw [Hq.out]; exact limb_shr_last a q r m (by omega) (by rw [hm0, P64_four]; exact ha)
        have Hval := Lib.hid hval
        clear hval hm0
        go_wp2_with (first
          | ((with_reducible change wpList _ _ _ (Oper.mk (some 25) _ _ _ _ _ :: _) _ _); refine kIndexAddr1 _ _ _ _ _ _ _ (q + m) _ rfl rfl rfl rfl Try.underlying24 info_w64 (by omega) (by omega) ?_)
          | ((with_reducible change wpList _ _ _ (Oper.mk (some 26) _ _ _ _ _ :: _) _ _); refine kLoad1 _ _ _ _ _ _ _ _ rfl rfl rfl hRar Try.underlying22 rfl (wcells_get a (q + m) (by omega)) ?_)
          | ((with_reducible change wpList _ _ _ (Oper.mk (some 29) _ _ _ _ _ :: _) _ _); refine kIndexAddr1 _ _ _ _ _ _ _ m _ rfl rfl rfl rfl Try.underlying24 info_w64 (by omega) (by omega) ?_)
          | ((with_reducible change wpList _ _ _ (Oper.mk none _ _ _ _ _ :: _) _ _); refine kStore1 _ _ _ _ _ _ _ (.int .u64 (limb (a / 2 ^ N) m : Int)) rfl rfl rfl (congrArg (Value.int IntKind.u64) (by rw [Hval.out]; exact shr_val _ _)) hR info_w64 (by rw [sumTo_size]; omega) rfl ?_; intro w5 hR5 hW5; rw [sumTo_set] at hR5))
        go_roundw
        case rel => exact ⟨m + 1, by omega, by go_num, hR5, hBr.trans (hW5.below (by omega))⟩
        case measure => simp [intOf]; omega
      · have hd0 : decide ((q : Int) + (m : Int) + 1 < 4) = true := by simp; omega
        have hval : bits .or .u64 ((limb a (q + m) / 2 ^ r : Nat) : Int) ((limb a (q + m + 1) * 2 ^ (64 - r) % 18446744073709551616 : Nat) : Int) = (limb (a / 2 ^ N) m : Int) := by
          rw [Hq.out]; exact shr_or a q r m (by omega)
        have Hval := Lib.hid hval
        clear hval
        go_wp2_with (first
          | ((with_reducible change wpList _ _ _ (Oper.mk (some 25) _ _ _ _ _ :: _) _ _); refine kIndexAddr1 _ _ _ _ _ _ _ (q + m) _ rfl rfl rfl rfl Try.underlying24 info_w64 (by omega) (by omega) ?_)
          | ((with_reducible change wpList _ _ _ (Oper.mk (some 26) _ _ _ _ _ :: _) _ _); refine kLoad1 _ _ _ _ _ _ _ _ rfl rfl rfl hRar Try.underlying22 rfl (wcells_get a (q + m) (by omega)) ?_)
          | ((with_reducible change wpList _ _ _ (Oper.mk (some 29) _ _ _ _ _ :: _) _ _); refine kIndexAddr1 _ _ _ _ _ _ _ m _ rfl rfl rfl rfl Try.underlying24 info_w64 (by omega) (by omega) ?_)
          | ((with_reducible change wpList _ _ _ (Oper.mk none _ _ _ _ _ :: _) _ _); refine kStore1 _ _ _ _ _ _ _ (.int .u64 ((limb a (q + m) / 2 ^ r : Nat) : Int)) rfl rfl rfl (congrArg (Value.int IntKind.u64) (shr_val _ _)) hR info_w64 (by rw [sumTo_size]; omega) rfl ?_; intro w5 hR5 hW5))
        have hR5a := hW5.row hRar (by omega)
        have hg5 : ((sumTo (a / 2 ^ N) m).setIfInBounds m (.int .u64 ((limb a (q + m) / 2 ^ r : Nat) : Int)))[m]? = some (.int .u64 ((limb a (q + m) / 2 ^ r : Nat) : Int)) := by
          rw [Array.getElem?_setIfInBounds_self_of_lt (by rw [sumTo_size]; omega)]
        refine region_drew_tail 14 (by kernel_rfl) (by kernel_rfl) ?_
        simp only [List.take_succ_cons, List.take_zero, List.drop_succ_cons, List.drop_zero]
        repeat (first
          | ((with_reducible change wpQuiet _ _ _ _ (Oper.mk (some 36) _ _ _ _ _ :: _) _); refine qIndexAddr1 _ _ _ _ _ _ _ m _ rfl rfl rfl rfl Try.underlying24 info_w64 (by omega) (by omega) ?_; go_frame)
          | ((with_reducible change wpQuiet _ _ _ _ (Oper.mk (some 37) _ _ _ _ _ :: _) _); refine qLoad1 _ _ _ _ _ _ _ _ rfl rfl rfl (fun _ ⟨_, e⟩ => by rw [e]; exact hR5) Try.underlying22 rfl hg5 ?_; go_frame)
          | ((with_reducible change wpQuiet _ _ _ _ (Oper.mk (some 40) _ _ _ _ _ :: _) _); refine qIndexAddr1 _ _ _ _ _ _ _ (q + m + 1) _ rfl rfl rfl rfl Try.underlying24 info_w64 (by omega) (by omega) ?_; go_frame)
          | ((with_reducible change wpQuiet _ _ _ _ (Oper.mk (some 41) _ _ _ _ _ :: _) _); refine qLoad1 _ _ _ _ _ _ _ _ rfl rfl rfl (fun _ ⟨_, e⟩ => by rw [e]; exact hR5a) Try.underlying22 rfl (wcells_get a (q + m + 1) (by omega)) ?_; go_frame)
          | ((with_reducible change wpQuiet _ _ _ _ (Oper.mk (some 46) _ _ _ _ _ :: _) _); refine qIndexAddr1 _ _ _ _ _ _ _ m _ rfl rfl rfl rfl Try.underlying24 info_w64 (by omega) (by omega) ?_; go_frame)
          | go_big_quiet_step (fail))
        refine wpQuiet_nil ?_
        rintro _ ⟨nq, rfl⟩
        refine kStore1 _ _ _ _ _ m _ (.int .u64 (limb (a / 2 ^ N) m : Int)) rfl rfl rfl (congrArg (Value.int IntKind.u64) (by first | (rw [shr_val, shl_val]; exact Hval.out) | (rw [shr_val, shlm_val]; exact Hval.out))) (hR5.drewN nq) info_w64 (by rw [Array.size_setIfInBounds, sumTo_size]; omega) rfl ?_
        intro w6 hR6 hW6
        rw [set_set, sumTo_set] at hR6
        have hB6 : Below w2.heap.size w3 w6 := (hBr.trans (hW5.below (by omega))).trans ⟨hW6.os, hW6.tape, hW6.output, Nat.le_of_eq hW6.size.symm, fun k hk => hW6.other k (by omega)⟩
        go_wp2
        go_roundw
        case rel => exact ⟨m + 1, by omega, by go_num, hR6, hB6⟩
        case measure => simp [intOf]; omega
    · have hd : decide ((q : Int) + (m : Int) < 4) = false := by simp; omega
      rw [sumTo_high _ _ (fun j hj hmj => by rw [Hq.out]; exact limb_shr_high a q r j ha (by omega) (by omega))] at hR
      have hRmr := hRm.below hBr (by omega)
      have hBw : Below w.heap.size w wr := hB.trans (hBr.mono (by omega))
      go_wp2_with (first
        | ((with_reducible change wpList _ _ _ (Oper.mk (some 47) _ _ _ _ _ :: _) _ _); refine kLoadRow _ _ _ _ _ _ rfl rfl rfl hR Try.underlying24 rfl (info_WideC _) ?_)
        | ((with_reducible change wpList _ _ _ (Oper.mk none _ _ _ _ _ :: _) _ _); refine kStoreRow _ _ _ _ _ _ _ rfl rfl rfl rfl hRmr (info_WideC _) (by simp only [wcells_size]) (wcells_one _) ?_; intro w6 hR6 hW6))
      exact result_row Try.results26 rfl hR6 Try.underlying24 rfl (info_WideC _) rfl ⟨rfl, hBw.trans (hW6.below (by omega))⟩

set_option maxRecDepth 100000 in
set_option maxHeartbeats 2000000 in
theorem wLeft_neg (a : Nat) (z : Int) (hz : z < 1) (w : World) :
    Calls Try.prog 47 #[WV a, .int .i64 z] w fun e w' => e = .returned (WV a) ∧ Below w.heap.size w w' := by
  unfold WV
  have hd : decide (z < 1) = true := by simp; omega
  go_enter Try.func47, Try.ntmps47
  go_wp2_with (first
    | ((with_reducible change wpList _ _ _ (Oper.mk (some 2) _ _ _ _ _ :: _) _ _); refine kBoxL _ _ _ rfl rfl rfl ?_; intro w1 hR1 hl1 hB1)
    | ((with_reducible change wpList _ _ _ (Oper.mk (some 4) _ _ _ _ _ :: _) _ _); refine kAllocL _ _ rfl rfl zero_Wide ?_; intro w2 hR2 hl2 hB2)
    | ((with_reducible change wpList _ _ _ (Oper.mk (some 11) _ _ _ _ _ :: _) _ _); refine kLoadRow _ _ _ _ _ _ rfl rfl rfl (hR1.below hB2 (by omega)) Try.underlying24 rfl (info_WideC _) ?_)
    | ((with_reducible change wpList _ _ _ (Oper.mk none _ _ _ _ _ :: _) _ _); refine kStoreRow _ _ _ _ _ _ _ rfl rfl rfl rfl hR2 (info_WideC _) (by simp only [wcells_size]) (wcells_one _) ?_; intro w6 hR6 hW6))
  exact result_row Try.results47 rfl hR6 Try.underlying24 rfl (info_WideC _) rfl ⟨rfl, (hB1.trans (hB2.mono (by omega))).trans (hW6.below (by omega))⟩

set_option maxRecDepth 100000 in
set_option maxHeartbeats 2000000 in
theorem wRight_neg (a : Nat) (z : Int) (hz : z < 1) (w : World) :
    Calls Try.prog 26 #[WV a, .int .i64 z] w fun e w' => e = .returned (WV a) ∧ Below w.heap.size w w' := by
  unfold WV
  have hd : decide (z < 1) = true := by simp; omega
  go_enter Try.func26, Try.ntmps26
  go_wp2_with (first
    | ((with_reducible change wpList _ _ _ (Oper.mk (some 2) _ _ _ _ _ :: _) _ _); refine kBoxL _ _ _ rfl rfl rfl ?_; intro w1 hR1 hl1 hB1)
    | ((with_reducible change wpList _ _ _ (Oper.mk (some 4) _ _ _ _ _ :: _) _ _); refine kAllocL _ _ rfl rfl zero_Wide ?_; intro w2 hR2 hl2 hB2)
    | ((with_reducible change wpList _ _ _ (Oper.mk (some 11) _ _ _ _ _ :: _) _ _); refine kLoadRow _ _ _ _ _ _ rfl rfl rfl (hR1.below hB2 (by omega)) Try.underlying24 rfl (info_WideC _) ?_)
    | ((with_reducible change wpList _ _ _ (Oper.mk none _ _ _ _ _ :: _) _ _); refine kStoreRow _ _ _ _ _ _ _ rfl rfl rfl rfl hR2 (info_WideC _) (by simp only [wcells_size]) (wcells_one _) ?_; intro w6 hR6 hW6))
  exact result_row Try.results26 rfl hR6 Try.underlying24 rfl (info_WideC _) rfl ⟨rfl, (hB1.trans (hB2.mono (by omega))).trans (hW6.below (by omega))⟩

theorem wLeft_any (a : Nat) (z : Int) (hz : z < 9223372036854775808) (w : World) :
    Calls Try.prog 47 #[WV a, .int .i64 z] w fun e w' => e = .returned (WV (a * 2 ^ z.toNat)) ∧ Below w.heap.size w w' := by
  by_cases h : z < 1
  · have := wLeft_neg a z h w
    rwa [show z.toNat = 0 by omega, Nat.pow_zero, Nat.mul_one]
  · obtain ⟨N, rfl⟩ := Int.eq_ofNat_of_zero_le (show 0 ≤ z by omega)
    exact wLeft_pos a N (by omega) (by omega) w
theorem wRight_any (a : Nat) (z : Int) (ha : a < M256) (hz : z < 9223372036854775808) (w : World) :
    Calls Try.prog 26 #[WV a, .int .i64 z] w fun e w' => e = .returned (WV (a / 2 ^ z.toNat)) ∧ Below w.heap.size w w' := by
  by_cases h : z < 1
  · have := wRight_neg a z h w
    rwa [show z.toNat = 0 by omega, Nat.pow_zero, Nat.div_one]
  · obtain ⟨N, rfl⟩ := Int.eq_ofNat_of_zero_le (show 0 ≤ z by omega)
    exact wRight_pos a N ha (by omega) (by omega) w
end Go.Proofs.Ytdeggdmoijfhdaa

/-
  The walk of wide's Div: how often b goes into a, and what is left.
-/
namespace Go.Proofs.Ytdeggdmoijfhdaa
open Go Go.RowKit

/-! ### plain -/
theorem limb_bit (s n : Nat) : limb (2 ^ (n + 1) * s + 2 ^ n) (n / 64) = limb (2 ^ (n + 1) * s) (n / 64) ||| 2 ^ (n % 64) := by
  obtain ⟨q, r, hr, rfl⟩ : ∃ q r, r < 64 ∧ n = 64 * q + r := ⟨n / 64, n % 64, Nat.mod_lt _ (by decide), (Nat.div_add_mod n 64).symm⟩
  have e1 : (64 * q + r) / 64 = q := by omega
  have e2 : (64 * q + r) % 64 = r := by omega
  rw [e1, e2]
  have e3 : 2 ^ (64 * q + r + 1) * s = P64 q * (2 ^ (r + 1) * s) := by
    rw [show 64 * q + r + 1 = 64 * q + (r + 1) by omega, Nat.pow_add, ← P64_pow, Nat.mul_assoc]
  have e4 : 2 ^ (64 * q + r) = P64 q * 2 ^ r := by rw [Nat.pow_add, ← P64_pow]
  rw [e3, e4, ← Nat.mul_add]
  unfold limb
  rw [Nat.mul_div_cancel_left _ (P64_pos q), Nat.mul_div_cancel_left _ (P64_pos q)]
  have hp := pow_split (r + 1) (by omega)
  have h2 : 2 ^ r < 2 ^ (r + 1) := Nat.pow_lt_pow_right (by decide) (by omega)
  have e5 : 2 ^ (r + 1) * s % 18446744073709551616 = 2 ^ (r + 1) * (s % 2 ^ (64 - (r + 1))) := by
    rw [hp, Nat.mul_comm (2 ^ (64 - (r + 1))), Nat.mul_mod_mul_left]
  have e6 : 2 ^ (r + 1) * (s % 2 ^ (64 - (r + 1))) + 2 ^ (r + 1) ≤ 18446744073709551616 := by
    rw [hp, Nat.mul_comm (2 ^ (64 - (r + 1))), ← Nat.mul_add_one]
    exact Nat.mul_le_mul_left _ (Nat.mod_lt _ (Nat.pow_pos (by decide)))
  rw [e5, ← Nat.two_pow_add_eq_or_of_lt h2, Nat.add_mod, e5, Nat.mod_eq_of_lt (show 2 ^ r < 18446744073709551616 by omega)]
  exact Nat.mod_eq_of_lt (by omega)
theorem limb_bit_ne (s n j : Nat) (h : j ≠ n / 64) : limb (2 ^ (n + 1) * s + 2 ^ n) j = limb (2 ^ (n + 1) * s) j := by
  by_cases hj : j < n / 64
  · have e : 2 ^ n = P64 (n / 64) * 2 ^ (n % 64) := by rw [P64_pow, ← Nat.pow_add, Nat.div_add_mod]
    rw [e, limb_mult _ _ _ _ hj]
  · have e : P64 j = 2 ^ (n + 1) * 2 ^ (64 * j - (n + 1)) := by rw [P64_pow, ← Nat.pow_add]; congr 1; omega
    have h2 : 2 ^ n < 2 ^ (n + 1) := Nat.pow_lt_pow_right (by decide) (by omega)
    unfold limb
    congr 1
    rw [e, ← Nat.div_div_eq_div_mul, ← Nat.div_div_eq_div_mul, Nat.mul_add_div (Nat.pow_pos (by decide)), Nat.div_eq_of_lt h2, Nat.add_zero, Nat.mul_div_cancel_left _ (Nat.pow_pos (by decide))]
theorem wcells_bit (t s n v : Nat) (ht : t = 2 ^ (n + 1) * s) (hv : v = limb t (n / 64) ||| 2 ^ (n % 64)) : (wcells t).setIfInBounds (n / 64) (.int .u64 (v : Int)) = wcells (t + 2 ^ n) := tab_set fun j hj => by
  subst ht; subst hv
  by_cases h : j = n / 64
  · subst h; rw [if_pos rfl, limb_bit]
  · rw [if_neg h, limb_bit_ne _ _ _ h]

theorem pow_wrap (r : Nat) (h : r < 64) : IntKind.u64.wrap ((2 : Int) ^ r) = ((2 ^ r : Nat) : Int) := by
  have h2 : 2 ^ r < 2 ^ 64 := Nat.pow_lt_pow_right (by decide) h
  have e : ((2 : Int) ^ r) = ((2 ^ r : Nat) : Int) := by rw [Int.natCast_pow]; rfl
  rw [e, wrap64_lt _ h2]
theorem or_bit (l r : Nat) (hl : l < 18446744073709551616) (h : r < 64) : bits .or .u64 (l : Int) (IntKind.u64.wrap ((2 : Int) ^ r)) = ((l ||| 2 ^ r : Nat) : Int) := by
  have h2 : 2 ^ r < 2 ^ 64 := Nat.pow_lt_pow_right (by decide) h
  rw [pow_wrap r h, u64_or_nat _ _ hl h2]

/-- what holds of the loop: n + 1 is k -/
structure DivInv (a b k c t : Nat) : Prop where
  whole : a = t * b + c
  small : c < b * 2 ^ k
  mult : ∃ s, t = 2 ^ k * s
  fits : 1 ≤ k → b * 2 ^ (k - 1) < M256
theorem divInv_start (a b : Nat) (ha : a < M256) (hb : b ≠ 0) (h : blen b ≤ blen a) : DivInv a b (blen a - blen b + 1) a 0 := by
  have h1 := blen_lt a
  have h2 := blen_ge b hb
  have h3 := blen_pos b hb
  have h4 := blen_lt b
  have hA : blen a ≤ 256 := (blen_le a 256).2 (by simpa [M256] using ha)
  refine ⟨by simp, ?_, ⟨0, by simp⟩, fun _ => ?_⟩
  · have e : 2 ^ blen a = 2 ^ (blen b - 1) * 2 ^ (blen a - blen b + 1) := by rw [← Nat.pow_add]; congr 1; omega
    rw [e] at h1
    exact Nat.lt_of_lt_of_le h1 (Nat.mul_le_mul_right _ h2)
  · rw [Nat.add_sub_cancel]
    have e : 2 ^ blen b * 2 ^ (blen a - blen b) = 2 ^ blen a := by rw [← Nat.pow_add]; congr 1; omega
    have h5 : b * 2 ^ (blen a - blen b) < 2 ^ blen a := by
      rw [← e]; exact Nat.mul_lt_mul_of_pos_right h4 (Nat.pow_pos (by decide))
    have h6 : 2 ^ blen a ≤ 2 ^ 256 := Nat.pow_le_pow_right (by decide) hA
    have : M256 = 2 ^ 256 := by decide
    omega
theorem divInv_less (a b : Nat) (h : blen a < blen b) : DivInv a b 0 a 0 := by
  have hlt : a < b := by
    have h1 := blen_lt a
    have hb : b ≠ 0 := fun e => by subst e; rw [blen_zero] at h; omega
    have h2 := blen_ge b hb
    have : 2 ^ blen a ≤ 2 ^ (blen b - 1) := Nat.pow_le_pow_right (by decide) (by omega)
    omega
  exact ⟨by simp, by simpa using hlt, ⟨0, by simp⟩, fun h => by omega⟩
theorem divInv_yes {a b n c t : Nat} (h : DivInv a b (n + 1) c t) (hc : b * 2 ^ n ≤ c) : DivInv a b n (c - b * 2 ^ n) (t + 2 ^ n) := by
  obtain ⟨h1, h2, ⟨s, h3⟩, h4⟩ := h
  refine ⟨?_, ?_, ⟨2 * s + 1, ?_⟩, fun hn => ?_⟩
  · rw [Nat.add_mul, Nat.mul_comm (2 ^ n) b]; omega
  · rw [Nat.pow_succ, ← Nat.mul_assoc, Nat.mul_two] at h2; omega
  · rw [h3, Nat.mul_add, Nat.mul_one, Nat.pow_succ, Nat.mul_assoc]
  · have := h4 (by omega)
    have h5 : b * 2 ^ (n - 1) ≤ b * 2 ^ n := Nat.mul_le_mul_left _ (Nat.pow_le_pow_right (by decide) (by omega))
    rw [Nat.add_sub_cancel] at this
    omega
theorem divInv_no {a b n c t : Nat} (h : DivInv a b (n + 1) c t) (hc : c < b * 2 ^ n) : DivInv a b n c t := by
  obtain ⟨h1, h2, ⟨s, h3⟩, h4⟩ := h
  refine ⟨h1, hc, ⟨2 * s, ?_⟩, fun hn => ?_⟩
  · rw [h3, Nat.pow_succ, Nat.mul_assoc]
  · have := h4 (by omega)
    have h5 : b * 2 ^ (n - 1) ≤ b * 2 ^ n := Nat.mul_le_mul_left _ (Nat.pow_le_pow_right (by decide) (by omega))
    rw [Nat.add_sub_cancel] at this
    omega
theorem divInv_end {a b c t : Nat} (h : DivInv a b 0 c t) : t = a / b ∧ c = a % b := by
  obtain ⟨h1, h2, -, -⟩ := h
  rw [Nat.pow_zero, Nat.mul_one] at h2
  have hb : 0 < b := by omega
  subst h1
  constructor
  · rw [Nat.mul_comm, Nat.mul_add_div hb, Nat.div_eq_of_lt h2, Nat.add_zero]
  · rw [Nat.mul_comm, Nat.mul_add_mod, Nat.mod_eq_of_lt h2]
theorem divInv_le {a b k c t : Nat} (h : DivInv a b k c t) : c ≤ a := by have := h.whole; omega

set_option maxRecDepth 100000 in
set_option maxHeartbeats 2000000 in
theorem wDiv_zero (a z : Nat) (Hz : Hid (z = 0)) (w : World) :
    Calls Try.prog 40 #[WV a, WV z] w fun e w' => e = .returned (.tuple #[WV z, WV a]) ∧ Below w.heap.size w w' := by
  have hzW : ((Try.prog.info? 24).bind (·.zero)).map Value.cells = some (wcells z) := by rw [Hz.out]; exact zero_Wide
  unfold WV
  go_enter Try.func40, Try.ntmps40
  go_wp2_with (first
    | ((with_reducible change wpList _ _ _ (Oper.mk (some 2) _ _ _ _ _ :: _) _ _); refine kBoxL _ _ _ rfl rfl rfl ?_; intro w1 hR1 hl1 hB1)
    | ((with_reducible change wpList _ _ _ (Oper.mk (some 3) _ _ _ _ _ :: _) _ _); refine kBoxL _ _ _ rfl rfl rfl ?_; intro w2 hR2 hl2 hB2)
    | ((with_reducible change wpList _ _ _ (Oper.mk (some 4) _ _ _ _ _ :: _) _ _); refine kAllocL _ _ rfl rfl hzW ?_; intro w3 hR3 hl3 hB3; go_frame)
    | ((with_reducible change wpList _ _ _ (Oper.mk (some 5) _ _ _ _ _ :: _) _ _); refine kAllocL _ _ rfl rfl hzW ?_; intro w4 hR4 hl4 hB4)
    | ((with_reducible change wpList _ _ _ (Oper.mk (some 6) _ _ _ _ _ :: _) _ _); refine kAllocL _ _ rfl rfl hzW ?_; intro w5 hR5 hl5 hB5; go_frame)
    | ((with_reducible change wpList _ _ _ (Oper.mk (some 10) _ _ _ _ _ :: _) _ _); refine kLoadRow _ _ _ _ _ _ rfl rfl rfl (((hR2.below hB3 (by omega)).below hB4 (by omega)).below hB5 (by omega)) Try.underlying24 rfl (info_WideC _) ?_)
    | ((with_reducible change wpList _ _ _ (Oper.mk (some 11) _ _ _ _ _ :: _) _ _); refine kLoadRow _ _ _ _ _ _ rfl rfl rfl hR5 Try.underlying24 rfl (info_WideC _) ?_; go_frame)
    | ((with_reducible change wpList _ _ _ (Oper.mk (some 12) _ _ _ _ _ :: _) _ _); refine kEqlW _ _ _ z z true rfl rfl rfl rfl (by simp) ?_))
  have hRa := (((hR1.below hB2 (by omega)).below hB3 (by omega)).below hB4 (by omega)).below hB5 (by omega)
  have hRp := (hR3.below hB4 (by omega)).below hB5 (by omega)
  have hRq := hR4.below hB5 (by omega)
  have hB : Below w.heap.size w w5 := (((hB1.trans (hB2.mono (by omega))).trans (hB3.mono (by omega))).trans (hB4.mono (by omega))).trans (hB5.mono (by omega))
  clear hR1 hR2 hR3 hR4 hB1 hB2 hB3 hB4 hB5
  refine region_mix' [true, true, false] (fun w' => Row w' w.heap.size 24 (wcells a) ∧ Row w' w4.heap.size 24 (wcells z)) (by kernel_rfl) (by kernel_rfl) ?_
  intro wd hBd hsd
  have hS : Row wd w.heap.size 24 (wcells a) ∧ Row wd w4.heap.size 24 (wcells z) := ⟨hRa.below hBd hRa.lt, hR5.below hBd hR5.lt⟩
  simp only [List.length_cons, List.length_nil, List.take_succ_cons, List.take_zero, List.drop_succ_cons, List.drop_zero]
  refine mixLoadRow _ _ _ _ _ _ hS rfl rfl rfl (fun _ h => h.2) Try.underlying24 rfl (info_WideC _) ?_; go_frame
  refine mixLoadRow _ _ _ _ _ _ hS rfl rfl rfl (fun _ h => h.1) Try.underlying24 rfl (info_WideC _) ?_; go_frame
  refine mixLoud ?_
  refine kStoreRow _ _ _ _ _ _ _ rfl rfl rfl rfl (hRp.below hBd hRp.lt) (info_WideC _) (by simp only [wcells_size]) (wcells_one _) ?_
  intro w6 hR6 hW6
  refine mixOn ⟨⟨hW6.row hS.1 (by omega), hW6.row hS.2 (by omega)⟩, ?_⟩
  go_frame
  refine mixEnd ?_
  refine kStoreRow _ _ _ _ _ _ _ rfl rfl rfl rfl (hW6.row (hRq.below hBd hRq.lt) (by omega)) (info_WideC _) (by simp only [wcells_size]) (wcells_one _) ?_
  intro w7 hR7 hW7
  go_frame
  go_wp2
  exact result_row2 Try.results40 rfl rfl (hW7.row hR6 (by omega)) Try.underlying24 rfl (info_WideC _) hR7 Try.underlying24 rfl (info_WideC _) rfl ⟨rfl, ((hB.trans (hBd.mono (by omega))).trans (hW6.below (by omega))).trans (hW7.below (by omega))⟩

/-- the predicates of the region of the loop's first statement -/
def divPr (B0 cur bs : Nat) (nv b : Value) (i : Nat) (w : World) (v : Value) : Prop := match i with
  | 0 => v = .agg (wcells cur)
  | 1 => v = b
  | 2 => v = nv
  | 3 => v = .agg (wcells bs)
  | 4 => v = .tuple #[.agg (wcells (cur + M256 - bs)), .bool (decide (cur < bs))]
  | 5 => v = .tuple #[.agg (wcells (cur + M256 - bs)), .bool (decide (cur < bs))]
  | 6 => v = .agg (wcells (cur + M256 - bs))
  | 7 => v = .bool (decide (cur < bs))
  | 8 => ∃ g cs, v = .pointer (some ⟨g, 0, none⟩) ∧ B0 ≤ g ∧ cs.size = 4 ∧ Row w g 24 cs
  | 9 => ∃ g, v = .pointer (some ⟨g, 0, none⟩) ∧ B0 ≤ g ∧ Row w g 24 (wcells (cur + M256 - bs))
  | 10 => v = .bool (decide (cur < bs))
  | _ => True
theorem divPr_mono {B0 cur bs : Nat} {nv b : Value} : ∀ i w w' v, Below w.heap.size w w' → divPr B0 cur bs nv b i w v → divPr B0 cur bs nv b i w' v := by
  intro i w w' v hb h
  unfold divPr at *
  split at h <;> first | exact h | exact trivial | skip
  · obtain ⟨g, cs, h1, h2, h3, h4⟩ := h; exact ⟨g, cs, h1, h2, h3, h4.below hb h4.lt⟩
  · obtain ⟨g, h1, h2, h4⟩ := h; exact ⟨g, h1, h2, h4.below hb h4.lt⟩
theorem divPr_wrote {B0 cur bs g : Nat} {nv b : Value} {w w' : World} (hw : Wrote g w w') (hr : Row w' g 24 (wcells (cur + M256 - bs))) : ∀ i v, divPr B0 cur bs nv b i w v → divPr B0 cur bs nv b i w' v := by
  intro i v h
  unfold divPr at *
  split at h <;> first | exact h | exact trivial | skip
  · obtain ⟨g', cs, h1, h2, h3, h4⟩ := h
    by_cases e : g' = g
    · subst e; exact ⟨g', _, h1, h2, wcells_size _, hr⟩
    · exact ⟨g', cs, h1, h2, h3, hw.row h4 e⟩
  · obtain ⟨g', h1, h2, h4⟩ := h
    by_cases e : g' = g
    · subst e; exact ⟨g', h1, h2, hr⟩
    · exact ⟨g', h1, h2, hw.row h4 e⟩

set_option maxRecDepth 100000 in
set_option maxHeartbeats 4000000 in
theorem wDiv_pos (a b z : Nat) (Hz : Hid (z = 0)) (ha : a < M256) (hb : b < M256) (hb0 : b ≠ 0) (w : World) :
    Calls Try.prog 40 #[WV a, WV b] w fun e w' => e = .returned (.tuple #[WV (a / b), WV (a % b)]) ∧ Below w.heap.size w w' := by
  have hzW : ((Try.prog.info? 24).bind (·.zero)).map Value.cells = some (wcells z) := by rw [Hz.out]; exact zero_Wide
  have hne : decide (b % M256 = z % M256) = false := by rw [Hz.out, Nat.mod_eq_of_lt hb, Nat.zero_mod]; exact decide_eq_false hb0
  have hA : blen a ≤ 256 := (blen_le a 256).2 (by simpa [M256] using ha)
  have hBl : blen b ≤ 256 := (blen_le b 256).2 (by simpa [M256] using hb)
  unfold WV
  go_enter Try.func40, Try.ntmps40
  go_wp2_with (first
    | ((with_reducible change wpList _ _ _ (Oper.mk (some 2) _ _ _ _ _ :: _) _ _); refine kBoxL _ _ _ rfl rfl rfl ?_; intro w1 hR1 hl1 hB1)
    | ((with_reducible change wpList _ _ _ (Oper.mk (some 3) _ _ _ _ _ :: _) _ _); refine kBoxL _ _ _ rfl rfl rfl ?_; intro w2 hR2 hl2 hB2)
    | ((with_reducible change wpList _ _ _ (Oper.mk (some 4) _ _ _ _ _ :: _) _ _); refine kAllocL _ _ rfl rfl hzW ?_; intro w3 hR3 hl3 hB3; go_frame)
    | ((with_reducible change wpList _ _ _ (Oper.mk (some 5) _ _ _ _ _ :: _) _ _); refine kAllocL _ _ rfl rfl hzW ?_; intro w4 hR4 hl4 hB4)
    | ((with_reducible change wpList _ _ _ (Oper.mk (some 6) _ _ _ _ _ :: _) _ _); refine kAllocL _ _ rfl rfl hzW ?_; intro w5 hR5 hl5 hB5; go_frame)
    | ((with_reducible change wpList _ _ _ (Oper.mk (some 10) _ _ _ _ _ :: _) _ _); refine kLoadRow _ _ _ _ _ _ rfl rfl rfl (((hR2.below hB3 (by omega)).below hB4 (by omega)).below hB5 (by omega)) Try.underlying24 rfl (info_WideC _) ?_)
    | ((with_reducible change wpList _ _ _ (Oper.mk (some 11) _ _ _ _ _ :: _) _ _); refine kLoadRow _ _ _ _ _ _ rfl rfl rfl hR5 Try.underlying24 rfl (info_WideC _) ?_; go_frame)
    | ((with_reducible change wpList _ _ _ (Oper.mk (some 12) _ _ _ _ _ :: _) _ _); refine kEqlW _ _ _ b z false rfl rfl rfl rfl hne ?_))
  have hRa := (((hR1.below hB2 (by omega)).below hB3 (by omega)).below hB4 (by omega)).below hB5 (by omega)
  have hRb := ((hR2.below hB3 (by omega)).below hB4 (by omega)).below hB5 (by omega)
  have hRp := (hR3.below hB4 (by omega)).below hB5 (by omega)
  have hRq := hR4.below hB5 (by omega)
  have hB : Below w.heap.size w w5 := (((hB1.trans (hB2.mono (by omega))).trans (hB3.mono (by omega))).trans (hB4.mono (by omega))).trans (hB5.mono (by omega))
  clear hR1 hR2 hR3 hR4 hB1 hB2 hB3 hB4 hB5 hne
  refine region_below_tail 5 (by kernel_rfl) (by kernel_rfl) ?_
  simp only [List.take_succ_cons, List.take_zero, List.drop_succ_cons, List.drop_zero]
  repeat (first
    | ((with_reducible change wpQuiet _ _ _ _ (Oper.mk (some 15) _ _ _ _ _ :: _) _); refine qLoadAs _ _ _ _ _ _ _ (wcells a) _ rfl rfl rfl (fun _ hw => row_regrown hRa hw) Try.underlying24 rfl info_Wide (by simp only [wcells_size]; decide) (by simp [wcells_size, Array.extract_eq_self_of_le]) ?_; go_frame)
    | ((with_reducible change wpQuiet _ _ _ _ (Oper.mk (some 17) _ _ _ _ _ :: _) _); refine qLoadAs _ _ _ _ _ _ _ (wcells b) _ rfl rfl rfl (fun _ hw => row_regrown hRb hw) Try.underlying24 rfl info_Wide (by simp only [wcells_size]; decide) (by simp [wcells_size, Array.extract_eq_self_of_le]) ?_; go_frame)
    | go_big_quiet_step (first
      | ((go_at_call 11; (with_reducible change Calls _ _ #[Value.agg (wcells a)] _ _); exact Calls.regrown_of (wBits_any a ha _)))
      | ((go_at_call 11; (with_reducible change Calls _ _ #[Value.agg (wcells b)] _ _); exact Calls.regrown_of (wBits_any b hb _)))))
  refine wpQuiet_nil ?_
  rintro _ ⟨p, rfl⟩
  have hbr := below_regrown w5 p.d p.os
  generalize «Sort».grow (redrawn w5 p.d) p.os = w6 at *
  have hRa6 := hRa.below hbr hRa.lt
  have hRb6 := hRb.below hbr hRb.lt
  have hRp6 := hRp.below hbr hRp.lt
  have hRq6 := hRq.below hbr hRq.lt
  have hRt6 := hR5.below hbr hR5.lt
  have hB6 : Below w.heap.size w w6 := hB.trans (hbr.mono (by omega))
  have hs6 := hbr.size
  clear hRa hRb hRp hRq hR5 hB hbr p
  go_wp2
  go_loopw [7] (fun i wr => ∃ (n : Int) (c t : Nat), i = .int .i64 n ∧ n ≤ 256 ∧ -257 ≤ n ∧ Hid (DivInv a b (n + 1).toNat c t) ∧ Row wr w.heap.size 24 (wcells c) ∧ Row wr w1.heap.size 24 (wcells b) ∧ Row wr w2.heap.size 24 (wcells z) ∧ Row wr w3.heap.size 24 (wcells z) ∧ Row wr w4.heap.size 24 (wcells t) ∧ Below w.heap.size w wr ∧ w5.heap.size ≤ wr.heap.size) (fun i _ => (intOf i + 1).toNat)
  case atStart =>
    refine ⟨_, a, 0, rfl, by omega, by omega, Lib.hid ?_, hRa6, hRb6, hRp6, hRq6, by rw [← Hz.out]; exact hRt6, hB6, hs6⟩
    by_cases h : blen b ≤ blen a
    · rw [show ((blen a : Int) - (blen b : Int) + 1).toNat = blen a - blen b + 1 by omega]; exact divInv_start a b ha hb0 h
    · rw [show ((blen a : Int) - (blen b : Int) + 1).toNat = 0 by omega]; exact divInv_less a b (by omega)
  case round =>
    obtain ⟨n, c, t, rfl, hn1, hn2, HI, hRc, hRbr, hRpr, hRqr, hRtr, hBr, hsr⟩ := hrel
    clear hRa6 hRb6 hRp6 hRq6 hRt6 hB6
    by_cases hn : 0 ≤ n
    · obtain ⟨N, rfl⟩ := Int.eq_ofNat_of_zero_le hn
      have hd : decide ((N : Int) ≥ 0) = true := by simp
      have hI := HI.out
      rw [show ((N : Int) + 1).toNat = N + 1 by omega] at hI
      have hfit := hI.fits (by omega)
      rw [Nat.add_sub_cancel] at hfit
      have hcM : c < M256 := Nat.lt_of_le_of_lt (divInv_le hI) ha
      have HI2 := Lib.hid hI
      clear hI
      go_wp2_with fail
      generalize hbs : b * 2 ^ N = bs at *
      have Hbs := Lib.hid hbs
      clear hbs
      refine region_inv2 (fun _ => 8) (divPr wr.heap.size c bs (.int .i64 (N : Int)) (.agg (wcells b))) (by kernel_rfl) (by kernel_rfl) (steps_all ⟨?_, ?_, ?_, ?_, ?_, ?_, ?_, ?_, ?_, ?_, ?_, trivial⟩) ?fin
      case fin =>
        intro A w7 hsz hdf hbel hoth hall
        obtain ⟨tm, df⟩ := A
        have htm := arr_tab tm 46 (hsz.trans rfl)
        obtain ⟨f, hf⟩ : ∃ f : Nat → Value, ∀ s, tm.getD s undef = f s := ⟨fun s => tm.getD s undef, fun _ => rfl⟩
        simp only [hf] at htm
        have e0 : f 0 = .agg (wcells a) := (hf 0).symm.trans ((hoth 0 (free2_of (by kernel_rfl))).trans rfl)
        have e1 : f 1 = .agg (wcells b) := (hf 1).symm.trans ((hoth 1 (free2_of (by kernel_rfl))).trans rfl)
        have e2 : f 2 = .pointer (some ⟨w.heap.size, 0, none⟩) := (hf 2).symm.trans ((hoth 2 (free2_of (by kernel_rfl))).trans rfl)
        have e3 : f 3 = .pointer (some ⟨w1.heap.size, 0, none⟩) := (hf 3).symm.trans ((hoth 3 (free2_of (by kernel_rfl))).trans rfl)
        have e4 : f 4 = .pointer (some ⟨w2.heap.size, 0, none⟩) := (hf 4).symm.trans ((hoth 4 (free2_of (by kernel_rfl))).trans rfl)
        have e5 : f 5 = .pointer (some ⟨w3.heap.size, 0, none⟩) := (hf 5).symm.trans ((hoth 5 (free2_of (by kernel_rfl))).trans rfl)
        have e6 : f 6 = .pointer (some ⟨w4.heap.size, 0, none⟩) := (hf 6).symm.trans ((hoth 6 (free2_of (by kernel_rfl))).trans rfl)
        have e7 : f 7 = .int .i64 (N : Int) := (hf 7).symm.trans ((hoth 7 (free2_of (by kernel_rfl))).trans rfl)
        have e10 : f 10 = .agg (wcells b) := (hf 10).symm.trans ((hoth 10 (free2_of (by kernel_rfl))).trans rfl)
        have e11 : f 11 = .agg (wcells z) := (hf 11).symm.trans ((hoth 11 (free2_of (by kernel_rfl))).trans rfl)
        have e12 : f 12 = .bool false := (hf 12).symm.trans ((hoth 12 (free2_of (by kernel_rfl))).trans rfl)
        have e13 : f 13 = undef := (hf 13).symm.trans ((hoth 13 (free2_of (by kernel_rfl))).trans rfl)
        have e14 : f 14 = undef := (hf 14).symm.trans ((hoth 14 (free2_of (by kernel_rfl))).trans rfl)
        have e15 : f 15 = .agg (wcells a) := (hf 15).symm.trans ((hoth 15 (free2_of (by kernel_rfl))).trans rfl)
        have e16 : f 16 = .int .i64 (blen a : Int) := (hf 16).symm.trans ((hoth 16 (free2_of (by kernel_rfl))).trans rfl)
        have e17 : f 17 = .agg (wcells b) := (hf 17).symm.trans ((hoth 17 (free2_of (by kernel_rfl))).trans rfl)
        have e18 : f 18 = .int .i64 (blen b : Int) := (hf 18).symm.trans ((hoth 18 (free2_of (by kernel_rfl))).trans rfl)
        have e19 : f 19 = .int .i64 ((blen a : Int) - (blen b : Int)) := (hf 19).symm.trans ((hoth 19 (free2_of (by kernel_rfl))).trans rfl)
        have e44 : f 44 = undef := (hf 44).symm.trans ((hoth 44 (free2_of (by kernel_rfl))).trans rfl)
        have e45 : f 45 = undef := (hf 45).symm.trans ((hoth 45 (free2_of (by kernel_rfl))).trans rfl)
        have e9 : f 9 = .bool (decide (c < bs)) := (hf 9).symm.trans (by have h := hall 10 (by decide); exact h)
        obtain ⟨g, e8, hg, hRg⟩ : ∃ g, f 8 = .pointer (some ⟨g, 0, none⟩) ∧ wr.heap.size ≤ g ∧ Row w7 g 24 (wcells (c + M256 - bs)) := (by rw [← hf 8]; have h := hall 9 (by decide); exact h)
        have hdf' : df = [] := hdf
        have elit : tab 46 f = (f 0 :: f 1 :: f 2 :: f 3 :: f 4 :: f 5 :: f 6 :: f 7 :: f 8 :: f 9 :: f 10 :: f 11 :: f 12 :: f 13 :: f 14 :: f 15 :: f 16 :: f 17 :: f 18 :: f 19 :: f 20 :: f 21 :: f 22 :: f 23 :: f 24 :: f 25 :: f 26 :: f 27 :: f 28 :: f 29 :: f 30 :: f 31 :: f 32 :: f 33 :: f 34 :: f 35 :: f 36 :: f 37 :: f 38 :: f 39 :: f 40 :: f 41 :: f 42 :: f 43 :: f 44 :: f 45 :: ([] : List Value)).toArray := rfl
        rw [e0, e1, e2, e3, e4, e5, e6, e7, e10, e11, e12, e13, e14, e15, e16, e17, e18, e19, e44, e45, e8, e9] at elit
        rw [elit] at htm
        subst htm
        subst hdf'
        clear hsz hdf hoth hall hf elit e0 e1 e2 e3 e4 e5 e6 e7 e10 e11 e12 e13 e14 e15 e16 e17 e18 e19 e44 e45 e8 e9
        have hRc7 := hRc.below hbel hRc.lt
        have hRb7 := hRbr.below hbel hRbr.lt
        have hRp7 := hRpr.below hbel hRpr.lt
        have hRq7 := hRqr.below hbel hRqr.lt
        have hRt7 := hRtr.below hbel hRtr.lt
        have hB7 : Below w.heap.size w w7 := hBr.trans (hbel.mono hBr.size)
        have hs7 : w5.heap.size ≤ w7.heap.size := Nat.le_trans hsr hbel.size
        have hlw := hbel.size
        clear hRc hRbr hRpr hRqr hRtr hBr hbel
        by_cases hless : c < bs
        · have hdl : decide (c < bs) = true := by simpa using hless
          have hI2 := Lib.hid (divInv_no HI2.out (by rw [Hbs.out]; exact hless))
          rw [hdl]
          clear hdl hless
          go_wp2
          go_roundw
          case rel => exact ⟨(N : Int) - 1, c, t, by go_num, by omega, by omega, Lib.hid (by rw [show ((N : Int) - 1 + 1).toNat = N by omega]; exact hI2.out), hRc7, hRb7, hRp7, hRq7, hRt7, hB7, hs7⟩
          case measure => simp [intOf]; try omega
        · have hdl : decide (c < bs) = false := by simpa using hless
          have hI2 := Lib.hid (divInv_yes HI2.out (by rw [Hbs.out]; omega))
          have hwc : wcells (c + M256 - bs) = wcells (c - bs) := by rw [← wcells_mod (c + M256 - bs), show c + M256 - bs = c - bs + M256 by omega, Nat.add_mod_right, wcells_mod]
          rw [hdl]
          rw [hwc] at hRg
          have hN : N < 256 := by
            have h2 : 2 ^ N ≤ bs := by rw [← Hbs.out]; exact Nat.le_mul_of_pos_left _ (by omega)
            have h3 : 2 ^ N < 2 ^ 256 := Nat.lt_of_le_of_lt h2 hfit
            exact (Nat.pow_lt_pow_iff_right (by decide)).1 h3
          clear hdl hwc
          go_wp2_with (first
            | ((with_reducible change wpList _ _ _ (Oper.mk (some 34) _ _ _ _ _ :: _) _ _); refine kLoadRow _ _ _ _ _ _ rfl rfl rfl hRg Try.underlying24 rfl (info_WideC _) ?_)
            | ((with_reducible change wpList _ _ _ (Oper.mk none (Op.store 24 _ _) _ _ _ _ :: _) _ _); refine kStoreRow _ _ _ _ _ _ _ rfl rfl rfl rfl hRc7 (info_WideC _) (by simp only [wcells_size]) (wcells_one _) ?_; intro w8 hR8 hW8; go_frame))
          have hRt8 := hW8.row hRt7 (by omega)
          refine region_drew_tail 9 (by kernel_rfl) (by kernel_rfl) ?_
          simp only [List.take_succ_cons, List.take_zero, List.drop_succ_cons, List.drop_zero]
          repeat (first
            | ((with_reducible change wpQuiet _ _ _ _ (Oper.mk (some 37) _ _ _ _ _ :: _) _); refine qIndexAddr1 _ _ _ _ _ _ _ (N / 64) _ rfl rfl rfl rfl Try.underlying24 info_w64 (by omega) (by omega) ?_; go_frame)
            | ((with_reducible change wpQuiet _ _ _ _ (Oper.mk (some 38) _ _ _ _ _ :: _) _); refine qLoad1 _ _ _ _ _ _ _ _ rfl rfl rfl (fun _ ⟨_, e⟩ => by rw [e]; exact hRt8) Try.underlying22 rfl (wcells_get t (N / 64) (by omega)) ?_; go_frame)
            | ((with_reducible change wpQuiet _ _ _ _ (Oper.mk (some 43) _ _ _ _ _ :: _) _); refine qIndexAddr1 _ _ _ _ _ _ _ (N / 64) _ rfl rfl rfl rfl Try.underlying24 info_w64 (by omega) (by omega) ?_; go_frame)
            | go_big_quiet_step (fail))
          refine wpQuiet_nil ?_
          rintro _ ⟨nq, rfl⟩
          refine kStore1 _ _ _ _ _ (N / 64) _ (.int .u64 ((limb t (N / 64) ||| 2 ^ (N % 64) : Nat) : Int)) rfl rfl rfl (congrArg (Value.int IntKind.u64) (or_bit _ _ (limb_lt _ _) (Nat.mod_lt _ (by decide)))) (hRt8.drewN nq) info_w64 (by rw [wcells_size]; omega) rfl ?_
          intro w9 hR9 hW9
          obtain ⟨sq, hsq⟩ := HI2.out.mult
          rw [wcells_bit t sq N _ hsq rfl] at hR9
          have hB9 : Below w.heap.size w w9 := (hB7.trans (hW8.below (Nat.le_refl _))).trans ⟨hW9.os, hW9.tape, hW9.output, Nat.le_of_eq hW9.size.symm, fun k hk => hW9.other k (by omega)⟩
          have hs9 : w5.heap.size ≤ w9.heap.size := by rw [hW9.size]; show _ ≤ w8.heap.size; rw [hW8.size]; exact hs7
          have hk : ∀ {k : Nat} {cs : Array Value}, Row w8 k 24 cs → k ≠ w4.heap.size → Row w9 k 24 cs := fun h h' => hW9.row (h.drewN nq) h'
          have hRc9 := hk hR8 (by omega)
          have hRb9 := hk (hW8.row hRb7 (by omega)) (by omega)
          have hRp9 := hk (hW8.row hRp7 (by omega)) (by omega)
          have hRq9 := hk (hW8.row hRq7 (by omega)) (by omega)
          clear hk hW9 hW8 hsq
          go_wp2
          go_roundw
          case rel => exact ⟨(N : Int) - 1, c - bs, t + 2 ^ N, by go_num, by omega, by omega, Lib.hid (by rw [show ((N : Int) - 1 + 1).toNat = N by omega, ← Hbs.out]; exact hI2.out), hRc9, hRb9, hRp9, hRq9, hR9, hB9, hs9⟩
          case measure => simp [intOf]; try omega
      · intro a w hsz hoth hbel hdep
        exact kLoadRow _ _ _ _ _ _ rfl rfl ((hoth 2 (free2_of (by kernel_rfl))).trans rfl) (hRc.below hbel hRc.lt) Try.underlying24 rfl (info_WideC _) (stepV divPr_mono hbel hsz rfl rfl (show 25 < 46 by decide) (Below.refl _ _) rfl)
      · intro a w hsz hoth hbel hdep
        exact kLoadRow _ _ _ _ _ _ rfl rfl ((hoth 3 (free2_of (by kernel_rfl))).trans rfl) (hRbr.below hbel hRbr.lt) Try.underlying24 rfl (info_WideC _) (stepV divPr_mono hbel hsz rfl rfl (show 26 < 46 by decide) (Below.refl _ _) rfl)
      · intro a w hsz hoth hbel hdep
        exact kMoveV _ (.int .i64 (N : Int)) rfl rfl ((hoth 7 (free2_of (by kernel_rfl))).trans rfl) (stepV divPr_mono hbel hsz rfl rfl (show 27 < 46 by decide) (Below.refl _ _) rfl)
      · intro a w hsz hoth hbel hdep
        have d1 : a.tmps.getD 26 undef = .agg (wcells b) := (by have h := hdep ⟨1, .data⟩ (by simp) rfl; exact h)
        have d2 : a.tmps.getD 27 undef = .int .i64 (N : Int) := (by have h := hdep ⟨2, .data⟩ (by simp) rfl; exact h)
        refine kCall2 47 _ _ _ _ _ rfl rfl (by kernel_rfl) d1 d2 ?_
        refine (wLeft_any b (N : Int) (by omega) w).mono ?_
        rintro e r ⟨rfl, hBc⟩
        exact ⟨_, rfl, stepV divPr_mono hbel hsz rfl rfl (show 28 < 46 by decide) hBc (show WV (b * 2 ^ (N : Int).toNat) = .agg (wcells bs) by rw [← Hbs.out]; rfl)⟩
      · intro a w hsz hoth hbel hdep
        have d0 : a.tmps.getD 25 undef = .agg (wcells c) := (by have h := hdep ⟨0, .data⟩ (by simp) rfl; exact h)
        have d3 : a.tmps.getD 28 undef = .agg (wcells bs) := (by have h := hdep ⟨3, .data⟩ (by simp) rfl; exact h)
        refine kCall2 24 _ _ _ _ _ rfl rfl (by kernel_rfl) d0 d3 ?_
        refine (wSub_any c bs hcM hfit w).mono ?_
        rintro e r ⟨rfl, hBc⟩
        exact ⟨_, rfl, stepV divPr_mono hbel hsz rfl rfl (show 29 < 46 by decide) hBc rfl⟩
      · intro a w hsz hoth hbel hdep
        have d4 : a.tmps.getD 29 undef = .tuple #[.agg (wcells (c + M256 - bs)), .bool (decide (c < bs))] := (by have h := hdep ⟨4, .data⟩ (by simp) rfl; exact h)
        exact kMoveV _ _ rfl rfl d4 (stepV divPr_mono hbel hsz rfl rfl (show 24 < 46 by decide) (Below.refl _ _) rfl)
      · intro a w hsz hoth hbel hdep
        have d5 : a.tmps.getD 24 undef = .tuple #[.agg (wcells (c + M256 - bs)), .bool (decide (c < bs))] := (by have h := hdep ⟨5, .data⟩ (by simp) rfl; exact h)
        exact kExtract _ _ _ (.agg (wcells (c + M256 - bs))) rfl rfl d5 rfl (stepV divPr_mono hbel hsz rfl rfl (show 30 < 46 by decide) (Below.refl _ _) rfl)
      · intro a w hsz hoth hbel hdep
        have d5 : a.tmps.getD 24 undef = .tuple #[.agg (wcells (c + M256 - bs)), .bool (decide (c < bs))] := (by have h := hdep ⟨5, .data⟩ (by simp) rfl; exact h)
        exact kExtract _ _ _ (.bool (decide (c < bs))) rfl rfl d5 rfl (stepV divPr_mono hbel hsz rfl rfl (show 31 < 46 by decide) (Below.refl _ _) rfl)
      · intro a w hsz hoth hbel hdep
        refine kAllocL _ _ rfl rfl hzW ?_
        intro r hR hl hBc
        exact stepV divPr_mono hbel hsz rfl rfl (show 8 < 46 by decide) hBc ⟨w.heap.size, _, rfl, hbel.size, wcells_size _, hR⟩
      · intro a w hsz hoth hbel hdep
        have d6 : a.tmps.getD 30 undef = .agg (wcells (c + M256 - bs)) := (by have h := hdep ⟨6, .data⟩ (by simp) rfl; exact h)
        obtain ⟨g, cs, d8, hg, hcs, hR⟩ : ∃ g cs, a.tmps.getD 8 undef = .pointer (some ⟨g, 0, none⟩) ∧ wr.heap.size ≤ g ∧ cs.size = 4 ∧ Row w g 24 cs := (by have h := hdep ⟨8, .data⟩ (by simp) rfl; exact h)
        refine kStoreRow _ _ _ _ _ _ _ rfl rfl d8 d6 hR (info_WideC _) (by rw [wcells_size, hcs]) (wcells_one _) ?_
        intro r hR2 hW
        exact mixOn ⟨_, rfl, hbel.trans (hW.below hg), divPr_wrote hW hR2, ⟨g, d8, hg, hR2⟩⟩
      · intro a w hsz hoth hbel hdep
        have d7 : a.tmps.getD 31 undef = .bool (decide (c < bs)) := (by have h := hdep ⟨7, .data⟩ (by simp) rfl; exact h)
        exact kAssignV _ _ rfl rfl d7 (stepV divPr_mono hbel hsz rfl rfl (show 9 < 46 by decide) (Below.refl _ _) rfl)
    · have hd : decide (n ≥ 0) = false := by simp; omega
      have hend := divInv_end (by have h := HI.out; rwa [show (n + 1).toNat = 0 by omega] at h)
      rw [hend.1] at hRtr
      rw [hend.2] at hRc
      clear hend
      go_wp2_with fail
      refine region_mix' [true, true, false] (fun w' => Row w' w.heap.size 24 (wcells (a % b)) ∧ Row w' w4.heap.size 24 (wcells (a / b))) (by kernel_rfl) (by kernel_rfl) ?_
      intro wd hBd hsd
      have hS : Row wd w.heap.size 24 (wcells (a % b)) ∧ Row wd w4.heap.size 24 (wcells (a / b)) := ⟨hRc.below hBd hRc.lt, hRtr.below hBd hRtr.lt⟩
      simp only [List.length_cons, List.length_nil, List.take_succ_cons, List.take_zero, List.drop_succ_cons, List.drop_zero]
      refine mixLoadRow _ _ _ _ _ _ hS rfl rfl rfl (fun _ h => h.2) Try.underlying24 rfl (info_WideC _) ?_; go_frame
      refine mixLoadRow _ _ _ _ _ _ hS rfl rfl rfl (fun _ h => h.1) Try.underlying24 rfl (info_WideC _) ?_; go_frame
      refine mixLoud ?_
      refine kStoreRow _ _ _ _ _ _ _ rfl rfl rfl rfl (hRpr.below hBd hRpr.lt) (info_WideC _) (by simp only [wcells_size]) (wcells_one _) ?_
      intro w8 hR8 hW8
      refine mixOn ⟨⟨hW8.row hS.1 (by omega), hW8.row hS.2 (by omega)⟩, ?_⟩
      go_frame
      refine mixEnd ?_
      refine kStoreRow _ _ _ _ _ _ _ rfl rfl rfl rfl (hW8.row (hRqr.below hBd hRqr.lt) (by omega)) (info_WideC _) (by simp only [wcells_size]) (wcells_one _) ?_
      intro w9 hR9 hW9
      go_frame
      go_wp2
      exact result_row2 Try.results40 rfl rfl (hW9.row hR8 (by omega)) Try.underlying24 rfl (info_WideC _) hR9 Try.underlying24 rfl (info_WideC _) rfl ⟨rfl, ((hBr.trans (hBd.mono hBr.size)).trans (hW8.below (by omega))).trans (hW9.below (by omega))⟩

theorem wDiv_any (a b : Nat) (ha : a < M256) (hb : b < M256) (w : World) :
    Calls Try.prog 40 #[WV a, WV b] w fun e w' => e = .returned (.tuple #[WV (a / b), WV (if b = 0 then a else a % b)]) ∧ Below w.heap.size w w' := by
  by_cases h : b = 0
  · subst h
    rw [if_pos rfl, Nat.div_zero]
    exact wDiv_zero a 0 (Lib.hid rfl) w
  · rw [if_neg h]
    exact wDiv_pos a b 0 (Lib.hid rfl) ha hb h w
theorem wDiv_mod (a b : Nat) (ha : a < M256) (hb : b < M256) (w : World) :
    Calls Try.prog 40 #[WV a, WV b] w fun e w' => e = .returned (.tuple #[WV (a / b), WV (a % b)]) ∧ Below w.heap.size w w' := by
  have := wDiv_any a b ha hb w
  have e : (if b = 0 then a else a % b) = a % b := by
    split
    · rename_i h; rw [h, Nat.mod_zero]
    · rfl
  rwa [e] at this
end Go.Proofs.Ytdeggdmoijfhdaa

/-
  The variables of a statement's own that hold numbers of 256 bits, as one fact; and the walk of the statements' own 'wideAlive'.
-/
namespace Go.Proofs.Ytdeggdmoijfhdaa
open Go Go.RowKit

/-- the blocks (the newest first) hold these numbers; what was there before is as it was -/
structure Mem (w0 w : World) (l : List (Nat × Nat)) : Prop where
  rows : ∀ (i g n : Nat), l[i]? = some (g, n) → Row w g 24 (wcells n)
  desc : l.Pairwise (fun a b => b.1 < a.1)
  ge : ∀ (i g n : Nat), l[i]? = some (g, n) → w0.heap.size ≤ g
  below : Below w0.heap.size w0 w
theorem mem_nil (w : World) : Mem w w [] := ⟨fun i g n h => by simp at h, List.Pairwise.nil, fun i g n h => by simp at h, Below.refl _ _⟩
theorem Mem.get {w0 w : World} {l : List (Nat × Nat)} (h : Mem w0 w l) (i : Nat) {g n : Nat} (hi : l[i]? = some (g, n)) : Row w g 24 (wcells n) := h.rows i g n hi
theorem Mem.on {w0 w w' : World} {l : List (Nat × Nat)} (h : Mem w0 w l) (hb : Below w.heap.size w w') : Mem w0 w' l :=
  ⟨fun i g n hi => (h.rows i g n hi).below hb (h.rows i g n hi).lt, h.desc, h.ge, h.below.trans (hb.mono h.below.size)⟩
theorem Mem.size {w0 w : World} {l : List (Nat × Nat)} (h : Mem w0 w l) : w0.heap.size ≤ w.heap.size := h.below.size
theorem Mem.new {w0 w w' : World} {l : List (Nat × Nat)} {m : Nat} (h : Mem w0 w l) (hr : Row w' w.heap.size 24 (wcells m)) (hb : Below w.heap.size w w') : Mem w0 w' ((w.heap.size, m) :: l) := by
  have h' := h.on hb
  refine ⟨fun i g n hi => ?_, List.Pairwise.cons (fun p hp => ?_) h.desc, fun i g n hi => ?_, h'.below⟩
  · cases i with
    | zero => simp at hi; obtain ⟨rfl, rfl⟩ := hi; exact hr
    | succ i => exact h'.rows i g n (by simpa using hi)
  · obtain ⟨i, hi⟩ := List.getElem?_of_mem hp
    exact (h.rows i p.1 p.2 hi).lt
  · cases i with
    | zero => simp at hi; obtain ⟨rfl, rfl⟩ := hi; exact h.size
    | succ i => exact h.ge i g n (by simpa using hi)
theorem Mem.put0 {w0 w w' : World} {l : List (Nat × Nat)} {g n m : Nat} (h : Mem w0 w ((g, n) :: l)) (hw : Wrote g w w') (hr : Row w' g 24 (wcells m)) : Mem w0 w' ((g, m) :: l) := by
  obtain ⟨h1, h2, h3, h4⟩ := h
  have hd := List.pairwise_cons.1 h2
  refine ⟨fun i k j hi => ?_, List.Pairwise.cons (fun p hp => hd.1 p hp) hd.2, fun i k j hi => ?_, h4.trans (hw.below (h3 0 g n rfl))⟩
  · cases i with
    | zero => simp at hi; obtain ⟨rfl, rfl⟩ := hi; exact hr
    | succ i =>
      have hi' : l[i]? = some (k, j) := by simpa using hi
      refine hw.row (h1 (i + 1) k j hi) ?_
      have := hd.1 (k, j) (List.mem_of_getElem? hi')
      simp at this; omega
  · cases i with
    | zero => simp at hi; obtain ⟨rfl, rfl⟩ := hi; exact h3 0 g n rfl
    | succ i => exact h3 (i + 1) k j hi
theorem Mem.put1 {w0 w w' : World} {l : List (Nat × Nat)} {p : Nat × Nat} {g n m : Nat} (h : Mem w0 w (p :: (g, n) :: l)) (hw : Wrote g w w') (hr : Row w' g 24 (wcells m)) : Mem w0 w' (p :: (g, m) :: l) := by
  obtain ⟨h1, h2, h3, h4⟩ := h
  have hd := List.pairwise_cons.1 h2
  have hd2 := List.pairwise_cons.1 hd.2
  have hp := hd.1 (g, n) (by simp)
  refine ⟨fun i k j hi => ?_, List.Pairwise.cons (fun q hq => ?_) (List.Pairwise.cons (fun q hq => hd2.1 q hq) hd2.2), fun i k j hi => ?_, h4.trans (hw.below (h3 1 g n rfl))⟩
  · match i, hi with
    | 0, hi =>
      simp at hi; subst hi
      exact hw.row (h1 0 k j rfl) (by simp at hp; omega)
    | 1, hi => simp at hi; obtain ⟨rfl, rfl⟩ := hi; exact hr
    | i + 2, hi =>
      have hi' : l[i]? = some (k, j) := by simpa using hi
      refine hw.row (h1 (i + 2) k j hi) ?_
      have := hd2.1 (k, j) (List.mem_of_getElem? hi')
      simp at this; omega
  · rcases List.mem_cons.1 hq with rfl | hq
    · exact hp
    · exact hd.1 q (by simp [hq])
  · match i, hi with
    | 0, hi => exact h3 0 k j hi
    | 1, hi => simp at hi; obtain ⟨rfl, rfl⟩ := hi; exact h3 1 g n rfl
    | i + 2, hi => exact h3 (i + 2) k j hi
theorem Mem.drop {w0 w : World} {l : List (Nat × Nat)} {p : Nat × Nat} (h : Mem w0 w (p :: l)) : Mem w0 w l :=
  ⟨fun i g n hi => h.rows (i + 1) g n (by simpa using hi), (List.pairwise_cons.1 h.desc).2, fun i g n hi => h.ge (i + 1) g n (by simpa using hi), h.below⟩

section
variable {ops : Array Oper} {Q : Exit → Act → World → Prop} {rest : List Oper} {o : Oper} {a : Act} {w0 w : World} {l : List (Nat × Nat)}
/-- steps over Mem -/
theorem mBox (hM : Mem w0 w l) (x : Operand) (n : Nat) (ho : o.op = .box 24 x) (hg : Region.wanted o (yielded ops a.tmps) = true) (hx : a.eval x = .agg (wcells n))
    (h : ∀ w1, Mem w0 w1 ((w.heap.size, n) :: l) → wpList Try.prog ops Q rest (a.put o.dst (.pointer (some ⟨w.heap.size, 0, none⟩))) w1) : wpList Try.prog ops Q (o :: rest) a w :=
  kBoxL _ x _ ho hg hx fun w1 hr _ hb => h w1 (hM.new hr hb)
theorem mAlloc (hM : Mem w0 w l) (ho : o.op = .alloc 24) (hg : Region.wanted o (yielded ops a.tmps) = true)
    (h : ∀ w1, Mem w0 w1 ((w.heap.size, 0) :: l) → wpList Try.prog ops Q rest (a.put o.dst (.pointer (some ⟨w.heap.size, 0, none⟩))) w1) : wpList Try.prog ops Q (o :: rest) a w :=
  kAllocL _ _ ho hg zero_Wide fun w1 hr _ hb => h w1 (hM.new hr hb)
theorem mLoad (hM : Mem w0 w l) (i : Nat) (x : Operand) (g n : Nat) (hi : l[i]? = some (g, n)) (ho : o.op = .load 24 x) (hg : Region.wanted o (yielded ops a.tmps) = true) (hx : a.eval x = .pointer (some ⟨g, 0, none⟩))
    (h : wpList Try.prog ops Q rest (a.put o.dst (.agg (wcells n))) w) : wpList Try.prog ops Q (o :: rest) a w :=
  kLoadRow _ _ x g _ _ ho hg hx (hM.get i hi) Try.underlying24 rfl (info_WideC _) h
theorem mStore0 {g n : Nat} (hM : Mem w0 w ((g, n) :: l)) (x y : Operand) (m : Nat) (ho : o.op = .store 24 x y) (hg : Region.wanted o (yielded ops a.tmps) = true) (hx : a.eval x = .pointer (some ⟨g, 0, none⟩)) (hy : a.eval y = .agg (wcells m))
    (h : ∀ w1, Mem w0 w1 ((g, m) :: l) → wpList Try.prog ops Q rest (a.put o.dst undef) w1) : wpList Try.prog ops Q (o :: rest) a w :=
  kStoreRow _ _ x y g _ _ ho hg hx hy (hM.get 0 rfl) (info_WideC _) (by simp only [wcells_size]) (wcells_one _) fun w1 hr hw => h w1 (hM.put0 hw hr)
theorem mStore1 {g n : Nat} {p : Nat × Nat} (hM : Mem w0 w (p :: (g, n) :: l)) (x y : Operand) (m : Nat) (ho : o.op = .store 24 x y) (hg : Region.wanted o (yielded ops a.tmps) = true) (hx : a.eval x = .pointer (some ⟨g, 0, none⟩)) (hy : a.eval y = .agg (wcells m))
    (h : ∀ w1, Mem w0 w1 (p :: (g, m) :: l) → wpList Try.prog ops Q rest (a.put o.dst undef) w1) : wpList Try.prog ops Q (o :: rest) a w :=
  kStoreRow _ _ x y g _ _ ho hg hx hy (hM.get 1 rfl) (info_WideC _) (by simp only [wcells_size]) (wcells_one _) fun w1 hr hw => h w1 (hM.put1 hw hr)
end

/-- Wide{} as the walk lays it -/
theorem lit_zero : wcells 0 = #[.int .u64 0, .int .u64 0, .int .u64 0, .int .u64 0] := by rw [wcells_zero]; rfl
theorem lit_top : wcells (2 ^ 255) = #[.int .u64 0, .int .u64 0, .int .u64 0, .int .u64 9223372036854775808] := by kernel_rfl

end Go.Proofs.Ytdeggdmoijfhdaa

/-
  A number's bytes, the highest first; the walks of wide's Bytes and From.
-/
namespace Go.Proofs.Ytdeggdmoijfhdaa
open Go Go.RowKit

/-! ### plain -/
/-- the i-th byte, the lowest first -/
def nbyte (a i : Nat) : Nat := a / 2 ^ (8 * i) % 256
theorem nbyte_lt (a i : Nat) : nbyte a i < 256 := Nat.mod_lt _ (by decide)
theorem nbyte_limb (a i : Nat) : limb a (i / 8) / 2 ^ (i % 8 * 8) % 256 = nbyte a i := by
  have hm : i % 8 < 8 := Nat.mod_lt _ (by decide)
  unfold limb nbyte
  have e1 : (18446744073709551616 : Nat) = 2 ^ (i % 8 * 8) * 2 ^ (64 - i % 8 * 8) := by rw [← Nat.pow_add, show i % 8 * 8 + (64 - i % 8 * 8) = 64 by omega]
  rw [e1, Nat.mod_mul_right_div_self, P64_pow, Nat.div_div_eq_div_mul, ← Nat.pow_add]
  have e2 : (256 : Nat) ∣ 2 ^ (64 - i % 8 * 8) := by
    rw [show (256 : Nat) = 2 ^ 8 from rfl]; exact Nat.pow_dvd_pow 2 (by omega)
  rw [Nat.mod_mod_of_dvd _ e2, show 64 * (i / 8) + i % 8 * 8 = 8 * i by omega]
/-- the number of these bytes, the lowest first -/
def bnum (g : Nat → Nat) : Nat → Nat
  | 0 => 0
  | k + 1 => bnum g k + g k * 2 ^ (8 * k)
theorem bnum_lt (g : Nat → Nat) (hg : ∀ i, g i < 256) : ∀ k, bnum g k < 2 ^ (8 * k)
  | 0 => by show 0 < _; exact Nat.pow_pos (by decide)
  | k + 1 => by
    have h := bnum_lt g hg k
    have h2 := hg k
    show bnum g k + g k * 2 ^ (8 * k) < _
    rw [show 8 * (k + 1) = 8 * k + 8 by omega, Nat.pow_add]
    have : (g k + 1) * 2 ^ (8 * k) ≤ 2 ^ 8 * 2 ^ (8 * k) := Nat.mul_le_mul_right _ (by omega)
    rw [Nat.add_mul, Nat.one_mul] at this
    rw [Nat.mul_comm (2 ^ (8 * k))]
    omega
theorem bnum_self (a : Nat) : ∀ k, bnum (nbyte a) k = a % 2 ^ (8 * k)
  | 0 => by rw [Nat.mul_zero, Nat.pow_zero, Nat.mod_one]; rfl
  | k + 1 => by
    show bnum (nbyte a) k + nbyte a k * 2 ^ (8 * k) = _
    rw [bnum_self a k, show 8 * (k + 1) = 8 * k + 8 by omega, Nat.pow_add, Nat.mod_mul]
    unfold nbyte
    rw [show (2 ^ 8 : Nat) = 256 from rfl, Nat.mul_comm (2 ^ (8 * k))]
theorem bnum_byte (g : Nat → Nat) (hg : ∀ i, g i < 256) (i : Nat) : ∀ k, i < k → nbyte (bnum g k) i = g i
  | 0, h => by omega
  | k + 1, h => by
    show (bnum g k + g k * 2 ^ (8 * k)) / 2 ^ (8 * i) % 256 = _
    by_cases e : i = k
    · subst e
      rw [Nat.mul_comm, Nat.add_mul_div_left _ _ (Nat.pow_pos (by decide)), Nat.div_eq_of_lt (bnum_lt g hg i), Nat.zero_add, Nat.mod_eq_of_lt (hg i)]
    · have hk : i < k := by omega
      have ih := bnum_byte g hg i k hk
      unfold nbyte at ih
      have e1 : g k * 2 ^ (8 * k) = 2 ^ (8 * i) * (256 * (g k * 2 ^ (8 * k - 8 * i - 8))) := by
        have : (2 : Nat) ^ (8 * k) = 2 ^ (8 * i) * (256 * 2 ^ (8 * k - 8 * i - 8)) := by
          rw [show (256 : Nat) = 2 ^ 8 from rfl, ← Nat.pow_add, ← Nat.pow_add]; congr 1; omega
        rw [this]; ac_rfl
      rw [e1, Nat.add_mul_div_left _ _ (Nat.pow_pos (by decide)), Nat.add_mul_mod_self_left]
      exact ih
theorem bnum_limb (g : Nat → Nat) (hg : ∀ i, g i < 256) (k : Nat) (v : Nat) (hv : v = limb (bnum g k) (k / 8) ||| g k * 2 ^ (k % 8 * 8)) :
    (wcells (bnum g k)).setIfInBounds (k / 8) (.int .u64 (v : Int)) = wcells (bnum g (k + 1)) := tab_set fun j hj => by
  subst hv
  have hN := bnum_lt g hg k
  have hN2 := bnum_lt g hg (k + 1)
  show Value.int .u64 ((limb (bnum g k + g k * 2 ^ (8 * k)) j : Nat) : Int) = _
  have e8 : (2 : Nat) ^ (8 * k) = P64 (k / 8) * 2 ^ (k % 8 * 8) := by rw [P64_pow, ← Nat.pow_add]; congr 1; omega
  by_cases h : j = k / 8
  · subst h
    rw [if_pos rfl]
    congr 2
    have h1 : bnum g k / P64 (k / 8) < 2 ^ (k % 8 * 8) := Nat.div_lt_of_lt_mul (by rw [← e8]; exact hN)
    have hs : g k * 2 ^ (k % 8 * 8) + 2 ^ (k % 8 * 8) ≤ 18446744073709551616 := by
      have h2 := hg k
      have h3 : (g k + 1) * 2 ^ (k % 8 * 8) ≤ 2 ^ 8 * 2 ^ (k % 8 * 8) := Nat.mul_le_mul_right _ (by omega)
      rw [← Nat.pow_add] at h3
      have h4 : (2 : Nat) ^ (8 + k % 8 * 8) ≤ 2 ^ 64 := Nat.pow_le_pow_right (by decide) (by omega)
      rw [Nat.add_mul, Nat.one_mul] at h3
      omega
    unfold limb
    rw [e8, show g k * (P64 (k / 8) * 2 ^ (k % 8 * 8)) = P64 (k / 8) * (g k * 2 ^ (k % 8 * 8)) by ac_rfl, Nat.add_mul_div_left _ _ (P64_pos _)]
    rw [Nat.mod_eq_of_lt (show bnum g k / P64 (k / 8) < 18446744073709551616 by omega), Nat.mod_eq_of_lt (by omega)]
    rw [Nat.or_comm, Nat.mul_comm (g k), ← Nat.two_pow_add_eq_or_of_lt h1, Nat.add_comm]
  · rw [if_neg h]
    congr 2
    by_cases hlt : j < k / 8
    · rw [e8, show g k * (P64 (k / 8) * 2 ^ (k % 8 * 8)) = P64 (k / 8) * (g k * 2 ^ (k % 8 * 8)) by ac_rfl, limb_mult _ _ _ _ hlt]
    · have hP : 2 ^ (8 * (k + 1)) ≤ P64 j := by rw [P64_pow]; exact Nat.pow_le_pow_right (by decide) (by omega)
      have hP2 : 2 ^ (8 * k) ≤ 2 ^ (8 * (k + 1)) := Nat.pow_le_pow_right (by decide) (by omega)
      have hN3 : bnum g k + g k * 2 ^ (8 * k) < 2 ^ (8 * (k + 1)) := hN2
      unfold limb
      rw [Nat.div_eq_of_lt (by omega), Nat.div_eq_of_lt (by omega)]
theorem bnum_M256 (g : Nat → Nat) (hg : ∀ i, g i < 256) : bnum g 32 < M256 := bnum_lt g hg 32

/-- the cells of 32 bytes -/
def bcells (f : Nat → Nat) : Array Value := tab 32 fun p => .int .u8 (f p : Int)
def bytesOf (a : Nat) : Nat → Nat := fun p => nbyte a (31 - p)
def byTo (a k : Nat) : Array Value := tab 32 fun p => .int .u8 ((if 31 - p < k then nbyte a (31 - p) else 0 : Nat) : Int)
theorem byTo_zero (a : Nat) : byTo a 0 = tab 32 fun _ => .int .u8 0 := tab_congr fun p _ => by simp
theorem byTo_all (a : Nat) : byTo a 32 = bcells (bytesOf a) := tab_congr fun p hp => by rw [if_pos (by omega)]; rfl
theorem byTo_set (a k : Nat) (hk : k < 32) : (byTo a k).setIfInBounds (31 - k) (.int .u8 (nbyte a k : Int)) = byTo a (k + 1) := tab_set fun p hp => by
  by_cases h : p = 31 - k
  · subst h
    rw [if_pos rfl, show 31 - (31 - k) = k by omega, if_pos (by omega)]
  · rw [if_neg h]
    by_cases h2 : 31 - p < k
    · rw [if_pos h2, if_pos (by omega)]
    · rw [if_neg h2, if_neg (by omega)]
theorem bcells_size (f : Nat → Nat) : (bcells f).size = 32 := tab_size ..
theorem bcells_one (f : Nat → Nat) : ∀ v ∈ bcells f, v.oneCell' = true := tab_one _ _ fun _ _ => rfl
theorem byTo_size (a k : Nat) : (byTo a k).size = 32 := tab_size ..

theorem info_b8 : (Try.prog.info? 5).map (·.size) = some 1 := by kernel_rfl
theorem shl8 (l g m : Nat) (hl : l < 18446744073709551616) (hg : g < 256) (hm : m < 8) : bits .or .u64 (l : Int) (IntKind.u64.wrap ((g : Int) * 2 ^ (m * 8))) = ((l ||| g * 2 ^ (m * 8) : Nat) : Int) := by
  have h2 : g * 2 ^ (m * 8) < 18446744073709551616 := by
    have h3 : g * 2 ^ (m * 8) < 2 ^ 8 * 2 ^ (m * 8) := Nat.mul_lt_mul_of_pos_right hg (Nat.pow_pos (by decide))
    rw [← Nat.pow_add] at h3
    have h4 : (2 : Nat) ^ (8 + m * 8) ≤ 2 ^ 64 := Nat.pow_le_pow_right (by decide) (by omega)
    omega
  rw [shl_val, Nat.mod_eq_of_lt h2, u64_or_nat _ _ hl h2]
theorem bcells_get (f : Nat → Nat) (p : Nat) (h : p < 32) : (bcells f)[p]? = some (.int .u8 (f p : Int)) := tab_get _ _ _ h

end Go.Proofs.Ytdeggdmoijfhdaa

/-
  The walk of the statement WideNames.
-/
namespace Go.Proofs.Ytdeggdmoijfhdaa
open Go Go.RowKit

theorem wOf_lit (k : Nat) (v : Int) (h : k < 18446744073709551616) (hv : v = (k : Int)) (w : World) :
    Calls Try.prog 29 #[.int .u64 v] w fun e w' => e = .returned (WV k) ∧ Below w.heap.size w w' := by
  subst hv; exact wOf_any k h w

theorem wBits_val (a : Nat) (cs : Array Value) (z : Int) (ha : a < M256) (hc : cs = wcells a) (h : (blen a : Int) = z) (w : World) :
    Calls Try.prog 11 #[.agg cs] w fun e w' => e = .returned (.int .i64 z) ∧ Below w.heap.size w w' := by
  subst hc; subst h; exact wBits_any a ha w

section
variable {ops : Array Oper} {Q : Act → Prop} {rest : List Oper} {o : Oper} {a : Act} {w0 w : World} {l : List (Nat × Nat)} {C : World → Prop}
theorem qLoadM (hM : Mem w0 w l) (i : Nat) (x : Operand) (g n : Nat) (hi : l[i]? = some (g, n)) (ho : o.op = .load 24 x) (hg : Region.wanted o (yielded ops a.tmps) = true) (hx : a.eval x = .pointer (some ⟨g, 0, none⟩))
    (h : wpQuiet Try.prog ops (fun w' => ∃ p : Regrown, w' = «Sort».grow (redrawn w p.d) p.os) Q rest (a.put o.dst (.agg (wcells n)))) : wpQuiet Try.prog ops (fun w' => ∃ p : Regrown, w' = «Sort».grow (redrawn w p.d) p.os) Q (o :: rest) a :=
  qLoadAs _ _ x g 0 4 _ (wcells n) _ ho hg hx (fun _ hw => row_regrown (hM.get i hi) hw) Try.underlying24 rfl info_Wide (by rw [wcells_size]; omega) (by
    have : (wcells n).extract 0 (0 + 4) = (wcells n).extract 0 (wcells n).size := by rw [wcells_size]
    rw [this]; simp) h
theorem qEqlW (T2 : TypeId) (x y : Operand) (m n : Nat) (b : Bool) (ho : o.op = .binOp .eql 24 x y T2) (hg : Region.wanted o (yielded ops a.tmps) = true) (hx : a.eval x = .agg (wcells m)) (hy : a.eval y = .agg (wcells n)) (hb : decide (m % M256 = n % M256) = b)
    (h : wpQuiet Try.prog ops C Q rest (a.put o.dst (.bool b))) : wpQuiet Try.prog ops C Q (o :: rest) a :=
  qStep _ hg (fun w _ => exec_eqlW T2 x y m n b ho hx hy hb w) h
end

end Go.Proofs.Ytdeggdmoijfhdaa
