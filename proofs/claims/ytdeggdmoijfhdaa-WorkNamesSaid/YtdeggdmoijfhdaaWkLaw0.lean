/-
  Layer 12: the statements: what they have in common.
-/
import Derived.Test.YtdeggdmoijfhdaaWkFunc2
import Derived.Test.YtdeggdmoijfhdaaWkRef4
namespace Go.Proofs.Ytdeggdmoijfhdaa
open Go Go.RowKit

theorem info_u32W : (Try.prog.info? 28).map (·.size) = some 1 := by kernel_rfl
theorem yLeqK {P : Program} {ops : Array Oper} {o : Oper} {a : Act} {S : World → Prop} (T T2 : TypeId) (x y : Operand) (k : IntKind) (m n : Int) (b : Bool) (hb : decide (m ≤ n) = b) (ho : o.op = .binOp .leq T x y T2) (hg : Region.wanted o (yielded ops a.tmps) = true) (hx : a.eval x = .int k m) (hy : a.eval y = .int k n) : YieldsIf P ops S o (.bool b) a :=
  yOf hg fun w _ => by
    subst hb
    unfold execOp; simp only [ho, hx, hy]; simp [eqGuard, binOp, Op.intCmp]
theorem same_W (n : Nat) : decide (n % M256 = n % M256) = true := by simp
theorem zero_W {n : Nat} (h : n = 0) : decide (n % M256 = 0 % M256) = true := by subst h; rfl
theorem pos_W {n : Nat} (h : 0 < n) (hn : n < M256) : decide (n % M256 = 0 % M256) = false := by rw [Nat.mod_eq_of_lt hn, Nat.zero_mod]; exact decide_eq_false (by omega)
theorem nsame_W (n : Nat) : (!decide (n % M256 = n % M256)) = false := by simp
theorem easy_fine : ¬ badN 545259519 := by decide +kernel
theorem easy_raw : rawN 545259519 = easyN := by decide +kernel
theorem easy_work : workN 545259519 = 2 := by decide +kernel
theorem kExpand_okL {v : Int} {b t : Nat} (hv : v = (b : Int)) (hb : b < 4294967296) (h : ¬ badN b) (Ht : rawN b = t) (w : World) : Calls Try.prog 9 #[.int .u32 v] w fun e w' => e = .returned (.tuple #[WV t, .int .i64 0]) ∧ Below w.heap.size w w' := by subst hv; exact kExpand_ok hb h Ht w
theorem kExpand_badL {v : Int} {b : Nat} (hv : v = (b : Int)) (hb : b < 4294967296) (h : badN b) (w : World) : Calls Try.prog 9 #[.int .u32 v] w fun e w' => e = .returned (.tuple #[WV 0, .int .i64 121]) ∧ Below w.heap.size w w' := by subst hv; exact kExpand_bad hb h w
theorem kWork_asL {v : Int} {b r : Nat} (hv : v = (b : Int)) (hb : b < 4294967296) (hr : workN b = r) (w : World) : Calls Try.prog 17 #[.int .u32 v] w fun e w' => e = .returned (WV r) ∧ Below w.heap.size w w' := by subst hv; exact kWork_as hb hr w
theorem kNext_asL {u v x : Int} {b f l r : Nat} (hu : u = (b : Int)) (hv : v = (f : Int)) (hx : x = (l : Int)) (hb : b < 4294967296) (hf : f < 4294967296) (hl : l < 4294967296) (hr : nextN b f l = r) (w : World) : Calls Try.prog 14 #[.int .u32 u, .int .u32 v, .int .u32 x] w fun e w' => e = .returned (.int .u32 (r : Int)) ∧ Below w.heap.size w w' := by subst hu hv hx; exact kNext_as hb hf hl hr w
set_option maxRecDepth 100000 in
set_option maxHeartbeats 32000000 in
theorem workAlive_any (w : World) : Calls Try.prog 10 #[] w (fun e w' => e = .returned (.bool true) ∧ Below w.heap.size w w') := by
  obtain ⟨E, HE⟩ : ∃ v_ : Nat, Hid (rawN 545259519 = v_) := ⟨_, Lib.hid rfl⟩
  obtain ⟨n, Hn⟩ : ∃ v_ : Nat, Hid (workN 545259519 = v_) := ⟨_, Lib.hid rfl⟩
  obtain ⟨c, Hc⟩ : ∃ v_ : Nat, Hid (compactN E = v_) := ⟨_, Lib.hid rfl⟩
  have fE : Hid (rawN 545259519 = E) := HE
  have hEN : E = easyN := by rw [← HE.out, easy_raw]
  have hE : E < M256 := by rw [hEN]; exact easy_lt
  have hn : n = 2 := by rw [← Hn.out, easy_work]
  have f8 : Hid (n < 18446744073709551616 ∧ (2 : Int) = (n : Int)) := Lib.hid ⟨by omega, by omega⟩
  have hc : c = 545259519 := by rw [← Hc.out, hEN]; exact compact_easy
  have f17 : Hid (decide ((c : Int) = 545259519) = true) := Lib.hid (by simp; omega)
  clear hEN hn hc HE
  have hM0 := mm_nil w
  (try unfold WV)
  go_enter Try.func10, Try.ntmps10
  go_wp2_with (first
    | (go_at_call 9; (with_reducible change Calls _ _ #[Value.int .u32 (545259519)] _ _); refine (kExpand_okL (b := 545259519) rfl (by decide) easy_fine fE.out _).mono ?_; rintro e w1 ⟨rfl, hB1⟩; have hM1 := hM0.on hB1; clear hB1 hM0; (try unfold WV); go_frame)
    | ((with_reducible change wpList _ _ _ (Oper.mk (some 1) _ _ _ _ _ :: _) _ _); refine mmAlloc hM1 _ _ rfl rfl zero_Wide ?_; intro w2 hM2; clear hM1; go_frame)
    | ((with_reducible change wpList _ _ _ (Oper.mk none (Op.store _ (Operand.tmp 1) (Operand.tmp 5)) _ _ _ _ :: _) _ _); refine mmStoreAt hM2 0 _ _ _ _ _ _ (wcells E) rfl rfl rfl rfl rfl (info_WideC _) (by simp only [wcells_size]) (wcells_one _) ?_; intro w3 hM3; dsimp only [List.set] at hM3; clear hM2; go_frame)
    | (go_at_call 17; (with_reducible change Calls _ _ #[Value.int .u32 (545259519)] _ _); refine (kWork_asL (b := 545259519) rfl (by decide) Hn.out _).mono ?_; rintro e w4 ⟨rfl, hB4⟩; have hM4 := hM3.on hB4; clear hB4 hM3; (try unfold WV); go_frame)
    | (go_at_call 29; (with_reducible change Calls _ _ #[Value.int .u64 (2)] _ _); refine (wOf_lit n 2 f8.out.1 f8.out.2 _).mono ?_; rintro e w5 ⟨rfl, hB5⟩; have hM5 := hM4.on hB5; clear hB5 hM4; (try unfold WV); go_frame)
    | ((with_reducible change wpList _ _ _ (Oper.mk (some 9) _ _ _ _ _ :: _) _ _); refine kEqlW _ _ _ (n) (n) true rfl rfl rfl rfl (same_W n) ?_; go_frame)
    | ((with_reducible change wpList _ _ _ (Oper.mk (some 12) _ _ _ _ _ :: _) _ _); refine kEqlI _ _ _ _ .i64 (0) (0) true rfl rfl rfl rfl (by decide) ?_; go_frame)
    | ((with_reducible change wpList _ _ _ (Oper.mk (some 15) _ _ _ _ _ :: _) _ _); refine kLoadRow _ _ _ _ _ _ rfl rfl rfl (hM5.get 0 rfl) Try.underlying24 rfl (info_WideC _) ?_; go_frame)
    | (go_at_call 13; (with_reducible change Calls _ _ #[Value.agg (wcells E)] _ _); refine (kCompact_as hE Hc.out _).mono ?_; rintro e w6 ⟨rfl, hB6⟩; have hM6 := hM5.on hB6; clear hB6 hM5; (try unfold WV); go_frame)
    | ((with_reducible change wpList _ _ _ (Oper.mk (some 17) _ _ _ _ _ :: _) _ _); refine kYw (yEqlK _ _ _ _ .u32 (c) (545259519) true f17.out rfl rfl rfl rfl) ?_; go_frame))
  go_ret
  exact ⟨rfl, hM6.below⟩
end Go.Proofs.Ytdeggdmoijfhdaa
