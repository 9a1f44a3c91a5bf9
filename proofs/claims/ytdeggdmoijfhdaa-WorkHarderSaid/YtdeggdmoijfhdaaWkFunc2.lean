/-
  Layer 12: contracts of package work: how hard it was, and how hard the next one must be.
-/
import Derived.Test.YtdeggdmoijfhdaaWkFunc
namespace Go.Proofs.Ytdeggdmoijfhdaa
open Go Go.RowKit

set_option maxRecDepth 100000 in
set_option maxHeartbeats 8000000 in
theorem kWork_as {b r : Nat} (hb : b < 4294967296) (hr : workN b = r) (w : World) : Calls Try.prog 17 #[.int .u32 (b : Int)] w fun e w' => e = .returned (WV r) ∧ Below w.heap.size w w' := by
  by_cases h : badN b
  · have hr : r = 0 := by rw [← hr]; exact work_bad h
    subst hr
    have hM0 := mm_nil w
    (try unfold WV)
    go_enter Try.func17, Try.ntmps17
    go_wp2_with (first
      | ((with_reducible change wpList _ _ _ (Oper.mk (some 2) _ _ _ _ _ :: _) _ _); refine mmAlloc hM0 _ _ rfl rfl zero_Wide ?_; intro w1 hM1; clear hM0; go_frame)
      | (go_at_call 9; (with_reducible change Calls _ _ #[Value.int .u32 ((b : Int))] _ _); refine (kExpand_bad hb h _).mono ?_; rintro e w2 ⟨rfl, hB2⟩; have hM2 := hM1.on hB2; clear hB2 hM1; (try unfold WV); go_frame)
      | ((with_reducible change wpList _ _ _ (Oper.mk (some 3) _ _ _ _ _ :: _) _ _); refine mmAlloc hM2 _ _ rfl rfl zero_Wide ?_; intro w3 hM3; clear hM2; go_frame)
      | ((with_reducible change wpList _ _ _ (Oper.mk none (Op.store _ (Operand.tmp 3) (Operand.tmp 14)) _ _ _ _ :: _) _ _); refine mmStoreAt hM3 0 _ _ _ _ _ _ (wcells 0) rfl rfl rfl rfl rfl (info_WideC _) (by simp only [wcells_size]) (wcells_one _) ?_; intro w4 hM4; dsimp only [List.set] at hM4; clear hM3; go_frame)
      | ((with_reducible change wpList _ _ _ (Oper.mk (some 17) _ _ _ _ _ :: _) _ _); refine kYw (yNeqK _ _ _ _ .i64 121 0 true rfl rfl rfl rfl rfl) ?_; go_frame)
      | ((with_reducible change wpList _ _ _ (Oper.mk (some 18) _ _ _ _ _ :: _) _ _); refine kBuildW0 rfl rfl ?_; go_frame)
      | ((with_reducible change wpList _ _ _ (Oper.mk none (Op.store _ (Operand.tmp 2) (Operand.tmp 18)) _ _ _ _ :: _) _ _); refine mmStoreAt hM4 1 _ _ _ _ _ _ (wcells 0) rfl rfl rfl rfl rfl (info_WideC _) (by simp only [wcells_size]) (wcells_one _) ?_; intro w5 hM5; dsimp only [List.set] at hM5; clear hM4; go_frame))
    exact result_row Try.results17 rfl (hM5.get 1 rfl) Try.underlying24 rfl (info_WideC _) rfl ⟨rfl, hM5.below⟩
  · obtain ⟨h1, h2, h3⟩ := not_bad h
    obtain ⟨t, Ht⟩ : ∃ v_ : Nat, Hid (rawN b = v_) := ⟨_, Lib.hid rfl⟩
    obtain ⟨i, Hi⟩ : ∃ v_ : Nat, Hid (1 = v_) := ⟨_, Lib.hid rfl⟩
    obtain ⟨p, Hp⟩ : ∃ v_ : Nat, Hid (t + i = v_) := ⟨_, Lib.hid rfl⟩
    obtain ⟨s, Hs⟩ : ∃ v_ : Nat, Hid (M256 - p = v_) := ⟨_, Lib.hid rfl⟩
    obtain ⟨q, Hq⟩ : ∃ v_ : Nat, Hid (s / p = v_) := ⟨_, Lib.hid rfl⟩
    obtain ⟨x, Hx⟩ : ∃ v_ : Nat, Hid (s % p = v_) := ⟨_, Lib.hid rfl⟩
    have he := easy_lt
    have ht := Ht.out
    have hi := Hi.out
    have hpp := Hp.out
    have hss := Hs.out
    have hM : easyN + 1 < M256 := by decide +kernel
    have hp : p < M256 := by omega
    have hr2 : q + i = r := by rw [← hr, work_ok h, ← Hq.out, ← hi, ← hss, ht, show t + 1 = p by omega]; exact wk_work (by omega) (by omega)
    have hrl : r < M256 := by rw [← hr]; exact work_lt b
    have hs : s < M256 := by omega
    have f21 : Hid (i < 18446744073709551616 ∧ (1 : Int) = (i : Int)) := Lib.hid ⟨by omega, by omega⟩
    have f22 : Hid (t < M256 ∧ i < M256 ∧ (t + i) % M256 = p ∧ decide (M256 ≤ t + i) = false) := Lib.hid ⟨by omega, by omega, by rw [hpp, Nat.mod_eq_of_lt hp], by simp; omega⟩
    have f28 : Hid (0 < M256 ∧ (0 + M256 - p) % M256 = s ∧ decide (0 < p) = true) := Lib.hid ⟨M256_pos, by rw [Nat.zero_add, hss, Nat.mod_eq_of_lt hs], by simp; omega⟩
    have f34 : Hid (s / p = q ∧ s % p = x) := Lib.hid ⟨Hq.out, Hx.out⟩
    have f40 : Hid (q < M256 ∧ (q + i) % M256 = r ∧ decide (M256 ≤ q + i) = false) := Lib.hid ⟨by omega, by rw [hr2, Nat.mod_eq_of_lt hrl], by simp; omega⟩
    replace h := Lib.hid h
    clear h1 h2 h3 he ht hi hpp hss hM hr hr2 hrl Hi Hp Hs Hq Hx
    have hM0 := mm_nil w
    (try unfold WV)
    go_enter Try.func17, Try.ntmps17
    go_wp2_with (first
      | ((with_reducible change wpList _ _ _ (Oper.mk (some 2) _ _ _ _ _ :: _) _ _); refine mmAlloc hM0 _ _ rfl rfl zero_Wide ?_; intro w1 hM1; clear hM0; go_frame)
      | (go_at_call 9; (with_reducible change Calls _ _ #[Value.int .u32 ((b : Int))] _ _); refine (kExpand_ok hb h.out Ht.out _).mono ?_; rintro e w2 ⟨rfl, hB2⟩; have hM2 := hM1.on hB2; clear hB2 hM1; (try unfold WV); go_frame)
      | ((with_reducible change wpList _ _ _ (Oper.mk (some 3) _ _ _ _ _ :: _) _ _); refine mmAlloc hM2 _ _ rfl rfl zero_Wide ?_; intro w3 hM3; clear hM2; go_frame)
      | ((with_reducible change wpList _ _ _ (Oper.mk none (Op.store _ (Operand.tmp 3) (Operand.tmp 14)) _ _ _ _ :: _) _ _); refine mmStoreAt hM3 0 _ _ _ _ _ _ (wcells t) rfl rfl rfl rfl rfl (info_WideC _) (by simp only [wcells_size]) (wcells_one _) ?_; intro w4 hM4; dsimp only [List.set] at hM4; clear hM3; go_frame)
      | ((with_reducible change wpList _ _ _ (Oper.mk (some 17) _ _ _ _ _ :: _) _ _); refine kYw (yNeqK _ _ _ _ .i64 0 0 false rfl rfl rfl rfl rfl) ?_; go_frame))
    refine region_sym (fun _ => 6) [.val (.agg (wcells t)), .val (.agg (wcells i)), .val (.tuple #[.agg (wcells p), .bool false]), .val (.tuple #[.agg (wcells p), .bool false]), .val (.agg (wcells p)), .val (.bool false), .fresh w4.heap.size 24 4, .hold w4.heap.size 24 (wcells p), .val (.bool false)] [.val (.agg (wcells t)), .val (.agg (wcells i)), .val (.tuple #[.agg (wcells p), .bool false]), .val (.tuple #[.agg (wcells p), .bool false]), .val (.agg (wcells p)), .val (.bool false), .hold w4.heap.size 24 (wcells p), .val undef, .val (.bool false)] (by kernel_rfl) (by kernel_rfl) rfl rfl (steps_all ⟨?_, ?_, ?_, ?_, ?_, ?_, ?_, ?_, ?_, trivial⟩) ?_
    · intro A W hsz hoth hbel hdep
      exact kLoadRow _ _ _ _ _ _ rfl rfl ((hoth 3 (free2_of (by kernel_rfl))).trans rfl) ((hM4.get 0 rfl).on hbel) Try.underlying24 rfl (info_WideC _) (symV hbel hsz rfl rfl (show 20 < 44 by decide) (Below.refl _ _) rfl)
    · intro A W hsz hoth hbel hdep
      refine kCall1 29 _ _ _ rfl rfl (by kernel_rfl) rfl ?_
      refine (wOf_lit i 1 f21.out.1 f21.out.2 W).mono ?_
      rintro e r ⟨rfl, hBc⟩
      exact ⟨_, rfl, (symV hbel hsz rfl rfl (show 21 < 44 by decide) hBc rfl)⟩
    · intro A W hsz hoth hbel hdep
      refine kCall2 39 _ _ _ _ _ rfl rfl (by kernel_rfl) (by have h := hdep ⟨0, .data⟩ (by simp) rfl; exact h) (by have h := hdep ⟨1, .data⟩ (by simp) rfl; exact h) ?_
      refine (wAdd_k f22.out.1 f22.out.2.1 f22.out.2.2 W).mono ?_
      rintro e r ⟨rfl, hBc⟩
      exact ⟨_, rfl, (symV hbel hsz rfl rfl (show 22 < 44 by decide) hBc rfl)⟩
    · intro A W hsz hoth hbel hdep
      exact kMoveV _ _ rfl rfl (by have h := hdep ⟨2, .data⟩ (by simp) rfl; exact h) (symV hbel hsz rfl rfl (show 19 < 44 by decide) (Below.refl _ _) rfl)
    · intro A W hsz hoth hbel hdep
      exact kExtract _ _ _ (.agg (wcells p)) rfl rfl (by have h := hdep ⟨3, .data⟩ (by simp) rfl; exact h) rfl (symV hbel hsz rfl rfl (show 23 < 44 by decide) (Below.refl _ _) rfl)
    · intro A W hsz hoth hbel hdep
      exact kExtract _ _ _ (.bool false) rfl rfl (by have h := hdep ⟨3, .data⟩ (by simp) rfl; exact h) rfl (symV hbel hsz rfl rfl (show 24 < 44 by decide) (Below.refl _ _) rfl)
    · intro A W hsz hoth hbel hdep
      refine kAllocL _ _ rfl rfl zero_Wide ?_
      intro r hR hl hBc
      exact (symV hbel hsz rfl rfl (show 5 < 44 by decide) hBc ⟨_, _, rfl, hbel.size, wcells_size _, hR⟩)
    · intro A W hsz hoth hbel hdep
      obtain ⟨g, cs, d8, hg, hcs, hR⟩ : ∃ g cs, A.tmps.getD 5 undef = .pointer (some ⟨g, 0, none⟩) ∧ w4.heap.size ≤ g ∧ cs.size = 4 ∧ Row W g 24 cs := (by have h := hdep ⟨6, .data⟩ (by simp) rfl; exact h)
      refine kStoreRow _ _ _ _ _ _ (wcells p) rfl rfl d8 (by have h := hdep ⟨4, .data⟩ (by simp) rfl; exact h) hR (info_WideC _) (by rw [wcells_size, hcs]) (wcells_one _) ?_
      intro r hR2 hW
      exact symW hbel rfl hW hg hR2 (by simp only [Singles, and_self, wcells_size]) ⟨g, d8, hg, hR2⟩
    · intro A W hsz hoth hbel hdep
      exact kAssignV _ _ rfl rfl (by have h := hdep ⟨5, .data⟩ (by simp) rfl; exact h) (symV hbel hsz rfl rfl (show 6 < 44 by decide) (Below.refl _ _) rfl)
    intro w5 hB5
    dsimp only [AllV]
    intro g5_5 hg5_5 hR5_5
    dsimp only [putAll]
    go_frame
    have hM5 := hM4.on hB5
    replace hM5 := hM5.cons hR5_5 (Nat.le_trans hM4.size hg5_5) (fun p hp => by have := hM4.lt hp; omega)
    clear hB5 hM4 hg5_5 hR5_5
    go_wp2_with (first
      | ((with_reducible change wpList _ _ _ (Oper.mk (some 26) _ _ _ _ _ :: _) _ _); refine kBuildW0 rfl rfl ?_; go_frame)
      | ((with_reducible change wpList _ _ _ (Oper.mk (some 27) _ _ _ _ _ :: _) _ _); refine kLoadRow _ _ _ _ _ _ rfl rfl rfl (hM5.get 0 rfl) Try.underlying24 rfl (info_WideC _) ?_; go_frame)
      | (go_at_call 24; (with_reducible change Calls _ _ #[Value.agg (wcells 0), Value.agg (wcells p)] _ _); refine (wSub_k f28.out.1 hp f28.out.2 _).mono ?_; rintro e w6 ⟨rfl, hB6⟩; have hM6 := hM5.on hB6; clear hB6 hM5; (try unfold WV); go_frame)
      | ((with_reducible change wpList _ _ _ (Oper.mk (some 7) _ _ _ _ _ :: _) _ _); refine mmAlloc hM6 _ _ rfl rfl zero_Wide ?_; intro w7 hM7; clear hM6; go_frame)
      | ((with_reducible change wpList _ _ _ (Oper.mk none (Op.store _ (Operand.tmp 7) (Operand.tmp 29)) _ _ _ _ :: _) _ _); refine mmStoreAt hM7 0 _ _ _ _ _ _ (wcells s) rfl rfl rfl rfl rfl (info_WideC _) (by simp only [wcells_size]) (wcells_one _) ?_; intro w8 hM8; dsimp only [List.set] at hM8; clear hM7; go_frame)
      | ((with_reducible change wpList _ _ _ (Oper.mk (some 32) _ _ _ _ _ :: _) _ _); refine kLoadRow _ _ _ _ _ _ rfl rfl rfl (hM8.get 0 rfl) Try.underlying24 rfl (info_WideC _) ?_; go_frame)
      | ((with_reducible change wpList _ _ _ (Oper.mk (some 33) _ _ _ _ _ :: _) _ _); refine kLoadRow _ _ _ _ _ _ rfl rfl rfl (hM8.get 1 rfl) Try.underlying24 rfl (info_WideC _) ?_; go_frame)
      | (go_at_call 40; (with_reducible change Calls _ _ #[Value.agg (wcells s), Value.agg (wcells p)] _ _); refine (wDiv_k hs hp f34.out _).mono ?_; rintro e w9 ⟨rfl, hB9⟩; have hM9 := hM8.on hB9; clear hB9 hM8; (try unfold WV); go_frame)
      | ((with_reducible change wpList _ _ _ (Oper.mk (some 9) _ _ _ _ _ :: _) _ _); refine mmAlloc hM9 _ _ rfl rfl zero_Wide ?_; intro w10 hM10; clear hM9; go_frame)
      | ((with_reducible change wpList _ _ _ (Oper.mk (some 10) _ _ _ _ _ :: _) _ _); refine mmAlloc hM10 _ _ rfl rfl zero_Wide ?_; intro w11 hM11; clear hM10; go_frame)
      | ((with_reducible change wpList _ _ _ (Oper.mk none (Op.store _ (Operand.tmp 9) (Operand.tmp 35)) _ _ _ _ :: _) _ _); refine mmStoreAt hM11 1 _ _ _ _ _ _ (wcells q) rfl rfl rfl rfl rfl (info_WideC _) (by simp only [wcells_size]) (wcells_one _) ?_; intro w12 hM12; dsimp only [List.set] at hM12; clear hM11; go_frame)
      | ((with_reducible change wpList _ _ _ (Oper.mk none (Op.store _ (Operand.tmp 10) (Operand.tmp 36)) _ _ _ _ :: _) _ _); refine mmStoreAt hM12 0 _ _ _ _ _ _ (wcells x) rfl rfl rfl rfl rfl (info_WideC _) (by simp only [wcells_size]) (wcells_one _) ?_; intro w13 hM13; dsimp only [List.set] at hM13; clear hM12; go_frame))
    refine region_tree (.two 0 (.one 1 (.one 2 (.q 3 (.q 4 (.q 5 (.one 6 .fin)))))) 1 (.one 0 (.one 2 (.q 3 (.q 4 (.q 5 (.one 6 .fin))))))) (fun _ => True) (by kernel_rfl) (by kernel_rfl) ?_
    intro zt7 hBd hsd
    clear hsd
    have hM14 := hM13.on hBd
    clear hBd hM13
    have hS : (fun _ : World => True) zt7 := trivial
    refine tTwoLC (.agg (wcells q)) (.agg (wcells i)) (fun zW => Mm w zW [(w10.heap.size, 24, wcells x), (w9.heap.size, 24, wcells q), (w6.heap.size, 24, wcells s), (g5_5, 24, wcells p), (w2.heap.size, 24, wcells t), (w.heap.size, 24, wcells 0)]) hM14 rfl rfl rfl rfl (by decide) (fun zW hz => yLoadW _ _ _ (fun _ e => by cases e; exact hz.get 1 rfl) rfl rfl rfl) (fun zW hz => yLoadW _ _ _ (fun _ e => by cases e; exact hz.get 1 rfl) rfl rfl rfl) (fun zW hz R K => by refine kCall1 29 _ _ _ rfl rfl (by kernel_rfl) rfl ?_; refine (wOf_lit i 1 f21.out.1 f21.out.2 _).mono ?_; rintro e z' ⟨rfl, hB⟩; exact ⟨_, rfl, K z' (hz.on hB)⟩) (fun zW hz R K => by refine kCall1 29 _ _ _ rfl rfl (by kernel_rfl) rfl ?_; refine (wOf_lit i 1 f21.out.1 f21.out.2 _).mono ?_; rintro e z' ⟨rfl, hB⟩; exact ⟨_, rfl, K z' (hz.on hB)⟩) ?_
    intro zu7 hM15; clear hM14 hS; go_frame
    have hS : (fun _ : World => True) zu7 := trivial
    refine tOne rfl ?_
    refine kCall2 39 _ _ _ _ _ rfl rfl (by kernel_rfl) rfl rfl ?_
    refine (wAdd_k f40.out.1 f22.out.2.1 f40.out.2 _).mono ?_
    rintro e zc7_2 ⟨rfl, hB⟩
    have hM16 := hM15.on hB
    clear hB hM15 hS
    have hS : (fun _ : World => True) zc7_2 := trivial
    refine ⟨_, rfl, mixOn ⟨_, (fun _ h => h), hS, ?_⟩⟩
    go_frame
    refine tY (.tuple #[.agg (wcells r), .bool false]) hS rfl (yMove _ (.tuple #[.agg (wcells r), .bool false]) rfl rfl rfl) ?_; go_frame
    refine tY (.agg (wcells r)) hS rfl (yExtr _ 0 _ (.agg (wcells r)) rfl rfl rfl rfl) ?_; go_frame
    refine tY (.bool false) hS rfl (yExtr _ 1 _ (.bool false) rfl rfl rfl rfl) ?_; go_frame
    refine tOne rfl ?_
    refine mmStoreAt hM16 1 _ _ _ _ _ _ (wcells r) rfl rfl rfl rfl rfl (info_WideC _) (by simp only [wcells_size]) (wcells_one _) ?_
    intro zs7 hM17; dsimp only [List.set] at hM17; clear hM16 hS
    have hS : (fun _ : World => True) zs7 := trivial
    refine mixOn ⟨_, (fun _ h => h), hS, ?_⟩
    go_frame
    refine tDone ?_
    clear hS
    go_wp2_with (first
      | ((with_reducible change wpList _ _ _ (Oper.mk (some 43) _ _ _ _ _ :: _) _ _); refine kLoadRow _ _ _ _ _ _ rfl rfl rfl (hM17.get 1 rfl) Try.underlying24 rfl (info_WideC _) ?_; go_frame)
      | ((with_reducible change wpList _ _ _ (Oper.mk none (Op.store _ (Operand.tmp 2) (Operand.tmp 43)) _ _ _ _ :: _) _ _); refine mmStoreAt hM17 5 _ _ _ _ _ _ (wcells r) rfl rfl rfl rfl rfl (info_WideC _) (by simp only [wcells_size]) (wcells_one _) ?_; intro w18 hM18; dsimp only [List.set] at hM18; clear hM17; go_frame))
    exact result_row Try.results17 rfl (hM18.get 5 rfl) Try.underlying24 rfl (info_WideC _) rfl ⟨rfl, hM18.below⟩
set_option maxRecDepth 100000 in
set_option maxHeartbeats 8000000 in
theorem kTook_as {a b r : Nat} (ha : a < 4294967296) (hb : b < 4294967296) (hr : spanN a b = r) (w : World) : Calls Try.prog 34 #[.int .u32 (a : Int), .int .u32 (b : Int)] w fun e w' => e = .returned (.int .u64 (r : Int)) ∧ Below w.heap.size w w' := by
  obtain ⟨d, Hd⟩ : ∃ v_ : Int, Hid ((b : Int) - (a : Int) = v_) := ⟨_, Lib.hid rfl⟩
  obtain ⟨x, Hx⟩ : ∃ v_ : Int, Hid ((if 1050 > d then 1050 else d) = v_) := ⟨_, Lib.hid rfl⟩
  have hd := Hd.out
  have hx := Hx.out
  have hx2 : (if 16800 < x then 16800 else x) = (r : Int) := by
    rw [← hr]; unfold spanN
    split at hx <;> split <;> split <;> (try split) <;> omega
  have hrl : r ≤ 16800 := by rw [← hr]; exact (span_le a b).2
  have f7 : Hid (IntKind.i64.wrap (b : Int) = (b : Int)) := Lib.hid (wrap_i64N (by omega))
  have f9 : Hid (IntKind.i64.wrap (a : Int) = (a : Int)) := Lib.hid (wrap_i64N (by omega))
  have f10 : Hid ((b : Int) - (a : Int) = d ∧ -9223372036854775808 ≤ d ∧ d < 9223372036854775808) := Lib.hid (by omega)
  have f13 : Hid ((if 16800 < x then 16800 else x) = (r : Int)) := Lib.hid hx2
  have f14 : Hid (IntKind.u64.wrap (r : Int) = (r : Int)) := Lib.hid (wrap_u64N (by omega))
  clear hd hx hx2 hr hrl Hd
  have hM0 := mm_nil w
  (try unfold WV)
  go_enter Try.func34, Try.ntmps34
  go_wp2_with (first
    | ((with_reducible change wpList _ _ _ (Oper.mk (some 7) _ _ _ _ _ :: _) _ _); refine kYw (yConvK Try.underlying28 Try.underlying2 _ b b f7.out rfl rfl rfl) ?_; go_frame)
    | ((with_reducible change wpList _ _ _ (Oper.mk (some 9) _ _ _ _ _ :: _) _ _); refine kYw (yConvK Try.underlying28 Try.underlying2 _ a a f9.out rfl rfl rfl) ?_; go_frame)
    | ((with_reducible change wpList _ _ _ (Oper.mk (some 10) _ _ _ _ _ :: _) _ _); refine kYw (ySubZ _ _ _ _ b a d f10.out rfl rfl rfl rfl) ?_; go_frame)
    | ((with_reducible change wpList _ _ _ (Oper.mk (some 12) _ _ _ _ _ :: _) _ _); refine kYw (yMaxL _ _ d 1050 x Hx.out rfl rfl rfl rfl) ?_; go_frame)
    | ((with_reducible change wpList _ _ _ (Oper.mk (some 13) _ _ _ _ _ :: _) _ _); refine kYw (yMinL _ _ x 16800 r f13.out rfl rfl rfl rfl) ?_; go_frame)
    | ((with_reducible change wpList _ _ _ (Oper.mk (some 14) _ _ _ _ _ :: _) _ _); refine kYw (yConvK Try.underlying2 Try.underlying22 _ r r f14.out rfl rfl rfl) ?_; go_frame))
  go_ret
  exact ⟨rfl, hM0.below⟩
set_option maxRecDepth 100000 in
set_option maxHeartbeats 8000000 in
theorem kScaled_as {t s k r : Nat} {c : Bool} {v : Int} (hv : v = (k : Int)) (hk : k = 4200) (ht : t ≤ easyN) (hs : s ≤ 16800) (hr : t * s / 4200 % M256 = r) (hc : decide (M256 ≤ t * s / 4200) = c) (w : World) : Calls Try.prog 33 #[WV t, .int .u64 (s : Int), .int .u64 v] w fun e w' => e = .returned (.tuple #[WV r, .bool c]) ∧ Below w.heap.size w w' := by
  subst hv
  obtain ⟨q, Hq⟩ : ∃ v_ : Nat, Hid (t / k = v_) := ⟨_, Lib.hid rfl⟩
  obtain ⟨l, Hl⟩ : ∃ v_ : Nat, Hid (t % k = v_) := ⟨_, Lib.hid rfl⟩
  obtain ⟨a, Ha⟩ : ∃ v_ : Nat, Hid (q * s % M256 = v_) := ⟨_, Lib.hid rfl⟩
  obtain ⟨h, Hh⟩ : ∃ v_ : Nat, Hid (q * s / M256 = v_) := ⟨_, Lib.hid rfl⟩
  obtain ⟨f, Hf⟩ : ∃ v_ : Nat, Hid (l * s = v_) := ⟨_, Lib.hid rfl⟩
  obtain ⟨z, Hz⟩ : ∃ v_ : Nat, Hid (0 = v_) := ⟨_, Lib.hid rfl⟩
  obtain ⟨f2, Hf2⟩ : ∃ v_ : Nat, Hid (f / k = v_) := ⟨_, Lib.hid rfl⟩
  obtain ⟨fx, Hfx⟩ : ∃ v_ : Nat, Hid (f % k = v_) := ⟨_, Lib.hid rfl⟩
  have he := easy_lt
  have tM : t < M256 := Nat.lt_of_le_of_lt ht he
  have hkk := hk
  have ll : l < 4200 := by rw [← Hl.out, hk]; exact Nat.mod_lt _ (by decide)
  have qM : q < M256 := by rw [← Hq.out]; exact Nat.lt_of_le_of_lt (Nat.div_le_self _ _) tM
  have aM : a < M256 := by rw [← Ha.out]; exact Nat.mod_lt _ M256_pos
  have hf := Nat.mul_le_mul (Nat.le_of_lt ll) hs
  rw [Hf.out] at hf
  have hf2 : f2 ≤ f := by rw [← Hf2.out]; exact Nat.div_le_self _ _
  have hhM : M256 = 115792089237316195423570985008687907853269984665640564039457584007913129639936 := rfl
  have fM : f < M256 := by omega
  have f2M : f2 < M256 := by omega
  have sM : s < M256 := by omega
  have kM : k < M256 := by omega
  have lM : l < M256 := by omega
  have hsum : q * s + f2 = t * s / 4200 := by rw [← Hf2.out, ← Hf.out, ← Hl.out, ← Hq.out, hk]; exact wk_scaled t s
  have hqs : q * s = a + M256 * h := by rw [← Ha.out, ← Hh.out]; exact (Nat.mod_add_div _ _).symm
  have hh : h < M256 := by rw [← Hh.out, Nat.div_lt_iff_lt_mul M256_pos]; exact Nat.mul_lt_mul'' qM sM
  have hrr : (a + f2) % M256 = r := by rw [← hr, ← hsum, hqs, Nat.add_right_comm, Nat.add_mul_mod_self_left]
  have hz := Hz.out
  obtain ⟨m, Hm⟩ : ∃ v_ : Bool, Hid (decide (M256 ≤ a + f2) = v_) := ⟨_, Lib.hid rfl⟩
  obtain ⟨g, Hg⟩ : ∃ v_ : Bool, Hid ((!decide (h % M256 = 0 % M256)) = v_) := ⟨_, Lib.hid rfl⟩
  have hcc : (m || g) = c := by
    rw [← Hm.out, ← Hg.out, ← hc, ← hsum, hqs, Nat.mod_eq_of_lt hh, Nat.zero_mod]
    by_cases h0 : h = 0
    · subst h0; simp
    · have h1 : M256 ≤ M256 * h := Nat.le_mul_of_pos_right _ (by omega)
      have h2 : M256 ≤ a + M256 * h + f2 := by omega
      simp [h0, h2]
  have f19 : Hid (k < 18446744073709551616) := Lib.hid (by omega)
  have f26 : Hid (s < 18446744073709551616) := Lib.hid (by omega)
  have f20 : Hid (t / k = q ∧ t % k = l) := Lib.hid ⟨Hq.out, Hl.out⟩
  have f27 : Hid (q * s % M256 = a ∧ q * s / M256 = h) := Lib.hid ⟨Ha.out, Hh.out⟩
  have f34 : Hid (l * s % M256 = f ∧ l * s / M256 = z) := Lib.hid ⟨by rw [Hf.out, Nat.mod_eq_of_lt fM], by rw [Hf.out, Nat.div_eq_of_lt fM, ← hz]⟩
  have f41 : Hid (f / k = f2 ∧ f % k = fx) := Lib.hid ⟨Hf2.out, Hfx.out⟩
  have f47 : Hid ((a + f2) % M256 = r ∧ decide (M256 ≤ a + f2) = m) := Lib.hid ⟨hrr, Hm.out⟩
  clear he ht hk hkk ll hf hf2 hhM hsum hqs hh hrr hz hr hc hs Hq Hl Ha Hh Hf Hz Hf2 Hfx Hm
  cases m with
  | true =>
    have hcc : c = true := by rw [← hcc]; rfl
    subst hcc
    clear Hg
    have hM0 := mm_nil w
    (try unfold WV)
    go_enter Try.func33, Try.ntmps33
    go_wp2_with (first
      | ((with_reducible change wpList _ _ _ (Oper.mk (some 3) _ _ _ _ _ :: _) _ _); refine mmBox hM0 _ _ (wcells t) rfl rfl rfl ?_; intro w1 hM1; clear hM0; go_frame)
      | ((with_reducible change wpList _ _ _ (Oper.mk (some 6) _ _ _ _ _ :: _) _ _); refine mmAlloc hM1 _ _ rfl rfl zero_Wide ?_; intro w2 hM2; clear hM1; go_frame))
    refine region_symN [7, 8] [8, 9] (by kernel_rfl) (fun i => [0, 0, 0, 0, 0, 0, 0, 0, 0, 7, 8].getD i 0) [.val (.agg (wcells t)), .val (.int .u64 ((k : Int))), .val (.agg (wcells k)), .val (.tuple #[.agg (wcells q), .agg (wcells l)]), .val (.tuple #[.agg (wcells q), .agg (wcells l)]), .val (.agg (wcells q)), .val (.agg (wcells l)), .fresh w2.heap.size 24 4, .fresh w2.heap.size 24 4, .hold w2.heap.size 24 (wcells q), .hold w2.heap.size 24 (wcells l)] [.val (.agg (wcells t)), .val (.int .u64 ((k : Int))), .val (.agg (wcells k)), .val (.tuple #[.agg (wcells q), .agg (wcells l)]), .val (.tuple #[.agg (wcells q), .agg (wcells l)]), .val (.agg (wcells q)), .val (.agg (wcells l)), .hold w2.heap.size 24 (wcells q), .hold w2.heap.size 24 (wcells l), .val undef, .val undef] (by kernel_rfl) (by kernel_rfl) rfl rfl (by intro s hs; simp only [List.mem_cons, List.not_mem_nil, or_false] at hs; rcases hs with rfl | rfl <;> rfl) (steps_all ⟨?_, ?_, ?_, ?_, ?_, ?_, ?_, ?_, ?_, ?_, ?_, trivial⟩) ?_
    · intro A W hsz hoth hbel hX hdep
      exact kLoadRow _ _ _ _ _ _ rfl rfl ((hoth 3 (free2_of (by kernel_rfl))).trans rfl) ((hM2.get 1 rfl).on hbel) Try.underlying24 rfl (info_WideC _) (symVN hbel hX hsz rfl rfl (show 17 < 57 by decide) rfl (Below.refl _ _) rfl)
    · intro A W hsz hoth hbel hX hdep
      exact kMoveV _ _ rfl rfl ((hoth 2 (free2_of (by kernel_rfl))).trans rfl) (symVN hbel hX hsz rfl rfl (show 18 < 57 by decide) rfl (Below.refl _ _) rfl)
    · intro A W hsz hoth hbel hX hdep
      refine kCall1 29 _ _ _ rfl rfl (by kernel_rfl) (by have h := hdep ⟨1, .data⟩ (by simp) rfl; exact h) ?_
      refine (wOf_any k f19.out W).mono ?_
      rintro e r ⟨rfl, hBc⟩
      exact ⟨_, rfl, (symVN hbel hX hsz rfl rfl (show 19 < 57 by decide) rfl hBc rfl)⟩
    · intro A W hsz hoth hbel hX hdep
      refine kCall2 40 _ _ _ _ _ rfl rfl (by kernel_rfl) (by have h := hdep ⟨0, .data⟩ (by simp) rfl; exact h) (by have h := hdep ⟨2, .data⟩ (by simp) rfl; exact h) ?_
      refine (wDiv_k tM kM f20.out W).mono ?_
      rintro e r ⟨rfl, hBc⟩
      exact ⟨_, rfl, (symVN hbel hX hsz rfl rfl (show 20 < 57 by decide) rfl hBc rfl)⟩
    · intro A W hsz hoth hbel hX hdep
      exact kMoveV _ _ rfl rfl (by have h := hdep ⟨3, .data⟩ (by simp) rfl; exact h) (symVN hbel hX hsz rfl rfl (show 16 < 57 by decide) rfl (Below.refl _ _) rfl)
    · intro A W hsz hoth hbel hX hdep
      exact kExtract _ _ _ (.agg (wcells q)) rfl rfl (by have h := hdep ⟨4, .data⟩ (by simp) rfl; exact h) rfl (symVN hbel hX hsz rfl rfl (show 21 < 57 by decide) rfl (Below.refl _ _) rfl)
    · intro A W hsz hoth hbel hX hdep
      exact kExtract _ _ _ (.agg (wcells l)) rfl rfl (by have h := hdep ⟨4, .data⟩ (by simp) rfl; exact h) rfl (symVN hbel hX hsz rfl rfl (show 22 < 57 by decide) rfl (Below.refl _ _) rfl)
    · intro A W hsz hoth hbel hX hdep
      refine kAllocL _ _ rfl rfl zero_Wide ?_
      intro r hR hl hBc
      exact (symAN hbel hX hsz rfl rfl (show 8 < 57 by decide) hl hBc ⟨_, _, rfl, hbel.size, wcells_size _, hR⟩)
    · intro A W hsz hoth hbel hX hdep
      refine kAllocL _ _ rfl rfl zero_Wide ?_
      intro r hR hl hBc
      exact (symAN hbel hX hsz rfl rfl (show 9 < 57 by decide) hl hBc ⟨_, _, rfl, hbel.size, wcells_size _, hR⟩)
    · intro A W hsz hoth hbel hX hdep
      obtain ⟨g, cs, d8, hg, hcs, hR⟩ : ∃ g cs, A.tmps.getD 8 undef = .pointer (some ⟨g, 0, none⟩) ∧ w2.heap.size ≤ g ∧ cs.size = 4 ∧ Row W g 24 cs := (by have h := hdep ⟨7, .data⟩ (by simp) rfl; exact h)
      refine kStoreRow _ _ _ _ _ _ (wcells q) rfl rfl d8 (by have h := hdep ⟨5, .data⟩ (by simp) rfl; exact h) hR (info_WideC _) (by rw [wcells_size, hcs]) (wcells_one _) ?_
      intro r hR2 hW
      exact symWN (s := 8) hbel hX rfl rfl rfl d8 hR hW hg hR2 (by simp [OnlyAt, srcOf, dstOf, wcells_size]) ⟨g, d8, hg, hR2⟩
    · intro A W hsz hoth hbel hX hdep
      obtain ⟨g, cs, d8, hg, hcs, hR⟩ : ∃ g cs, A.tmps.getD 9 undef = .pointer (some ⟨g, 0, none⟩) ∧ w2.heap.size ≤ g ∧ cs.size = 4 ∧ Row W g 24 cs := (by have h := hdep ⟨8, .data⟩ (by simp) rfl; exact h)
      refine kStoreRow _ _ _ _ _ _ (wcells l) rfl rfl d8 (by have h := hdep ⟨6, .data⟩ (by simp) rfl; exact h) hR (info_WideC _) (by rw [wcells_size, hcs]) (wcells_one _) ?_
      intro r hR2 hW
      exact symWN (s := 9) hbel hX rfl rfl rfl d8 hR hW hg hR2 (by simp [OnlyAt, srcOf, dstOf, wcells_size]) ⟨g, d8, hg, hR2⟩
    intro w3 hB3
    dsimp only [AllV]
    intro g3_8 hg3_8 hR3_8
    intro g3_9 hg3_9 hR3_9
    intro hap
    dsimp only [putAll]
    go_frame
    have hM3 := hM2.on hB3
    replace hM3 := hM3.cons hR3_8 (Nat.le_trans hM2.size hg3_8) (fun p hp => by have := hM2.lt hp; omega)
    have hne3_9_3_8 : g3_9 ≠ g3_8 := fun e => hap 8 (by simp) 7 (by simp) (by decide) g3_9 rfl (by rw [e]; rfl)
    replace hM3 := hM3.cons hR3_9 (Nat.le_trans hM2.size hg3_9) (List.forall_mem_cons.2 ⟨hne3_9_3_8, fun p hp => by have := hM2.lt hp; omega⟩)
    clear hB3 hM2 hg3_8 hR3_8 hg3_9 hR3_9 hap
    go_wp2_with fail
    refine region_symN [7, 8] [10, 11] (by kernel_rfl) (fun i => [0, 0, 0, 0, 0, 0, 0, 0, 0, 7, 8].getD i 0) [.val (.agg (wcells q)), .val (.int .u64 ((s : Int))), .val (.agg (wcells s)), .val (.tuple #[.agg (wcells a), .agg (wcells h)]), .val (.tuple #[.agg (wcells a), .agg (wcells h)]), .val (.agg (wcells a)), .val (.agg (wcells h)), .fresh w3.heap.size 24 4, .fresh w3.heap.size 24 4, .hold w3.heap.size 24 (wcells a), .hold w3.heap.size 24 (wcells h)] [.val (.agg (wcells q)), .val (.int .u64 ((s : Int))), .val (.agg (wcells s)), .val (.tuple #[.agg (wcells a), .agg (wcells h)]), .val (.tuple #[.agg (wcells a), .agg (wcells h)]), .val (.agg (wcells a)), .val (.agg (wcells h)), .hold w3.heap.size 24 (wcells a), .hold w3.heap.size 24 (wcells h), .val undef, .val undef] (by kernel_rfl) (by kernel_rfl) rfl rfl (by intro s hs; simp only [List.mem_cons, List.not_mem_nil, or_false] at hs; rcases hs with rfl | rfl <;> rfl) (steps_all ⟨?_, ?_, ?_, ?_, ?_, ?_, ?_, ?_, ?_, ?_, ?_, trivial⟩) ?_
    · intro A W hsz hoth hbel hX hdep
      exact kLoadRow _ _ _ _ _ _ rfl rfl ((hoth 8 (free2_of (by kernel_rfl))).trans rfl) ((hM3.get 1 rfl).on hbel) Try.underlying24 rfl (info_WideC _) (symVN hbel hX hsz rfl rfl (show 24 < 57 by decide) rfl (Below.refl _ _) rfl)
    · intro A W hsz hoth hbel hX hdep
      exact kMoveV _ _ rfl rfl ((hoth 1 (free2_of (by kernel_rfl))).trans rfl) (symVN hbel hX hsz rfl rfl (show 25 < 57 by decide) rfl (Below.refl _ _) rfl)
    · intro A W hsz hoth hbel hX hdep
      refine kCall1 29 _ _ _ rfl rfl (by kernel_rfl) (by have h := hdep ⟨1, .data⟩ (by simp) rfl; exact h) ?_
      refine (wOf_any s f26.out W).mono ?_
      rintro e r ⟨rfl, hBc⟩
      exact ⟨_, rfl, (symVN hbel hX hsz rfl rfl (show 26 < 57 by decide) rfl hBc rfl)⟩
    · intro A W hsz hoth hbel hX hdep
      refine kCall2 51 _ _ _ _ _ rfl rfl (by kernel_rfl) (by have h := hdep ⟨0, .data⟩ (by simp) rfl; exact h) (by have h := hdep ⟨2, .data⟩ (by simp) rfl; exact h) ?_
      refine (wMul_k qM sM f27.out W).mono ?_
      rintro e r ⟨rfl, hBc⟩
      exact ⟨_, rfl, (symVN hbel hX hsz rfl rfl (show 27 < 57 by decide) rfl hBc rfl)⟩
    · intro A W hsz hoth hbel hX hdep
      exact kMoveV _ _ rfl rfl (by have h := hdep ⟨3, .data⟩ (by simp) rfl; exact h) (symVN hbel hX hsz rfl rfl (show 23 < 57 by decide) rfl (Below.refl _ _) rfl)
    · intro A W hsz hoth hbel hX hdep
      exact kExtract _ _ _ (.agg (wcells a)) rfl rfl (by have h := hdep ⟨4, .data⟩ (by simp) rfl; exact h) rfl (symVN hbel hX hsz rfl rfl (show 28 < 57 by decide) rfl (Below.refl _ _) rfl)
    · intro A W hsz hoth hbel hX hdep
      exact kExtract _ _ _ (.agg (wcells h)) rfl rfl (by have h := hdep ⟨4, .data⟩ (by simp) rfl; exact h) rfl (symVN hbel hX hsz rfl rfl (show 29 < 57 by decide) rfl (Below.refl _ _) rfl)
    · intro A W hsz hoth hbel hX hdep
      refine kAllocL _ _ rfl rfl zero_Wide ?_
      intro r hR hl hBc
      exact (symAN hbel hX hsz rfl rfl (show 10 < 57 by decide) hl hBc ⟨_, _, rfl, hbel.size, wcells_size _, hR⟩)
    · intro A W hsz hoth hbel hX hdep
      refine kAllocL _ _ rfl rfl zero_Wide ?_
      intro r hR hl hBc
      exact (symAN hbel hX hsz rfl rfl (show 11 < 57 by decide) hl hBc ⟨_, _, rfl, hbel.size, wcells_size _, hR⟩)
    · intro A W hsz hoth hbel hX hdep
      obtain ⟨g, cs, d8, hg, hcs, hR⟩ : ∃ g cs, A.tmps.getD 10 undef = .pointer (some ⟨g, 0, none⟩) ∧ w3.heap.size ≤ g ∧ cs.size = 4 ∧ Row W g 24 cs := (by have h := hdep ⟨7, .data⟩ (by simp) rfl; exact h)
      refine kStoreRow _ _ _ _ _ _ (wcells a) rfl rfl d8 (by have h := hdep ⟨5, .data⟩ (by simp) rfl; exact h) hR (info_WideC _) (by rw [wcells_size, hcs]) (wcells_one _) ?_
      intro r hR2 hW
      exact symWN (s := 10) hbel hX rfl rfl rfl d8 hR hW hg hR2 (by simp [OnlyAt, srcOf, dstOf, wcells_size]) ⟨g, d8, hg, hR2⟩
    · intro A W hsz hoth hbel hX hdep
      obtain ⟨g, cs, d8, hg, hcs, hR⟩ : ∃ g cs, A.tmps.getD 11 undef = .pointer (some ⟨g, 0, none⟩) ∧ w3.heap.size ≤ g ∧ cs.size = 4 ∧ Row W g 24 cs := (by have h := hdep ⟨8, .data⟩ (by simp) rfl; exact h)
      refine kStoreRow _ _ _ _ _ _ (wcells h) rfl rfl d8 (by have h := hdep ⟨6, .data⟩ (by simp) rfl; exact h) hR (info_WideC _) (by rw [wcells_size, hcs]) (wcells_one _) ?_
      intro r hR2 hW
      exact symWN (s := 11) hbel hX rfl rfl rfl d8 hR hW hg hR2 (by simp [OnlyAt, srcOf, dstOf, wcells_size]) ⟨g, d8, hg, hR2⟩
    intro w4 hB4
    dsimp only [AllV]
    intro g4_10 hg4_10 hR4_10
    intro g4_11 hg4_11 hR4_11
    intro hap
    dsimp only [putAll]
    go_frame
    have hM4 := hM3.on hB4
    replace hM4 := hM4.cons hR4_10 (Nat.le_trans hM3.size hg4_10) (fun p hp => by have := hM3.lt hp; omega)
    have hne4_11_4_10 : g4_11 ≠ g4_10 := fun e => hap 8 (by simp) 7 (by simp) (by decide) g4_11 rfl (by rw [e]; rfl)
    replace hM4 := hM4.cons hR4_11 (Nat.le_trans hM3.size hg4_11) (List.forall_mem_cons.2 ⟨hne4_11_4_10, fun p hp => by have := hM3.lt hp; omega⟩)
    clear hB4 hM3 hg4_10 hR4_10 hg4_11 hR4_11 hap
    go_wp2_with fail
    refine region_symN [7, 8] [12, 13] (by kernel_rfl) (fun i => [0, 0, 0, 0, 0, 0, 0, 0, 0, 7, 8].getD i 0) [.val (.agg (wcells l)), .val (.int .u64 ((s : Int))), .val (.agg (wcells s)), .val (.tuple #[.agg (wcells f), .agg (wcells z)]), .val (.tuple #[.agg (wcells f), .agg (wcells z)]), .val (.agg (wcells f)), .val (.agg (wcells z)), .fresh w4.heap.size 24 4, .fresh w4.heap.size 24 4, .hold w4.heap.size 24 (wcells f), .hold w4.heap.size 24 (wcells z)] [.val (.agg (wcells l)), .val (.int .u64 ((s : Int))), .val (.agg (wcells s)), .val (.tuple #[.agg (wcells f), .agg (wcells z)]), .val (.tuple #[.agg (wcells f), .agg (wcells z)]), .val (.agg (wcells f)), .val (.agg (wcells z)), .hold w4.heap.size 24 (wcells f), .hold w4.heap.size 24 (wcells z), .val undef, .val undef] (by kernel_rfl) (by kernel_rfl) rfl rfl (by intro s hs; simp only [List.mem_cons, List.not_mem_nil, or_false] at hs; rcases hs with rfl | rfl <;> rfl) (steps_all ⟨?_, ?_, ?_, ?_, ?_, ?_, ?_, ?_, ?_, ?_, ?_, trivial⟩) ?_
    · intro A W hsz hoth hbel hX hdep
      exact kLoadRow _ _ _ _ _ _ rfl rfl ((hoth 9 (free2_of (by kernel_rfl))).trans rfl) ((hM4.get 2 rfl).on hbel) Try.underlying24 rfl (info_WideC _) (symVN hbel hX hsz rfl rfl (show 31 < 57 by decide) rfl (Below.refl _ _) rfl)
    · intro A W hsz hoth hbel hX hdep
      exact kMoveV _ _ rfl rfl ((hoth 1 (free2_of (by kernel_rfl))).trans rfl) (symVN hbel hX hsz rfl rfl (show 32 < 57 by decide) rfl (Below.refl _ _) rfl)
    · intro A W hsz hoth hbel hX hdep
      refine kCall1 29 _ _ _ rfl rfl (by kernel_rfl) (by have h := hdep ⟨1, .data⟩ (by simp) rfl; exact h) ?_
      refine (wOf_any s f26.out W).mono ?_
      rintro e r ⟨rfl, hBc⟩
      exact ⟨_, rfl, (symVN hbel hX hsz rfl rfl (show 33 < 57 by decide) rfl hBc rfl)⟩
    · intro A W hsz hoth hbel hX hdep
      refine kCall2 51 _ _ _ _ _ rfl rfl (by kernel_rfl) (by have h := hdep ⟨0, .data⟩ (by simp) rfl; exact h) (by have h := hdep ⟨2, .data⟩ (by simp) rfl; exact h) ?_
      refine (wMul_k lM sM f34.out W).mono ?_
      rintro e r ⟨rfl, hBc⟩
      exact ⟨_, rfl, (symVN hbel hX hsz rfl rfl (show 34 < 57 by decide) rfl hBc rfl)⟩
    · intro A W hsz hoth hbel hX hdep
      exact kMoveV _ _ rfl rfl (by have h := hdep ⟨3, .data⟩ (by simp) rfl; exact h) (symVN hbel hX hsz rfl rfl (show 30 < 57 by decide) rfl (Below.refl _ _) rfl)
    · intro A W hsz hoth hbel hX hdep
      exact kExtract _ _ _ (.agg (wcells f)) rfl rfl (by have h := hdep ⟨4, .data⟩ (by simp) rfl; exact h) rfl (symVN hbel hX hsz rfl rfl (show 35 < 57 by decide) rfl (Below.refl _ _) rfl)
    · intro A W hsz hoth hbel hX hdep
      exact kExtract _ _ _ (.agg (wcells z)) rfl rfl (by have h := hdep ⟨4, .data⟩ (by simp) rfl; exact h) rfl (symVN hbel hX hsz rfl rfl (show 36 < 57 by decide) rfl (Below.refl _ _) rfl)
    · intro A W hsz hoth hbel hX hdep
      refine kAllocL _ _ rfl rfl zero_Wide ?_
      intro r hR hl hBc
      exact (symAN hbel hX hsz rfl rfl (show 12 < 57 by decide) hl hBc ⟨_, _, rfl, hbel.size, wcells_size _, hR⟩)
    · intro A W hsz hoth hbel hX hdep
      refine kAllocL _ _ rfl rfl zero_Wide ?_
      intro r hR hl hBc
      exact (symAN hbel hX hsz rfl rfl (show 13 < 57 by decide) hl hBc ⟨_, _, rfl, hbel.size, wcells_size _, hR⟩)
    · intro A W hsz hoth hbel hX hdep
      obtain ⟨g, cs, d8, hg, hcs, hR⟩ : ∃ g cs, A.tmps.getD 12 undef = .pointer (some ⟨g, 0, none⟩) ∧ w4.heap.size ≤ g ∧ cs.size = 4 ∧ Row W g 24 cs := (by have h := hdep ⟨7, .data⟩ (by simp) rfl; exact h)
      refine kStoreRow _ _ _ _ _ _ (wcells f) rfl rfl d8 (by have h := hdep ⟨5, .data⟩ (by simp) rfl; exact h) hR (info_WideC _) (by rw [wcells_size, hcs]) (wcells_one _) ?_
      intro r hR2 hW
      exact symWN (s := 12) hbel hX rfl rfl rfl d8 hR hW hg hR2 (by simp [OnlyAt, srcOf, dstOf, wcells_size]) ⟨g, d8, hg, hR2⟩
    · intro A W hsz hoth hbel hX hdep
      obtain ⟨g, cs, d8, hg, hcs, hR⟩ : ∃ g cs, A.tmps.getD 13 undef = .pointer (some ⟨g, 0, none⟩) ∧ w4.heap.size ≤ g ∧ cs.size = 4 ∧ Row W g 24 cs := (by have h := hdep ⟨8, .data⟩ (by simp) rfl; exact h)
      refine kStoreRow _ _ _ _ _ _ (wcells z) rfl rfl d8 (by have h := hdep ⟨6, .data⟩ (by simp) rfl; exact h) hR (info_WideC _) (by rw [wcells_size, hcs]) (wcells_one _) ?_
      intro r hR2 hW
      exact symWN (s := 13) hbel hX rfl rfl rfl d8 hR hW hg hR2 (by simp [OnlyAt, srcOf, dstOf, wcells_size]) ⟨g, d8, hg, hR2⟩
    intro w5 hB5
    dsimp only [AllV]
    intro g5_12 hg5_12 hR5_12
    intro g5_13 hg5_13 hR5_13
    intro hap
    dsimp only [putAll]
    go_frame
    have hM5 := hM4.on hB5
    replace hM5 := hM5.cons hR5_12 (Nat.le_trans hM4.size hg5_12) (fun p hp => by have := hM4.lt hp; omega)
    have hne5_13_5_12 : g5_13 ≠ g5_12 := fun e => hap 8 (by simp) 7 (by simp) (by decide) g5_13 rfl (by rw [e]; rfl)
    replace hM5 := hM5.cons hR5_13 (Nat.le_trans hM4.size hg5_13) (List.forall_mem_cons.2 ⟨hne5_13_5_12, fun p hp => by have := hM4.lt hp; omega⟩)
    clear hB5 hM4 hg5_12 hR5_12 hg5_13 hR5_13 hap
    go_wp2_with fail
    refine region_tree (.q 1 (.two 0 (.one 2 (.one 3 (.q 4 (.q 5 (.q 6 (.one 7 .fin)))))) 2 (.one 0 (.one 3 (.q 4 (.q 5 (.q 6 (.one 7 .fin)))))))) (fun _ => True) (by kernel_rfl) (by kernel_rfl) ?_
    intro zt4 hBd hsd
    clear hsd
    have hM6 := hM5.on hBd
    clear hBd hM5
    have hS : (fun _ : World => True) zt4 := trivial
    refine tY (.int .u64 ((k : Int))) hS rfl (yMove _ (.int .u64 ((k : Int))) rfl rfl rfl) ?_; go_frame
    refine tTwoLC (.agg (wcells f)) (.agg (wcells k)) (fun zW => Mm w zW [(g5_13, 24, wcells z), (g5_12, 24, wcells f), (g4_11, 24, wcells h), (g4_10, 24, wcells a), (g3_9, 24, wcells l), (g3_8, 24, wcells q), (w1.heap.size, 24, wcells 0), (w.heap.size, 24, wcells t)]) hM6 rfl rfl rfl rfl (by decide) (fun zW hz => yLoadW _ _ _ (fun _ e => by cases e; exact hz.get 1 rfl) rfl rfl rfl) (fun zW hz => yLoadW _ _ _ (fun _ e => by cases e; exact hz.get 1 rfl) rfl rfl rfl) (fun zW hz R K => by refine kCall1 29 _ _ _ rfl rfl (by kernel_rfl) rfl ?_; refine (wOf_any k f19.out _).mono ?_; rintro e z' ⟨rfl, hB⟩; exact ⟨_, rfl, K z' (hz.on hB)⟩) (fun zW hz R K => by refine kCall1 29 _ _ _ rfl rfl (by kernel_rfl) rfl ?_; refine (wOf_any k f19.out _).mono ?_; rintro e z' ⟨rfl, hB⟩; exact ⟨_, rfl, K z' (hz.on hB)⟩) ?_
    intro zu4 hM7; clear hM6 hS; go_frame
    have hS : (fun _ : World => True) zu4 := trivial
    refine tOne rfl ?_
    refine kCall2 40 _ _ _ _ _ rfl rfl (by kernel_rfl) rfl rfl ?_
    refine (wDiv_k fM kM f41.out _).mono ?_
    rintro e zc4_3 ⟨rfl, hB⟩
    have hM8 := hM7.on hB
    clear hB hM7 hS
    have hS : (fun _ : World => True) zc4_3 := trivial
    refine ⟨_, rfl, mixOn ⟨_, (fun _ h => h), hS, ?_⟩⟩
    go_frame
    refine tY (.tuple #[.agg (wcells f2), .agg (wcells fx)]) hS rfl (yMove _ (.tuple #[.agg (wcells f2), .agg (wcells fx)]) rfl rfl rfl) ?_; go_frame
    refine tY (.agg (wcells f2)) hS rfl (yExtr _ 0 _ (.agg (wcells f2)) rfl rfl rfl rfl) ?_; go_frame
    refine tY (.agg (wcells fx)) hS rfl (yExtr _ 1 _ (.agg (wcells fx)) rfl rfl rfl rfl) ?_; go_frame
    refine tOne rfl ?_
    refine mmStoreAt hM8 1 _ _ _ _ _ _ (wcells f2) rfl rfl rfl rfl rfl (info_WideC _) (by simp only [wcells_size]) (wcells_one _) ?_
    intro zs4 hM9; dsimp only [List.set] at hM9; clear hM8 hS
    have hS : (fun _ : World => True) zs4 := trivial
    refine mixOn ⟨_, (fun _ h => h), hS, ?_⟩
    go_frame
    refine tDone ?_
    clear hS
    go_wp2_with (first
      | ((with_reducible change wpList _ _ _ (Oper.mk (some 45) _ _ _ _ _ :: _) _ _); refine kLoadRow _ _ _ _ _ _ rfl rfl rfl (hM9.get 3 rfl) Try.underlying24 rfl (info_WideC _) ?_; go_frame)
      | ((with_reducible change wpList _ _ _ (Oper.mk (some 46) _ _ _ _ _ :: _) _ _); refine kLoadRow _ _ _ _ _ _ rfl rfl rfl (hM9.get 1 rfl) Try.underlying24 rfl (info_WideC _) ?_; go_frame)
      | (go_at_call 39; (with_reducible change Calls _ _ #[Value.agg (wcells a), Value.agg (wcells f2)] _ _); refine (wAdd_k aM f2M f47.out _).mono ?_; rintro e w10 ⟨rfl, hB10⟩; have hM10 := hM9.on hB10; clear hB10 hM9; (try unfold WV); go_frame)
      | ((with_reducible change wpList _ _ _ (Oper.mk (some 14) _ _ _ _ _ :: _) _ _); refine mmAlloc hM10 _ _ rfl rfl zero_Wide ?_; intro w11 hM11; clear hM10; go_frame)
      | ((with_reducible change wpList _ _ _ (Oper.mk none (Op.store _ (Operand.tmp 14) (Operand.tmp 48)) _ _ _ _ :: _) _ _); refine mmStoreAt hM11 0 _ _ _ _ _ _ (wcells r) rfl rfl rfl rfl rfl (info_WideC _) (by simp only [wcells_size]) (wcells_one _) ?_; intro w12 hM12; dsimp only [List.set] at hM12; clear hM11; go_frame))
    refine region_mixD [(0, true), (1, true), (2, true), (3, true), (4, true), (5, true), (6, true), (7, false), (8, true)] (fun w => Row w (w10.heap.size) 24 (wcells r) ∧ Row w (g4_11) 24 (wcells h)) (by kernel_rfl) (by kernel_rfl) rfl ?_
    intro zm6 hBd hsd
    clear hsd
    have hM13 := hM12.on hBd
    clear hBd hM12
    simp only [List.map_cons, List.map_nil]
    dsimp only [List.filterMap, List.getElem?_cons_zero, List.getElem?_cons_succ]
    have hS : Row zm6 (w10.heap.size) 24 (wcells r) ∧ Row zm6 (g4_11) 24 (wcells h) := ⟨hM13.get 0 rfl, hM13.get 3 rfl⟩
    refine dY _ hS (yLoadW _ _ _ (fun _ h => h.1) rfl rfl rfl) ?_; go_frame
    refine dY _ hS (yMove _ (.bool true) rfl rfl rfl) ?_; go_frame
    refine dY _ hS (yMove _ (.bool true) rfl rfl rfl) ?_; go_frame
    refine dY _ hS (ySkip rfl) ?_; go_frame
    refine dY _ hS (ySkip rfl) ?_; go_frame
    refine dY _ hS (ySkip rfl) ?_; go_frame
    refine dY _ hS (yPick _ _ _ true (.bool true) rfl rfl rfl rfl) ?_; go_frame
    refine dLoud ?_
    refine mmStoreAt hM13 7 _ _ _ _ _ _ (wcells r) rfl rfl rfl rfl rfl (info_WideC _) (by simp only [wcells_size]) (wcells_one _) ?_
    intro zn6 hM14; dsimp only [List.set] at hM14; clear hM13 hS
    have hS : Row zn6 (w10.heap.size) 24 (wcells r) ∧ Row zn6 (g4_11) 24 (wcells h) := ⟨hM14.get 0 rfl, hM14.get 3 rfl⟩
    refine mixOn ⟨_, (fun _ h => h), hS, ?_⟩
    go_frame
    refine dY _ hS (yAssign _ (.bool true) rfl rfl rfl) ?_; go_frame
    refine dDone ?_
    clear hS
    go_wp2_with fail
    exact result_row_tmp Try.results33 rfl rfl (hM14.get 7 rfl) Try.underlying24 rfl (info_WideC _) rfl ⟨rfl, hM14.below⟩
  | false =>
    have hcc : g = c := by rw [← hcc]; rfl
    subst hcc
    have hM0 := mm_nil w
    (try unfold WV)
    go_enter Try.func33, Try.ntmps33
    go_wp2_with (first
      | ((with_reducible change wpList _ _ _ (Oper.mk (some 3) _ _ _ _ _ :: _) _ _); refine mmBox hM0 _ _ (wcells t) rfl rfl rfl ?_; intro w1 hM1; clear hM0; go_frame)
      | ((with_reducible change wpList _ _ _ (Oper.mk (some 6) _ _ _ _ _ :: _) _ _); refine mmAlloc hM1 _ _ rfl rfl zero_Wide ?_; intro w2 hM2; clear hM1; go_frame))
    refine region_symN [7, 8] [8, 9] (by kernel_rfl) (fun i => [0, 0, 0, 0, 0, 0, 0, 0, 0, 7, 8].getD i 0) [.val (.agg (wcells t)), .val (.int .u64 ((k : Int))), .val (.agg (wcells k)), .val (.tuple #[.agg (wcells q), .agg (wcells l)]), .val (.tuple #[.agg (wcells q), .agg (wcells l)]), .val (.agg (wcells q)), .val (.agg (wcells l)), .fresh w2.heap.size 24 4, .fresh w2.heap.size 24 4, .hold w2.heap.size 24 (wcells q), .hold w2.heap.size 24 (wcells l)] [.val (.agg (wcells t)), .val (.int .u64 ((k : Int))), .val (.agg (wcells k)), .val (.tuple #[.agg (wcells q), .agg (wcells l)]), .val (.tuple #[.agg (wcells q), .agg (wcells l)]), .val (.agg (wcells q)), .val (.agg (wcells l)), .hold w2.heap.size 24 (wcells q), .hold w2.heap.size 24 (wcells l), .val undef, .val undef] (by kernel_rfl) (by kernel_rfl) rfl rfl (by intro s hs; simp only [List.mem_cons, List.not_mem_nil, or_false] at hs; rcases hs with rfl | rfl <;> rfl) (steps_all ⟨?_, ?_, ?_, ?_, ?_, ?_, ?_, ?_, ?_, ?_, ?_, trivial⟩) ?_
    · intro A W hsz hoth hbel hX hdep
      exact kLoadRow _ _ _ _ _ _ rfl rfl ((hoth 3 (free2_of (by kernel_rfl))).trans rfl) ((hM2.get 1 rfl).on hbel) Try.underlying24 rfl (info_WideC _) (symVN hbel hX hsz rfl rfl (show 17 < 57 by decide) rfl (Below.refl _ _) rfl)
    · intro A W hsz hoth hbel hX hdep
      exact kMoveV _ _ rfl rfl ((hoth 2 (free2_of (by kernel_rfl))).trans rfl) (symVN hbel hX hsz rfl rfl (show 18 < 57 by decide) rfl (Below.refl _ _) rfl)
    · intro A W hsz hoth hbel hX hdep
      refine kCall1 29 _ _ _ rfl rfl (by kernel_rfl) (by have h := hdep ⟨1, .data⟩ (by simp) rfl; exact h) ?_
      refine (wOf_any k f19.out W).mono ?_
      rintro e r ⟨rfl, hBc⟩
      exact ⟨_, rfl, (symVN hbel hX hsz rfl rfl (show 19 < 57 by decide) rfl hBc rfl)⟩
    · intro A W hsz hoth hbel hX hdep
      refine kCall2 40 _ _ _ _ _ rfl rfl (by kernel_rfl) (by have h := hdep ⟨0, .data⟩ (by simp) rfl; exact h) (by have h := hdep ⟨2, .data⟩ (by simp) rfl; exact h) ?_
      refine (wDiv_k tM kM f20.out W).mono ?_
      rintro e r ⟨rfl, hBc⟩
      exact ⟨_, rfl, (symVN hbel hX hsz rfl rfl (show 20 < 57 by decide) rfl hBc rfl)⟩
    · intro A W hsz hoth hbel hX hdep
      exact kMoveV _ _ rfl rfl (by have h := hdep ⟨3, .data⟩ (by simp) rfl; exact h) (symVN hbel hX hsz rfl rfl (show 16 < 57 by decide) rfl (Below.refl _ _) rfl)
    · intro A W hsz hoth hbel hX hdep
      exact kExtract _ _ _ (.agg (wcells q)) rfl rfl (by have h := hdep ⟨4, .data⟩ (by simp) rfl; exact h) rfl (symVN hbel hX hsz rfl rfl (show 21 < 57 by decide) rfl (Below.refl _ _) rfl)
    · intro A W hsz hoth hbel hX hdep
      exact kExtract _ _ _ (.agg (wcells l)) rfl rfl (by have h := hdep ⟨4, .data⟩ (by simp) rfl; exact h) rfl (symVN hbel hX hsz rfl rfl (show 22 < 57 by decide) rfl (Below.refl _ _) rfl)
    · intro A W hsz hoth hbel hX hdep
      refine kAllocL _ _ rfl rfl zero_Wide ?_
      intro r hR hl hBc
      exact (symAN hbel hX hsz rfl rfl (show 8 < 57 by decide) hl hBc ⟨_, _, rfl, hbel.size, wcells_size _, hR⟩)
    · intro A W hsz hoth hbel hX hdep
      refine kAllocL _ _ rfl rfl zero_Wide ?_
      intro r hR hl hBc
      exact (symAN hbel hX hsz rfl rfl (show 9 < 57 by decide) hl hBc ⟨_, _, rfl, hbel.size, wcells_size _, hR⟩)
    · intro A W hsz hoth hbel hX hdep
      obtain ⟨g, cs, d8, hg, hcs, hR⟩ : ∃ g cs, A.tmps.getD 8 undef = .pointer (some ⟨g, 0, none⟩) ∧ w2.heap.size ≤ g ∧ cs.size = 4 ∧ Row W g 24 cs := (by have h := hdep ⟨7, .data⟩ (by simp) rfl; exact h)
      refine kStoreRow _ _ _ _ _ _ (wcells q) rfl rfl d8 (by have h := hdep ⟨5, .data⟩ (by simp) rfl; exact h) hR (info_WideC _) (by rw [wcells_size, hcs]) (wcells_one _) ?_
      intro r hR2 hW
      exact symWN (s := 8) hbel hX rfl rfl rfl d8 hR hW hg hR2 (by simp [OnlyAt, srcOf, dstOf, wcells_size]) ⟨g, d8, hg, hR2⟩
    · intro A W hsz hoth hbel hX hdep
      obtain ⟨g, cs, d8, hg, hcs, hR⟩ : ∃ g cs, A.tmps.getD 9 undef = .pointer (some ⟨g, 0, none⟩) ∧ w2.heap.size ≤ g ∧ cs.size = 4 ∧ Row W g 24 cs := (by have h := hdep ⟨8, .data⟩ (by simp) rfl; exact h)
      refine kStoreRow _ _ _ _ _ _ (wcells l) rfl rfl d8 (by have h := hdep ⟨6, .data⟩ (by simp) rfl; exact h) hR (info_WideC _) (by rw [wcells_size, hcs]) (wcells_one _) ?_
      intro r hR2 hW
      exact symWN (s := 9) hbel hX rfl rfl rfl d8 hR hW hg hR2 (by simp [OnlyAt, srcOf, dstOf, wcells_size]) ⟨g, d8, hg, hR2⟩
    intro w3 hB3
    dsimp only [AllV]
    intro g3_8 hg3_8 hR3_8
    intro g3_9 hg3_9 hR3_9
    intro hap
    dsimp only [putAll]
    go_frame
    have hM3 := hM2.on hB3
    replace hM3 := hM3.cons hR3_8 (Nat.le_trans hM2.size hg3_8) (fun p hp => by have := hM2.lt hp; omega)
    have hne3_9_3_8 : g3_9 ≠ g3_8 := fun e => hap 8 (by simp) 7 (by simp) (by decide) g3_9 rfl (by rw [e]; rfl)
    replace hM3 := hM3.cons hR3_9 (Nat.le_trans hM2.size hg3_9) (List.forall_mem_cons.2 ⟨hne3_9_3_8, fun p hp => by have := hM2.lt hp; omega⟩)
    clear hB3 hM2 hg3_8 hR3_8 hg3_9 hR3_9 hap
    go_wp2_with fail
    refine region_symN [7, 8] [10, 11] (by kernel_rfl) (fun i => [0, 0, 0, 0, 0, 0, 0, 0, 0, 7, 8].getD i 0) [.val (.agg (wcells q)), .val (.int .u64 ((s : Int))), .val (.agg (wcells s)), .val (.tuple #[.agg (wcells a), .agg (wcells h)]), .val (.tuple #[.agg (wcells a), .agg (wcells h)]), .val (.agg (wcells a)), .val (.agg (wcells h)), .fresh w3.heap.size 24 4, .fresh w3.heap.size 24 4, .hold w3.heap.size 24 (wcells a), .hold w3.heap.size 24 (wcells h)] [.val (.agg (wcells q)), .val (.int .u64 ((s : Int))), .val (.agg (wcells s)), .val (.tuple #[.agg (wcells a), .agg (wcells h)]), .val (.tuple #[.agg (wcells a), .agg (wcells h)]), .val (.agg (wcells a)), .val (.agg (wcells h)), .hold w3.heap.size 24 (wcells a), .hold w3.heap.size 24 (wcells h), .val undef, .val undef] (by kernel_rfl) (by kernel_rfl) rfl rfl (by intro s hs; simp only [List.mem_cons, List.not_mem_nil, or_false] at hs; rcases hs with rfl | rfl <;> rfl) (steps_all ⟨?_, ?_, ?_, ?_, ?_, ?_, ?_, ?_, ?_, ?_, ?_, trivial⟩) ?_
    · intro A W hsz hoth hbel hX hdep
      exact kLoadRow _ _ _ _ _ _ rfl rfl ((hoth 8 (free2_of (by kernel_rfl))).trans rfl) ((hM3.get 1 rfl).on hbel) Try.underlying24 rfl (info_WideC _) (symVN hbel hX hsz rfl rfl (show 24 < 57 by decide) rfl (Below.refl _ _) rfl)
    · intro A W hsz hoth hbel hX hdep
      exact kMoveV _ _ rfl rfl ((hoth 1 (free2_of (by kernel_rfl))).trans rfl) (symVN hbel hX hsz rfl rfl (show 25 < 57 by decide) rfl (Below.refl _ _) rfl)
    · intro A W hsz hoth hbel hX hdep
      refine kCall1 29 _ _ _ rfl rfl (by kernel_rfl) (by have h := hdep ⟨1, .data⟩ (by simp) rfl; exact h) ?_
      refine (wOf_any s f26.out W).mono ?_
      rintro e r ⟨rfl, hBc⟩
      exact ⟨_, rfl, (symVN hbel hX hsz rfl rfl (show 26 < 57 by decide) rfl hBc rfl)⟩
    · intro A W hsz hoth hbel hX hdep
      refine kCall2 51 _ _ _ _ _ rfl rfl (by kernel_rfl) (by have h := hdep ⟨0, .data⟩ (by simp) rfl; exact h) (by have h := hdep ⟨2, .data⟩ (by simp) rfl; exact h) ?_
      refine (wMul_k qM sM f27.out W).mono ?_
      rintro e r ⟨rfl, hBc⟩
      exact ⟨_, rfl, (symVN hbel hX hsz rfl rfl (show 27 < 57 by decide) rfl hBc rfl)⟩
    · intro A W hsz hoth hbel hX hdep
      exact kMoveV _ _ rfl rfl (by have h := hdep ⟨3, .data⟩ (by simp) rfl; exact h) (symVN hbel hX hsz rfl rfl (show 23 < 57 by decide) rfl (Below.refl _ _) rfl)
    · intro A W hsz hoth hbel hX hdep
      exact kExtract _ _ _ (.agg (wcells a)) rfl rfl (by have h := hdep ⟨4, .data⟩ (by simp) rfl; exact h) rfl (symVN hbel hX hsz rfl rfl (show 28 < 57 by decide) rfl (Below.refl _ _) rfl)
    · intro A W hsz hoth hbel hX hdep
      exact kExtract _ _ _ (.agg (wcells h)) rfl rfl (by have h := hdep ⟨4, .data⟩ (by simp) rfl; exact h) rfl (symVN hbel hX hsz rfl rfl (show 29 < 57 by decide) rfl (Below.refl _ _) rfl)
    · intro A W hsz hoth hbel hX hdep
      refine kAllocL _ _ rfl rfl zero_Wide ?_
      intro r hR hl hBc
      exact (symAN hbel hX hsz rfl rfl (show 10 < 57 by decide) hl hBc ⟨_, _, rfl, hbel.size, wcells_size _, hR⟩)
    · intro A W hsz hoth hbel hX hdep
      refine kAllocL _ _ rfl rfl zero_Wide ?_
      intro r hR hl hBc
      exact (symAN hbel hX hsz rfl rfl (show 11 < 57 by decide) hl hBc ⟨_, _, rfl, hbel.size, wcells_size _, hR⟩)
    · intro A W hsz hoth hbel hX hdep
      obtain ⟨g, cs, d8, hg, hcs, hR⟩ : ∃ g cs, A.tmps.getD 10 undef = .pointer (some ⟨g, 0, none⟩) ∧ w3.heap.size ≤ g ∧ cs.size = 4 ∧ Row W g 24 cs := (by have h := hdep ⟨7, .data⟩ (by simp) rfl; exact h)
      refine kStoreRow _ _ _ _ _ _ (wcells a) rfl rfl d8 (by have h := hdep ⟨5, .data⟩ (by simp) rfl; exact h) hR (info_WideC _) (by rw [wcells_size, hcs]) (wcells_one _) ?_
      intro r hR2 hW
      exact symWN (s := 10) hbel hX rfl rfl rfl d8 hR hW hg hR2 (by simp [OnlyAt, srcOf, dstOf, wcells_size]) ⟨g, d8, hg, hR2⟩
    · intro A W hsz hoth hbel hX hdep
      obtain ⟨g, cs, d8, hg, hcs, hR⟩ : ∃ g cs, A.tmps.getD 11 undef = .pointer (some ⟨g, 0, none⟩) ∧ w3.heap.size ≤ g ∧ cs.size = 4 ∧ Row W g 24 cs := (by have h := hdep ⟨8, .data⟩ (by simp) rfl; exact h)
      refine kStoreRow _ _ _ _ _ _ (wcells h) rfl rfl d8 (by have h := hdep ⟨6, .data⟩ (by simp) rfl; exact h) hR (info_WideC _) (by rw [wcells_size, hcs]) (wcells_one _) ?_
      intro r hR2 hW
      exact symWN (s := 11) hbel hX rfl rfl rfl d8 hR hW hg hR2 (by simp [OnlyAt, srcOf, dstOf, wcells_size]) ⟨g, d8, hg, hR2⟩
    intro w4 hB4
    dsimp only [AllV]
    intro g4_10 hg4_10 hR4_10
    intro g4_11 hg4_11 hR4_11
    intro hap
    dsimp only [putAll]
    go_frame
    have hM4 := hM3.on hB4
    replace hM4 := hM4.cons hR4_10 (Nat.le_trans hM3.size hg4_10) (fun p hp => by have := hM3.lt hp; omega)
    have hne4_11_4_10 : g4_11 ≠ g4_10 := fun e => hap 8 (by simp) 7 (by simp) (by decide) g4_11 rfl (by rw [e]; rfl)
    replace hM4 := hM4.cons hR4_11 (Nat.le_trans hM3.size hg4_11) (List.forall_mem_cons.2 ⟨hne4_11_4_10, fun p hp => by have := hM3.lt hp; omega⟩)
    clear hB4 hM3 hg4_10 hR4_10 hg4_11 hR4_11 hap
    go_wp2_with fail
    refine region_symN [7, 8] [12, 13] (by kernel_rfl) (fun i => [0, 0, 0, 0, 0, 0, 0, 0, 0, 7, 8].getD i 0) [.val (.agg (wcells l)), .val (.int .u64 ((s : Int))), .val (.agg (wcells s)), .val (.tuple #[.agg (wcells f), .agg (wcells z)]), .val (.tuple #[.agg (wcells f), .agg (wcells z)]), .val (.agg (wcells f)), .val (.agg (wcells z)), .fresh w4.heap.size 24 4, .fresh w4.heap.size 24 4, .hold w4.heap.size 24 (wcells f), .hold w4.heap.size 24 (wcells z)] [.val (.agg (wcells l)), .val (.int .u64 ((s : Int))), .val (.agg (wcells s)), .val (.tuple #[.agg (wcells f), .agg (wcells z)]), .val (.tuple #[.agg (wcells f), .agg (wcells z)]), .val (.agg (wcells f)), .val (.agg (wcells z)), .hold w4.heap.size 24 (wcells f), .hold w4.heap.size 24 (wcells z), .val undef, .val undef] (by kernel_rfl) (by kernel_rfl) rfl rfl (by intro s hs; simp only [List.mem_cons, List.not_mem_nil, or_false] at hs; rcases hs with rfl | rfl <;> rfl) (steps_all ⟨?_, ?_, ?_, ?_, ?_, ?_, ?_, ?_, ?_, ?_, ?_, trivial⟩) ?_
    · intro A W hsz hoth hbel hX hdep
      exact kLoadRow _ _ _ _ _ _ rfl rfl ((hoth 9 (free2_of (by kernel_rfl))).trans rfl) ((hM4.get 2 rfl).on hbel) Try.underlying24 rfl (info_WideC _) (symVN hbel hX hsz rfl rfl (show 31 < 57 by decide) rfl (Below.refl _ _) rfl)
    · intro A W hsz hoth hbel hX hdep
      exact kMoveV _ _ rfl rfl ((hoth 1 (free2_of (by kernel_rfl))).trans rfl) (symVN hbel hX hsz rfl rfl (show 32 < 57 by decide) rfl (Below.refl _ _) rfl)
    · intro A W hsz hoth hbel hX hdep
      refine kCall1 29 _ _ _ rfl rfl (by kernel_rfl) (by have h := hdep ⟨1, .data⟩ (by simp) rfl; exact h) ?_
      refine (wOf_any s f26.out W).mono ?_
      rintro e r ⟨rfl, hBc⟩
      exact ⟨_, rfl, (symVN hbel hX hsz rfl rfl (show 33 < 57 by decide) rfl hBc rfl)⟩
    · intro A W hsz hoth hbel hX hdep
      refine kCall2 51 _ _ _ _ _ rfl rfl (by kernel_rfl) (by have h := hdep ⟨0, .data⟩ (by simp) rfl; exact h) (by have h := hdep ⟨2, .data⟩ (by simp) rfl; exact h) ?_
      refine (wMul_k lM sM f34.out W).mono ?_
      rintro e r ⟨rfl, hBc⟩
      exact ⟨_, rfl, (symVN hbel hX hsz rfl rfl (show 34 < 57 by decide) rfl hBc rfl)⟩
    · intro A W hsz hoth hbel hX hdep
      exact kMoveV _ _ rfl rfl (by have h := hdep ⟨3, .data⟩ (by simp) rfl; exact h) (symVN hbel hX hsz rfl rfl (show 30 < 57 by decide) rfl (Below.refl _ _) rfl)
    · intro A W hsz hoth hbel hX hdep
      exact kExtract _ _ _ (.agg (wcells f)) rfl rfl (by have h := hdep ⟨4, .data⟩ (by simp) rfl; exact h) rfl (symVN hbel hX hsz rfl rfl (show 35 < 57 by decide) rfl (Below.refl _ _) rfl)
    · intro A W hsz hoth hbel hX hdep
      exact kExtract _ _ _ (.agg (wcells z)) rfl rfl (by have h := hdep ⟨4, .data⟩ (by simp) rfl; exact h) rfl (symVN hbel hX hsz rfl rfl (show 36 < 57 by decide) rfl (Below.refl _ _) rfl)
    · intro A W hsz hoth hbel hX hdep
      refine kAllocL _ _ rfl rfl zero_Wide ?_
      intro r hR hl hBc
      exact (symAN hbel hX hsz rfl rfl (show 12 < 57 by decide) hl hBc ⟨_, _, rfl, hbel.size, wcells_size _, hR⟩)
    · intro A W hsz hoth hbel hX hdep
      refine kAllocL _ _ rfl rfl zero_Wide ?_
      intro r hR hl hBc
      exact (symAN hbel hX hsz rfl rfl (show 13 < 57 by decide) hl hBc ⟨_, _, rfl, hbel.size, wcells_size _, hR⟩)
    · intro A W hsz hoth hbel hX hdep
      obtain ⟨g, cs, d8, hg, hcs, hR⟩ : ∃ g cs, A.tmps.getD 12 undef = .pointer (some ⟨g, 0, none⟩) ∧ w4.heap.size ≤ g ∧ cs.size = 4 ∧ Row W g 24 cs := (by have h := hdep ⟨7, .data⟩ (by simp) rfl; exact h)
      refine kStoreRow _ _ _ _ _ _ (wcells f) rfl rfl d8 (by have h := hdep ⟨5, .data⟩ (by simp) rfl; exact h) hR (info_WideC _) (by rw [wcells_size, hcs]) (wcells_one _) ?_
      intro r hR2 hW
      exact symWN (s := 12) hbel hX rfl rfl rfl d8 hR hW hg hR2 (by simp [OnlyAt, srcOf, dstOf, wcells_size]) ⟨g, d8, hg, hR2⟩
    · intro A W hsz hoth hbel hX hdep
      obtain ⟨g, cs, d8, hg, hcs, hR⟩ : ∃ g cs, A.tmps.getD 13 undef = .pointer (some ⟨g, 0, none⟩) ∧ w4.heap.size ≤ g ∧ cs.size = 4 ∧ Row W g 24 cs := (by have h := hdep ⟨8, .data⟩ (by simp) rfl; exact h)
      refine kStoreRow _ _ _ _ _ _ (wcells z) rfl rfl d8 (by have h := hdep ⟨6, .data⟩ (by simp) rfl; exact h) hR (info_WideC _) (by rw [wcells_size, hcs]) (wcells_one _) ?_
      intro r hR2 hW
      exact symWN (s := 13) hbel hX rfl rfl rfl d8 hR hW hg hR2 (by simp [OnlyAt, srcOf, dstOf, wcells_size]) ⟨g, d8, hg, hR2⟩
    intro w5 hB5
    dsimp only [AllV]
    intro g5_12 hg5_12 hR5_12
    intro g5_13 hg5_13 hR5_13
    intro hap
    dsimp only [putAll]
    go_frame
    have hM5 := hM4.on hB5
    replace hM5 := hM5.cons hR5_12 (Nat.le_trans hM4.size hg5_12) (fun p hp => by have := hM4.lt hp; omega)
    have hne5_13_5_12 : g5_13 ≠ g5_12 := fun e => hap 8 (by simp) 7 (by simp) (by decide) g5_13 rfl (by rw [e]; rfl)
    replace hM5 := hM5.cons hR5_13 (Nat.le_trans hM4.size hg5_13) (List.forall_mem_cons.2 ⟨hne5_13_5_12, fun p hp => by have := hM4.lt hp; omega⟩)
    clear hB5 hM4 hg5_12 hR5_12 hg5_13 hR5_13 hap
    go_wp2_with fail
    refine region_tree (.q 1 (.two 0 (.one 2 (.one 3 (.q 4 (.q 5 (.q 6 (.one 7 .fin)))))) 2 (.one 0 (.one 3 (.q 4 (.q 5 (.q 6 (.one 7 .fin)))))))) (fun _ => True) (by kernel_rfl) (by kernel_rfl) ?_
    intro zt4 hBd hsd
    clear hsd
    have hM6 := hM5.on hBd
    clear hBd hM5
    have hS : (fun _ : World => True) zt4 := trivial
    refine tY (.int .u64 ((k : Int))) hS rfl (yMove _ (.int .u64 ((k : Int))) rfl rfl rfl) ?_; go_frame
    refine tTwoLC (.agg (wcells f)) (.agg (wcells k)) (fun zW => Mm w zW [(g5_13, 24, wcells z), (g5_12, 24, wcells f), (g4_11, 24, wcells h), (g4_10, 24, wcells a), (g3_9, 24, wcells l), (g3_8, 24, wcells q), (w1.heap.size, 24, wcells 0), (w.heap.size, 24, wcells t)]) hM6 rfl rfl rfl rfl (by decide) (fun zW hz => yLoadW _ _ _ (fun _ e => by cases e; exact hz.get 1 rfl) rfl rfl rfl) (fun zW hz => yLoadW _ _ _ (fun _ e => by cases e; exact hz.get 1 rfl) rfl rfl rfl) (fun zW hz R K => by refine kCall1 29 _ _ _ rfl rfl (by kernel_rfl) rfl ?_; refine (wOf_any k f19.out _).mono ?_; rintro e z' ⟨rfl, hB⟩; exact ⟨_, rfl, K z' (hz.on hB)⟩) (fun zW hz R K => by refine kCall1 29 _ _ _ rfl rfl (by kernel_rfl) rfl ?_; refine (wOf_any k f19.out _).mono ?_; rintro e z' ⟨rfl, hB⟩; exact ⟨_, rfl, K z' (hz.on hB)⟩) ?_
    intro zu4 hM7; clear hM6 hS; go_frame
    have hS : (fun _ : World => True) zu4 := trivial
    refine tOne rfl ?_
    refine kCall2 40 _ _ _ _ _ rfl rfl (by kernel_rfl) rfl rfl ?_
    refine (wDiv_k fM kM f41.out _).mono ?_
    rintro e zc4_3 ⟨rfl, hB⟩
    have hM8 := hM7.on hB
    clear hB hM7 hS
    have hS : (fun _ : World => True) zc4_3 := trivial
    refine ⟨_, rfl, mixOn ⟨_, (fun _ h => h), hS, ?_⟩⟩
    go_frame
    refine tY (.tuple #[.agg (wcells f2), .agg (wcells fx)]) hS rfl (yMove _ (.tuple #[.agg (wcells f2), .agg (wcells fx)]) rfl rfl rfl) ?_; go_frame
    refine tY (.agg (wcells f2)) hS rfl (yExtr _ 0 _ (.agg (wcells f2)) rfl rfl rfl rfl) ?_; go_frame
    refine tY (.agg (wcells fx)) hS rfl (yExtr _ 1 _ (.agg (wcells fx)) rfl rfl rfl rfl) ?_; go_frame
    refine tOne rfl ?_
    refine mmStoreAt hM8 1 _ _ _ _ _ _ (wcells f2) rfl rfl rfl rfl rfl (info_WideC _) (by simp only [wcells_size]) (wcells_one _) ?_
    intro zs4 hM9; dsimp only [List.set] at hM9; clear hM8 hS
    have hS : (fun _ : World => True) zs4 := trivial
    refine mixOn ⟨_, (fun _ h => h), hS, ?_⟩
    go_frame
    refine tDone ?_
    clear hS
    go_wp2_with (first
      | ((with_reducible change wpList _ _ _ (Oper.mk (some 45) _ _ _ _ _ :: _) _ _); refine kLoadRow _ _ _ _ _ _ rfl rfl rfl (hM9.get 3 rfl) Try.underlying24 rfl (info_WideC _) ?_; go_frame)
      | ((with_reducible change wpList _ _ _ (Oper.mk (some 46) _ _ _ _ _ :: _) _ _); refine kLoadRow _ _ _ _ _ _ rfl rfl rfl (hM9.get 1 rfl) Try.underlying24 rfl (info_WideC _) ?_; go_frame)
      | (go_at_call 39; (with_reducible change Calls _ _ #[Value.agg (wcells a), Value.agg (wcells f2)] _ _); refine (wAdd_k aM f2M f47.out _).mono ?_; rintro e w10 ⟨rfl, hB10⟩; have hM10 := hM9.on hB10; clear hB10 hM9; (try unfold WV); go_frame)
      | ((with_reducible change wpList _ _ _ (Oper.mk (some 14) _ _ _ _ _ :: _) _ _); refine mmAlloc hM10 _ _ rfl rfl zero_Wide ?_; intro w11 hM11; clear hM10; go_frame)
      | ((with_reducible change wpList _ _ _ (Oper.mk none (Op.store _ (Operand.tmp 14) (Operand.tmp 48)) _ _ _ _ :: _) _ _); refine mmStoreAt hM11 0 _ _ _ _ _ _ (wcells r) rfl rfl rfl rfl rfl (info_WideC _) (by simp only [wcells_size]) (wcells_one _) ?_; intro w12 hM12; dsimp only [List.set] at hM12; clear hM11; go_frame))
    refine region_mixD [(0, true), (1, true), (2, true), (3, true), (4, true), (5, true), (6, true), (7, false), (8, true)] (fun w => Row w (w10.heap.size) 24 (wcells r) ∧ Row w (g4_11) 24 (wcells h)) (by kernel_rfl) (by kernel_rfl) rfl ?_
    intro zm6 hBd hsd
    clear hsd
    have hM13 := hM12.on hBd
    clear hBd hM12
    simp only [List.map_cons, List.map_nil]
    dsimp only [List.filterMap, List.getElem?_cons_zero, List.getElem?_cons_succ]
    have hS : Row zm6 (w10.heap.size) 24 (wcells r) ∧ Row zm6 (g4_11) 24 (wcells h) := ⟨hM13.get 0 rfl, hM13.get 3 rfl⟩
    refine dY _ hS (yLoadW _ _ _ (fun _ h => h.1) rfl rfl rfl) ?_; go_frame
    refine dY _ hS (yMove _ (.bool false) rfl rfl rfl) ?_; go_frame
    refine dY _ hS (yMove _ (.bool false) rfl rfl rfl) ?_; go_frame
    refine dY _ hS (yLoadW _ _ _ (fun _ h => h.2) rfl rfl rfl) ?_; go_frame
    refine dY _ hS (yBuildW0 rfl rfl) ?_; go_frame
    refine dY _ hS (yNeqW _ _ _ h 0 g Hg.out rfl rfl rfl rfl) ?_; go_frame
    refine dY _ hS (yPick _ _ _ false (.bool g) rfl rfl rfl rfl) ?_; go_frame
    refine dLoud ?_
    refine mmStoreAt hM13 7 _ _ _ _ _ _ (wcells r) rfl rfl rfl rfl rfl (info_WideC _) (by simp only [wcells_size]) (wcells_one _) ?_
    intro zn6 hM14; dsimp only [List.set] at hM14; clear hM13 hS
    have hS : Row zn6 (w10.heap.size) 24 (wcells r) ∧ Row zn6 (g4_11) 24 (wcells h) := ⟨hM14.get 0 rfl, hM14.get 3 rfl⟩
    refine mixOn ⟨_, (fun _ h => h), hS, ?_⟩
    go_frame
    refine dY _ hS (yAssign _ (.bool g) rfl rfl rfl) ?_; go_frame
    refine dDone ?_
    clear hS
    go_wp2_with fail
    exact result_row_tmp Try.results33 rfl rfl (hM14.get 7 rfl) Try.underlying24 rfl (info_WideC _) rfl ⟨rfl, hM14.below⟩
set_option maxRecDepth 100000 in
set_option maxHeartbeats 8000000 in
theorem kNext_as {b f l r : Nat} (hb : b < 4294967296) (hf : f < 4294967296) (hl : l < 4294967296) (hr : nextN b f l = r) (w : World) : Calls Try.prog 14 #[.int .u32 (b : Int), .int .u32 (f : Int), .int .u32 (l : Int)] w fun e w' => e = .returned (.int .u32 (r : Int)) ∧ Below w.heap.size w w' := by
  by_cases h : badN b
  · have hr : r = 545259519 := by rw [← hr]; exact next_bad f l h
    subst hr
    have hM0 := mm_nil w
    (try unfold WV)
    go_enter Try.func14, Try.ntmps14
    go_wp2_with (first
      | (go_at_call 9; (with_reducible change Calls _ _ #[Value.int .u32 ((b : Int))] _ _); refine (kExpand_bad hb h _).mono ?_; rintro e w1 ⟨rfl, hB1⟩; have hM1 := hM0.on hB1; clear hB1 hM0; (try unfold WV); go_frame)
      | ((with_reducible change wpList _ _ _ (Oper.mk (some 7) _ _ _ _ _ :: _) _ _); refine mmAlloc hM1 _ _ rfl rfl zero_Wide ?_; intro w2 hM2; clear hM1; go_frame)
      | ((with_reducible change wpList _ _ _ (Oper.mk none (Op.store _ (Operand.tmp 7) (Operand.tmp 14)) _ _ _ _ :: _) _ _); refine mmStoreAt hM2 0 _ _ _ _ _ _ (wcells 0) rfl rfl rfl rfl rfl (info_WideC _) (by simp only [wcells_size]) (wcells_one _) ?_; intro w3 hM3; dsimp only [List.set] at hM3; clear hM2; go_frame)
      | ((with_reducible change wpList _ _ _ (Oper.mk (some 17) _ _ _ _ _ :: _) _ _); refine kYw (yNeqK _ _ _ _ .i64 121 0 true rfl rfl rfl rfl rfl) ?_; go_frame))
    go_ret
    exact ⟨rfl, hM3.below⟩
  · obtain ⟨h1, h2, htl⟩ := not_bad h
    obtain ⟨t, Ht⟩ : ∃ v_ : Nat, Hid (rawN b = v_) := ⟨_, Lib.hid rfl⟩
    obtain ⟨s, Hs⟩ : ∃ v_ : Nat, Hid (spanN f l = v_) := ⟨_, Lib.hid rfl⟩
    obtain ⟨E, HE⟩ : ∃ v_ : Nat, Hid (easyN = v_) := ⟨_, Lib.hid rfl⟩
    have hsl : s ≤ 16800 := by rw [← Hs.out]; exact (span_le f l).2
    have hE : E < M256 := by rw [← HE.out]; exact easy_lt
    rw [Ht.out] at htl h2
    obtain ⟨y, Hy⟩ : ∃ v_ : Nat, Hid (t * s / 4200 = v_) := ⟨_, Lib.hid rfl⟩
    obtain ⟨x, Hx⟩ : ∃ v_ : Nat, Hid (y % M256 = v_) := ⟨_, Lib.hid rfl⟩
    have hxM : x < M256 := by rw [← Hx.out]; exact Nat.mod_lt _ M256_pos
    by_cases ho : easyN < y
    · have hr : Hid (r = 545259519) := Lib.hid (by rw [← hr]; exact next_ge (by rw [Ht.out, Hs.out, Hy.out]; exact ho) h)
      replace h := Lib.hid h
      by_cases hm : M256 ≤ y
      · have f23 : Hid (decide (M256 ≤ t * s / 4200) = true) := Lib.hid (by rw [Hy.out]; simpa using hm)
        replace Hx : Hid (t * s / 4200 % M256 = x) := Lib.hid (by rw [Hy.out]; exact Hx.out)
        clear h1 h2 ho hm Hy HE
        have hM0 := mm_nil w
        (try unfold WV)
        go_enter Try.func14, Try.ntmps14
        go_wp2_with (first
          | (go_at_call 9; (with_reducible change Calls _ _ #[Value.int .u32 ((b : Int))] _ _); refine (kExpand_ok hb h.out Ht.out _).mono ?_; rintro e w1 ⟨rfl, hB1⟩; have hM1 := hM0.on hB1; clear hB1 hM0; (try unfold WV); go_frame)
          | ((with_reducible change wpList _ _ _ (Oper.mk (some 7) _ _ _ _ _ :: _) _ _); refine mmAlloc hM1 _ _ rfl rfl zero_Wide ?_; intro w2 hM2; clear hM1; go_frame)
          | ((with_reducible change wpList _ _ _ (Oper.mk none (Op.store _ (Operand.tmp 7) (Operand.tmp 14)) _ _ _ _ :: _) _ _); refine mmStoreAt hM2 0 _ _ _ _ _ _ (wcells t) rfl rfl rfl rfl rfl (info_WideC _) (by simp only [wcells_size]) (wcells_one _) ?_; intro w3 hM3; dsimp only [List.set] at hM3; clear hM2; go_frame)
          | ((with_reducible change wpList _ _ _ (Oper.mk (some 17) _ _ _ _ _ :: _) _ _); refine kYw (yNeqK _ _ _ _ .i64 0 0 false rfl rfl rfl rfl rfl) ?_; go_frame))
        refine region_sym (fun _ => 8) [.val (.agg (wcells t)), .val (.int .u32 ((f : Int))), .val (.int .u32 ((l : Int))), .val (.int .u64 ((s : Int))), .val (.tuple #[.agg (wcells x), .bool true]), .val (.tuple #[.agg (wcells x), .bool true]), .val (.agg (wcells x)), .val (.bool true), .fresh w3.heap.size 24 4, .hold w3.heap.size 24 (wcells x), .val (.bool true)] [.val (.agg (wcells t)), .val (.int .u32 ((f : Int))), .val (.int .u32 ((l : Int))), .val (.int .u64 ((s : Int))), .val (.tuple #[.agg (wcells x), .bool true]), .val (.tuple #[.agg (wcells x), .bool true]), .val (.agg (wcells x)), .val (.bool true), .hold w3.heap.size 24 (wcells x), .val undef, .val (.bool true)] (by kernel_rfl) (by kernel_rfl) rfl rfl (steps_all ⟨?_, ?_, ?_, ?_, ?_, ?_, ?_, ?_, ?_, ?_, ?_, trivial⟩) ?_
        · intro A W hsz hoth hbel hdep
          exact kLoadRow _ _ _ _ _ _ rfl rfl ((hoth 7 (free2_of (by kernel_rfl))).trans rfl) ((hM3.get 0 rfl).on hbel) Try.underlying24 rfl (info_WideC _) (symV hbel hsz rfl rfl (show 19 < 34 by decide) (Below.refl _ _) rfl)
        · intro A W hsz hoth hbel hdep
          exact kMoveV _ _ rfl rfl ((hoth 1 (free2_of (by kernel_rfl))).trans rfl) (symV hbel hsz rfl rfl (show 20 < 34 by decide) (Below.refl _ _) rfl)
        · intro A W hsz hoth hbel hdep
          exact kMoveV _ _ rfl rfl ((hoth 2 (free2_of (by kernel_rfl))).trans rfl) (symV hbel hsz rfl rfl (show 21 < 34 by decide) (Below.refl _ _) rfl)
        · intro A W hsz hoth hbel hdep
          refine kCall2 34 _ _ _ _ _ rfl rfl (by kernel_rfl) (by have h := hdep ⟨1, .data⟩ (by simp) rfl; exact h) (by have h := hdep ⟨2, .data⟩ (by simp) rfl; exact h) ?_
          refine (kTook_as hf hl Hs.out W).mono ?_
          rintro e r ⟨rfl, hBc⟩
          exact ⟨_, rfl, (symV hbel hsz rfl rfl (show 22 < 34 by decide) hBc rfl)⟩
        · intro A W hsz hoth hbel hdep
          refine kCall3 33 _ _ _ _ _ _ _ rfl rfl (by kernel_rfl) (by have h := hdep ⟨0, .data⟩ (by simp) rfl; exact h) (by have h := hdep ⟨3, .data⟩ (by simp) rfl; exact h) rfl ?_
          refine (kScaled_as (k := 4200) rfl rfl htl hsl Hx.out f23.out W).mono ?_
          rintro e r ⟨rfl, hBc⟩
          exact ⟨_, rfl, (symV hbel hsz rfl rfl (show 23 < 34 by decide) hBc rfl)⟩
        · intro A W hsz hoth hbel hdep
          exact kMoveV _ _ rfl rfl (by have h := hdep ⟨4, .data⟩ (by simp) rfl; exact h) (symV hbel hsz rfl rfl (show 18 < 34 by decide) (Below.refl _ _) rfl)
        · intro A W hsz hoth hbel hdep
          exact kExtract _ _ _ (.agg (wcells x)) rfl rfl (by have h := hdep ⟨5, .data⟩ (by simp) rfl; exact h) rfl (symV hbel hsz rfl rfl (show 24 < 34 by decide) (Below.refl _ _) rfl)
        · intro A W hsz hoth hbel hdep
          exact kExtract _ _ _ (.bool true) rfl rfl (by have h := hdep ⟨5, .data⟩ (by simp) rfl; exact h) rfl (symV hbel hsz rfl rfl (show 25 < 34 by decide) (Below.refl _ _) rfl)
        · intro A W hsz hoth hbel hdep
          refine kAllocL _ _ rfl rfl zero_Wide ?_
          intro r hR hl hBc
          exact (symV hbel hsz rfl rfl (show 9 < 34 by decide) hBc ⟨_, _, rfl, hbel.size, wcells_size _, hR⟩)
        · intro A W hsz hoth hbel hdep
          obtain ⟨g, cs, d8, hg, hcs, hR⟩ : ∃ g cs, A.tmps.getD 9 undef = .pointer (some ⟨g, 0, none⟩) ∧ w3.heap.size ≤ g ∧ cs.size = 4 ∧ Row W g 24 cs := (by have h := hdep ⟨8, .data⟩ (by simp) rfl; exact h)
          refine kStoreRow _ _ _ _ _ _ (wcells x) rfl rfl d8 (by have h := hdep ⟨6, .data⟩ (by simp) rfl; exact h) hR (info_WideC _) (by rw [wcells_size, hcs]) (wcells_one _) ?_
          intro r hR2 hW
          exact symW hbel rfl hW hg hR2 (by simp only [Singles, and_self, wcells_size]) ⟨g, d8, hg, hR2⟩
        · intro A W hsz hoth hbel hdep
          exact kAssignV _ _ rfl rfl (by have h := hdep ⟨7, .data⟩ (by simp) rfl; exact h) (symV hbel hsz rfl rfl (show 10 < 34 by decide) (Below.refl _ _) rfl)
        intro w4 hB4
        dsimp only [AllV]
        intro g4_9 hg4_9 hR4_9
        dsimp only [putAll]
        go_frame
        have hM4 := hM3.on hB4
        replace hM4 := hM4.cons hR4_9 (Nat.le_trans hM3.size hg4_9) (fun p hp => by have := hM3.lt hp; omega)
        clear hB4 hM3 hg4_9 hR4_9
        go_wp2_with fail
        refine region_symT 6 _ [] [] [.val (.bool true), .val (.bool true), .val (undef), .val (undef), .val (undef), .val (.bool true)] rfl (by kernel_rfl) (by kernel_rfl) (by kernel_rfl) (by kernel_rfl) rfl (by intro s hs; cases hs) (steps_all ⟨?_, ?_, ?_, ?_, ?_, ?_, trivial⟩) ?_
        · exact fun A W sz ot hbel ap dp => kMoveV _ _ rfl rfl (sO ot 10) (sE ap sz rfl)
        · exact fun A W sz ot hbel ap dp => kMoveV _ _ rfl rfl (sD dp 0 .data) (sE ap sz rfl)
        · exact fun A W sz ot hbel ap dp => wpList_skip (unwanted_of rfl rfl (sD dp 1 .chain) (.inl rfl)) (sE ap sz rfl)
        · exact fun A W sz ot hbel ap dp => wpList_skip (unwanted_of rfl rfl (sD dp 1 .guard) (.inl rfl)) (sE ap sz rfl)
        · exact fun A W sz ot hbel ap dp => wpList_skip (unwanted_of rfl rfl (sD dp 1 .guard) (.inl rfl)) (sE ap sz rfl)
        · exact fun A W sz ot hbel ap dp => kPick _ _ _ true (.bool true) rfl rfl (sD dp 1 .data) rfl (sE ap sz rfl)
        intro w5 hB5
        dsimp only [AllV]
        intro hap
        dsimp only [putAll, List.take, List.drop]
        go_frame
        have hM5 := hM4.on hB5
        clear hB5 hM4 hap
        go_wp2_with fail
        go_ret
        exact ⟨by rw [hr.out]; rfl, hM5.below⟩
      · have f23 : Hid (decide (M256 ≤ t * s / 4200) = false) := Lib.hid (by rw [Hy.out]; simpa using hm)
        have f30 : Hid (decide (E < x) = true) := Lib.hid (by rw [← HE.out, ← Hx.out, Nat.mod_eq_of_lt (by omega)]; simpa using ho)
        replace Hx : Hid (t * s / 4200 % M256 = x) := Lib.hid (by rw [Hy.out]; exact Hx.out)
        clear h1 h2 ho hm Hy
        have hM0 := mm_nil w
        (try unfold WV)
        go_enter Try.func14, Try.ntmps14
        go_wp2_with (first
          | (go_at_call 9; (with_reducible change Calls _ _ #[Value.int .u32 ((b : Int))] _ _); refine (kExpand_ok hb h.out Ht.out _).mono ?_; rintro e w1 ⟨rfl, hB1⟩; have hM1 := hM0.on hB1; clear hB1 hM0; (try unfold WV); go_frame)
          | ((with_reducible change wpList _ _ _ (Oper.mk (some 7) _ _ _ _ _ :: _) _ _); refine mmAlloc hM1 _ _ rfl rfl zero_Wide ?_; intro w2 hM2; clear hM1; go_frame)
          | ((with_reducible change wpList _ _ _ (Oper.mk none (Op.store _ (Operand.tmp 7) (Operand.tmp 14)) _ _ _ _ :: _) _ _); refine mmStoreAt hM2 0 _ _ _ _ _ _ (wcells t) rfl rfl rfl rfl rfl (info_WideC _) (by simp only [wcells_size]) (wcells_one _) ?_; intro w3 hM3; dsimp only [List.set] at hM3; clear hM2; go_frame)
          | ((with_reducible change wpList _ _ _ (Oper.mk (some 17) _ _ _ _ _ :: _) _ _); refine kYw (yNeqK _ _ _ _ .i64 0 0 false rfl rfl rfl rfl rfl) ?_; go_frame))
        refine region_sym (fun _ => 8) [.val (.agg (wcells t)), .val (.int .u32 ((f : Int))), .val (.int .u32 ((l : Int))), .val (.int .u64 ((s : Int))), .val (.tuple #[.agg (wcells x), .bool false]), .val (.tuple #[.agg (wcells x), .bool false]), .val (.agg (wcells x)), .val (.bool false), .fresh w3.heap.size 24 4, .hold w3.heap.size 24 (wcells x), .val (.bool false)] [.val (.agg (wcells t)), .val (.int .u32 ((f : Int))), .val (.int .u32 ((l : Int))), .val (.int .u64 ((s : Int))), .val (.tuple #[.agg (wcells x), .bool false]), .val (.tuple #[.agg (wcells x), .bool false]), .val (.agg (wcells x)), .val (.bool false), .hold w3.heap.size 24 (wcells x), .val undef, .val (.bool false)] (by kernel_rfl) (by kernel_rfl) rfl rfl (steps_all ⟨?_, ?_, ?_, ?_, ?_, ?_, ?_, ?_, ?_, ?_, ?_, trivial⟩) ?_
        · intro A W hsz hoth hbel hdep
          exact kLoadRow _ _ _ _ _ _ rfl rfl ((hoth 7 (free2_of (by kernel_rfl))).trans rfl) ((hM3.get 0 rfl).on hbel) Try.underlying24 rfl (info_WideC _) (symV hbel hsz rfl rfl (show 19 < 34 by decide) (Below.refl _ _) rfl)
        · intro A W hsz hoth hbel hdep
          exact kMoveV _ _ rfl rfl ((hoth 1 (free2_of (by kernel_rfl))).trans rfl) (symV hbel hsz rfl rfl (show 20 < 34 by decide) (Below.refl _ _) rfl)
        · intro A W hsz hoth hbel hdep
          exact kMoveV _ _ rfl rfl ((hoth 2 (free2_of (by kernel_rfl))).trans rfl) (symV hbel hsz rfl rfl (show 21 < 34 by decide) (Below.refl _ _) rfl)
        · intro A W hsz hoth hbel hdep
          refine kCall2 34 _ _ _ _ _ rfl rfl (by kernel_rfl) (by have h := hdep ⟨1, .data⟩ (by simp) rfl; exact h) (by have h := hdep ⟨2, .data⟩ (by simp) rfl; exact h) ?_
          refine (kTook_as hf hl Hs.out W).mono ?_
          rintro e r ⟨rfl, hBc⟩
          exact ⟨_, rfl, (symV hbel hsz rfl rfl (show 22 < 34 by decide) hBc rfl)⟩
        · intro A W hsz hoth hbel hdep
          refine kCall3 33 _ _ _ _ _ _ _ rfl rfl (by kernel_rfl) (by have h := hdep ⟨0, .data⟩ (by simp) rfl; exact h) (by have h := hdep ⟨3, .data⟩ (by simp) rfl; exact h) rfl ?_
          refine (kScaled_as (k := 4200) rfl rfl htl hsl Hx.out f23.out W).mono ?_
          rintro e r ⟨rfl, hBc⟩
          exact ⟨_, rfl, (symV hbel hsz rfl rfl (show 23 < 34 by decide) hBc rfl)⟩
        · intro A W hsz hoth hbel hdep
          exact kMoveV _ _ rfl rfl (by have h := hdep ⟨4, .data⟩ (by simp) rfl; exact h) (symV hbel hsz rfl rfl (show 18 < 34 by decide) (Below.refl _ _) rfl)
        · intro A W hsz hoth hbel hdep
          exact kExtract _ _ _ (.agg (wcells x)) rfl rfl (by have h := hdep ⟨5, .data⟩ (by simp) rfl; exact h) rfl (symV hbel hsz rfl rfl (show 24 < 34 by decide) (Below.refl _ _) rfl)
        · intro A W hsz hoth hbel hdep
          exact kExtract _ _ _ (.bool false) rfl rfl (by have h := hdep ⟨5, .data⟩ (by simp) rfl; exact h) rfl (symV hbel hsz rfl rfl (show 25 < 34 by decide) (Below.refl _ _) rfl)
        · intro A W hsz hoth hbel hdep
          refine kAllocL _ _ rfl rfl zero_Wide ?_
          intro r hR hl hBc
          exact (symV hbel hsz rfl rfl (show 9 < 34 by decide) hBc ⟨_, _, rfl, hbel.size, wcells_size _, hR⟩)
        · intro A W hsz hoth hbel hdep
          obtain ⟨g, cs, d8, hg, hcs, hR⟩ : ∃ g cs, A.tmps.getD 9 undef = .pointer (some ⟨g, 0, none⟩) ∧ w3.heap.size ≤ g ∧ cs.size = 4 ∧ Row W g 24 cs := (by have h := hdep ⟨8, .data⟩ (by simp) rfl; exact h)
          refine kStoreRow _ _ _ _ _ _ (wcells x) rfl rfl d8 (by have h := hdep ⟨6, .data⟩ (by simp) rfl; exact h) hR (info_WideC _) (by rw [wcells_size, hcs]) (wcells_one _) ?_
          intro r hR2 hW
          exact symW hbel rfl hW hg hR2 (by simp only [Singles, and_self, wcells_size]) ⟨g, d8, hg, hR2⟩
        · intro A W hsz hoth hbel hdep
          exact kAssignV _ _ rfl rfl (by have h := hdep ⟨7, .data⟩ (by simp) rfl; exact h) (symV hbel hsz rfl rfl (show 10 < 34 by decide) (Below.refl _ _) rfl)
        intro w4 hB4
        dsimp only [AllV]
        intro g4_9 hg4_9 hR4_9
        dsimp only [putAll]
        go_frame
        have hM4 := hM3.on hB4
        replace hM4 := hM4.cons hR4_9 (Nat.le_trans hM3.size hg4_9) (fun p hp => by have := hM3.lt hp; omega)
        clear hB4 hM3 hg4_9 hR4_9
        go_wp2_with fail
        refine region_symT 6 _ [] [] [.val (.bool false), .val (.bool false), .val (.agg (wcells E)), .val (.agg (wcells x)), .val (.bool true), .val (.bool true)] rfl (by kernel_rfl) (by kernel_rfl) (by kernel_rfl) (by kernel_rfl) rfl (by intro s hs; cases hs) (steps_all ⟨?_, ?_, ?_, ?_, ?_, ?_, trivial⟩) ?_
        · exact fun A W sz ot hbel ap dp => kMoveV _ _ rfl rfl (sO ot 10) (sE ap sz rfl)
        · exact fun A W sz ot hbel ap dp => kMoveV _ _ rfl rfl (sD dp 0 .data) (sE ap sz rfl)
        · intro A W sz ot hbel ap dp
          refine kCall0 27 _ rfl (wanted_of rfl rfl (sD dp 1 .chain)) (by kernel_rfl)  ?_
          refine (kEasiest_as HE.out W).mono ?_
          rintro e r ⟨rfl, hBc⟩
          exact ⟨_, rfl, (sV ap sz hBc rfl)⟩
        · exact fun A W sz ot hbel ap dp => kLoadRow _ _ _ _ _ _ rfl (wanted_of rfl rfl (sD dp 1 .guard)) (sO ot 9) ((hM4.get 0 rfl).on hbel) Try.underlying24 rfl (info_WideC _) (sE ap sz rfl)
        · exact fun A W sz ot hbel ap dp => sCall2 23 rfl (sD dp 2 .data) (sD dp 3 .data) (sC (wLess_k hE hxM f30.out W) ap sz (fun _ => rfl)) (wanted_of rfl rfl (sD dp 1 .guard))
        · exact fun A W sz ot hbel ap dp => kPick _ _ _ false (.bool true) rfl rfl (sD dp 1 .data) (sD dp 4 .data) (sE ap sz rfl)
        intro w5 hB5
        dsimp only [AllV]
        intro hap
        dsimp only [putAll, List.take, List.drop]
        go_frame
        have hM5 := hM4.on hB5
        clear hB5 hM4 hap
        go_wp2_with fail
        go_ret
        exact ⟨by rw [hr.out]; rfl, hM5.below⟩
    · have hle := Nat.le_of_not_lt ho
      have hyM : y < M256 := Nat.lt_of_le_of_lt hle easy_lt
      have hxy : x = y := by rw [← Hx.out, Nat.mod_eq_of_lt hyM]
      have f23 : Hid (decide (M256 ≤ t * s / 4200) = false) := Lib.hid (by rw [Hy.out]; simpa using hyM)
      have f30 : Hid (decide (E < x) = false) := Lib.hid (by rw [← HE.out, hxy]; simpa using hle)
      have f33 : Hid (compactN x = r) := Lib.hid (by rw [← hr, next_le (by rw [Ht.out, Hs.out, Hy.out]; exact hle) h, Ht.out, Hs.out, Hy.out, hxy])
      replace Hx : Hid (t * s / 4200 % M256 = x) := Lib.hid (by rw [Hy.out]; exact Hx.out)
      replace h := Lib.hid h
      clear h1 h2 ho hle hyM hxy Hy hr
      have hM0 := mm_nil w
      (try unfold WV)
      go_enter Try.func14, Try.ntmps14
      go_wp2_with (first
        | (go_at_call 9; (with_reducible change Calls _ _ #[Value.int .u32 ((b : Int))] _ _); refine (kExpand_ok hb h.out Ht.out _).mono ?_; rintro e w1 ⟨rfl, hB1⟩; have hM1 := hM0.on hB1; clear hB1 hM0; (try unfold WV); go_frame)
        | ((with_reducible change wpList _ _ _ (Oper.mk (some 7) _ _ _ _ _ :: _) _ _); refine mmAlloc hM1 _ _ rfl rfl zero_Wide ?_; intro w2 hM2; clear hM1; go_frame)
        | ((with_reducible change wpList _ _ _ (Oper.mk none (Op.store _ (Operand.tmp 7) (Operand.tmp 14)) _ _ _ _ :: _) _ _); refine mmStoreAt hM2 0 _ _ _ _ _ _ (wcells t) rfl rfl rfl rfl rfl (info_WideC _) (by simp only [wcells_size]) (wcells_one _) ?_; intro w3 hM3; dsimp only [List.set] at hM3; clear hM2; go_frame)
        | ((with_reducible change wpList _ _ _ (Oper.mk (some 17) _ _ _ _ _ :: _) _ _); refine kYw (yNeqK _ _ _ _ .i64 0 0 false rfl rfl rfl rfl rfl) ?_; go_frame))
      refine region_sym (fun _ => 8) [.val (.agg (wcells t)), .val (.int .u32 ((f : Int))), .val (.int .u32 ((l : Int))), .val (.int .u64 ((s : Int))), .val (.tuple #[.agg (wcells x), .bool false]), .val (.tuple #[.agg (wcells x), .bool false]), .val (.agg (wcells x)), .val (.bool false), .fresh w3.heap.size 24 4, .hold w3.heap.size 24 (wcells x), .val (.bool false)] [.val (.agg (wcells t)), .val (.int .u32 ((f : Int))), .val (.int .u32 ((l : Int))), .val (.int .u64 ((s : Int))), .val (.tuple #[.agg (wcells x), .bool false]), .val (.tuple #[.agg (wcells x), .bool false]), .val (.agg (wcells x)), .val (.bool false), .hold w3.heap.size 24 (wcells x), .val undef, .val (.bool false)] (by kernel_rfl) (by kernel_rfl) rfl rfl (steps_all ⟨?_, ?_, ?_, ?_, ?_, ?_, ?_, ?_, ?_, ?_, ?_, trivial⟩) ?_
      · intro A W hsz hoth hbel hdep
        exact kLoadRow _ _ _ _ _ _ rfl rfl ((hoth 7 (free2_of (by kernel_rfl))).trans rfl) ((hM3.get 0 rfl).on hbel) Try.underlying24 rfl (info_WideC _) (symV hbel hsz rfl rfl (show 19 < 34 by decide) (Below.refl _ _) rfl)
      · intro A W hsz hoth hbel hdep
        exact kMoveV _ _ rfl rfl ((hoth 1 (free2_of (by kernel_rfl))).trans rfl) (symV hbel hsz rfl rfl (show 20 < 34 by decide) (Below.refl _ _) rfl)
      · intro A W hsz hoth hbel hdep
        exact kMoveV _ _ rfl rfl ((hoth 2 (free2_of (by kernel_rfl))).trans rfl) (symV hbel hsz rfl rfl (show 21 < 34 by decide) (Below.refl _ _) rfl)
      · intro A W hsz hoth hbel hdep
        refine kCall2 34 _ _ _ _ _ rfl rfl (by kernel_rfl) (by have h := hdep ⟨1, .data⟩ (by simp) rfl; exact h) (by have h := hdep ⟨2, .data⟩ (by simp) rfl; exact h) ?_
        refine (kTook_as hf hl Hs.out W).mono ?_
        rintro e r ⟨rfl, hBc⟩
        exact ⟨_, rfl, (symV hbel hsz rfl rfl (show 22 < 34 by decide) hBc rfl)⟩
      · intro A W hsz hoth hbel hdep
        refine kCall3 33 _ _ _ _ _ _ _ rfl rfl (by kernel_rfl) (by have h := hdep ⟨0, .data⟩ (by simp) rfl; exact h) (by have h := hdep ⟨3, .data⟩ (by simp) rfl; exact h) rfl ?_
        refine (kScaled_as (k := 4200) rfl rfl htl hsl Hx.out f23.out W).mono ?_
        rintro e r ⟨rfl, hBc⟩
        exact ⟨_, rfl, (symV hbel hsz rfl rfl (show 23 < 34 by decide) hBc rfl)⟩
      · intro A W hsz hoth hbel hdep
        exact kMoveV _ _ rfl rfl (by have h := hdep ⟨4, .data⟩ (by simp) rfl; exact h) (symV hbel hsz rfl rfl (show 18 < 34 by decide) (Below.refl _ _) rfl)
      · intro A W hsz hoth hbel hdep
        exact kExtract _ _ _ (.agg (wcells x)) rfl rfl (by have h := hdep ⟨5, .data⟩ (by simp) rfl; exact h) rfl (symV hbel hsz rfl rfl (show 24 < 34 by decide) (Below.refl _ _) rfl)
      · intro A W hsz hoth hbel hdep
        exact kExtract _ _ _ (.bool false) rfl rfl (by have h := hdep ⟨5, .data⟩ (by simp) rfl; exact h) rfl (symV hbel hsz rfl rfl (show 25 < 34 by decide) (Below.refl _ _) rfl)
      · intro A W hsz hoth hbel hdep
        refine kAllocL _ _ rfl rfl zero_Wide ?_
        intro r hR hl hBc
        exact (symV hbel hsz rfl rfl (show 9 < 34 by decide) hBc ⟨_, _, rfl, hbel.size, wcells_size _, hR⟩)
      · intro A W hsz hoth hbel hdep
        obtain ⟨g, cs, d8, hg, hcs, hR⟩ : ∃ g cs, A.tmps.getD 9 undef = .pointer (some ⟨g, 0, none⟩) ∧ w3.heap.size ≤ g ∧ cs.size = 4 ∧ Row W g 24 cs := (by have h := hdep ⟨8, .data⟩ (by simp) rfl; exact h)
        refine kStoreRow _ _ _ _ _ _ (wcells x) rfl rfl d8 (by have h := hdep ⟨6, .data⟩ (by simp) rfl; exact h) hR (info_WideC _) (by rw [wcells_size, hcs]) (wcells_one _) ?_
        intro r hR2 hW
        exact symW hbel rfl hW hg hR2 (by simp only [Singles, and_self, wcells_size]) ⟨g, d8, hg, hR2⟩
      · intro A W hsz hoth hbel hdep
        exact kAssignV _ _ rfl rfl (by have h := hdep ⟨7, .data⟩ (by simp) rfl; exact h) (symV hbel hsz rfl rfl (show 10 < 34 by decide) (Below.refl _ _) rfl)
      intro w4 hB4
      dsimp only [AllV]
      intro g4_9 hg4_9 hR4_9
      dsimp only [putAll]
      go_frame
      have hM4 := hM3.on hB4
      replace hM4 := hM4.cons hR4_9 (Nat.le_trans hM3.size hg4_9) (fun p hp => by have := hM3.lt hp; omega)
      clear hB4 hM3 hg4_9 hR4_9
      go_wp2_with fail
      refine region_symT 6 _ [] [] [.val (.bool false), .val (.bool false), .val (.agg (wcells E)), .val (.agg (wcells x)), .val (.bool false), .val (.bool false)] rfl (by kernel_rfl) (by kernel_rfl) (by kernel_rfl) (by kernel_rfl) rfl (by intro s hs; cases hs) (steps_all ⟨?_, ?_, ?_, ?_, ?_, ?_, trivial⟩) ?_
      · exact fun A W sz ot hbel ap dp => kMoveV _ _ rfl rfl (sO ot 10) (sE ap sz rfl)
      · exact fun A W sz ot hbel ap dp => kMoveV _ _ rfl rfl (sD dp 0 .data) (sE ap sz rfl)
      · intro A W sz ot hbel ap dp
        refine kCall0 27 _ rfl (wanted_of rfl rfl (sD dp 1 .chain)) (by kernel_rfl)  ?_
        refine (kEasiest_as HE.out W).mono ?_
        rintro e r ⟨rfl, hBc⟩
        exact ⟨_, rfl, (sV ap sz hBc rfl)⟩
      · exact fun A W sz ot hbel ap dp => kLoadRow _ _ _ _ _ _ rfl (wanted_of rfl rfl (sD dp 1 .guard)) (sO ot 9) ((hM4.get 0 rfl).on hbel) Try.underlying24 rfl (info_WideC _) (sE ap sz rfl)
      · exact fun A W sz ot hbel ap dp => sCall2 23 rfl (sD dp 2 .data) (sD dp 3 .data) (sC (wLess_k hE hxM f30.out W) ap sz (fun _ => rfl)) (wanted_of rfl rfl (sD dp 1 .guard))
      · exact fun A W sz ot hbel ap dp => kPick _ _ _ false (.bool false) rfl rfl (sD dp 1 .data) (sD dp 4 .data) (sE ap sz rfl)
      intro w5 hB5
      dsimp only [AllV]
      intro hap
      dsimp only [putAll, List.take, List.drop]
      go_frame
      have hM5 := hM4.on hB5
      clear hB5 hM4 hap
      go_wp2_with (first
        | ((with_reducible change wpList _ _ _ (Oper.mk (some 32) _ _ _ _ _ :: _) _ _); refine kLoadRow _ _ _ _ _ _ rfl rfl rfl (hM5.get 0 rfl) Try.underlying24 rfl (info_WideC _) ?_; go_frame)
        | (go_at_call 13; (with_reducible change Calls _ _ #[Value.agg (wcells x)] _ _); refine (kCompact_as hxM f33.out _).mono ?_; rintro e w6 ⟨rfl, hB6⟩; have hM6 := hM5.on hB6; clear hB6 hM5; (try unfold WV); go_frame))
      go_ret
      exact ⟨rfl, hM6.below⟩
end Go.Proofs.Ytdeggdmoijfhdaa
