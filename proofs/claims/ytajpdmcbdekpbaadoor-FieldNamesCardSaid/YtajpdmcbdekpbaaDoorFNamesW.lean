/-
  The walk of the statement FieldNames.
-/
import Derived.Test.YtajpdmcbdekpbaaDoorFRef4
import Derived.Test.YtajpdmcbdekpbaaDoorFRootsW
namespace Go.Proofs.YtajpdmcbdekpbaaDoor
open Go Go.RowKit

theorem root_four {m x : Nat} (hp : IsPrime m) (h4 : m % 4 = 3) (hm4 : 4 < m) (hx : x = 4) : evenRoot m x = 2 := by
  have hx2 : x = 2 * 2 % m := by rw [hx, Nat.mod_eq_of_lt hm4]
  rcases root_own hp h4 hx2 with h | h
  · rw [h, Nat.mod_eq_of_lt (by omega)]
  · exfalso
    have he := evenRoot_even (m := m) (a := x) (by omega)
    have e : (m - 2) % m = m - 2 := Nat.mod_eq_of_lt (by omega)
    rw [h, neg_form, Nat.mod_eq_of_lt (show 2 < m by omega), e] at he
    omega
set_option maxRecDepth 100000 in
set_option maxHeartbeats 8000000 in
theorem FieldNames_any (w : World) (hG : Glob 0 PP w) (hN : Glob 1 NN w) :
    Calls Tryd.prog 3 #[] w fun e w' => e = .returned (.bool true) ∧ Below w.heap.size w w' := by
  obtain ⟨n2, H2⟩ : ∃ n, Hid (n = 2) := ⟨2, Lib.hid rfl⟩
  have h2 : n2 < 18446744073709551616 := by rw [H2.out]; decide
  have mn2 : n2 < M256 := by rw [H2.out]; decide
  have E2 : (2 : Int) = (n2 : Int) := by rw [H2.out]; rfl
  replace E2 := Lib.hid E2
  obtain ⟨n4, H4⟩ : ∃ n, Hid (n = 4) := ⟨4, Lib.hid rfl⟩
  have h4 : n4 < 18446744073709551616 := by rw [H4.out]; decide
  have mn4 : n4 < M256 := by rw [H4.out]; decide
  have E4 : (4 : Int) = (n4 : Int) := by rw [H4.out]; rfl
  replace E4 := Lib.hid E4
  obtain ⟨m, Hm⟩ : ∃ m, Hid (m = PP) := ⟨_, Lib.hid rfl⟩
  have hm : Modu m := by rw [Hm.out]; exact modu_P
  have hp : IsPrime m := by rw [Hm.out]; exact PP_prime
  have h4m : m % 4 = 3 := by rw [Hm.out]; exact PP_four
  have hm1 : m + 1 < M256 := by rw [Hm.out]; decide
  have hR : Glob 0 m w := by rw [Hm.out]; exact hG
  have hP1 : PrimeIs true m := by rw [Hm.out]; exact rPrime_true
  obtain ⟨nn, Hnn⟩ : ∃ m, Hid (m = NN) := ⟨_, Lib.hid rfl⟩
  have hn : Modu nn := by rw [Hnn.out]; exact modu_N
  have mnn : nn < M256 := hn.lt
  have hS : Glob 1 nn w := by rw [Hnn.out]; exact hN
  have hP2 : PrimeIs false nn := by rw [Hnn.out]; exact rPrime_false
  have hne : nn ≠ m := by rw [Hm.out, Hnn.out]; decide
  replace hne := Lib.hid hne
  have HR := Lib.hid (root_four (x := n4) hp h4m (by rw [Hm.out]; decide) H4.out)
  have HH := Lib.hid (hasRoot_square (a := 2) (x := n4) hp h4m (by rw [H4.out, Hm.out]; decide))
  have HR2 := Lib.hid (show evenRoot m n4 = n2 by rw [HR.out, H2.out])
  have HZ := Lib.hid (Nat.mod_self m)
  clear h4m
  have hM0 := mm_nil w
  (try unfold WV)
  go_enter Tryd.func3, Tryd.ntmps3
  go_wp2_with (first
    | (go_at_call 10; refine (fieldAlive_any _ (hG.below hM0.below)).mono ?_; rintro e w1 ⟨rfl, hB1⟩; have hM1 := hM0.on hB1; clear hB1 hM0; (try unfold WV); go_frame)
    | (go_at_call 11; refine (fP_any m _ (hR.below hM1.below)).mono ?_; rintro e w2 ⟨rfl, hR2, hB2⟩; have hM2 := hM1.new hR2 hB2; clear hB2 hR2 hM1; go_frame)
    | (go_at_call 11; refine (fP_any m _ (hR.below hM2.below)).mono ?_; rintro e w3 ⟨rfl, hR3, hB3⟩; have hM3 := hM2.new hR3 hB3; clear hB3 hR3 hM2; go_frame)
    | (go_at_call 13; (with_reducible change Calls _ _ #[Value.pointer (some ⟨w2.heap.size, 0, none⟩)] _ _); refine (fModulus_any hm (w2.heap.size) _ (hM3.get 0 rfl)).mono ?_; rintro e w4 ⟨rfl, hB4⟩; have hM4 := hM3.on hB4; clear hB4 hM3; (try unfold WV); go_frame)
    | (go_at_call 12; (with_reducible change Calls _ _ #[Value.pointer (some ⟨w1.heap.size, 0, none⟩), Value.agg (wcells m)] _ _); refine (fInv_zero hm m (w1.heap.size) hm.lt HZ.out _ (hM4.get 1 rfl)).mono ?_; rintro e w5 ⟨rfl, hB5⟩; have hM5 := hM4.on hB5; clear hB5 hM4; (try unfold WV); go_frame)
    | ((with_reducible change wpList _ _ _ (Oper.mk (some 1) _ _ _ _ _ :: _) _ _); refine mmAlloc hM5 _ _ rfl rfl zero_Wide ?_; intro w6 hM6; clear hM5; go_frame)
    | ((with_reducible change wpList _ _ _ (Oper.mk none (Op.store _ (Operand.tmp 1) (Operand.tmp 14)) _ _ _ _ :: _) _ _); refine mmStoreAt hM6 0 _ _ _ _ _ _ (wcells 0) rfl rfl rfl rfl rfl (info_WideC _) (by simp only [wcells_size]) (wcells_one _) ?_; intro w7 hM7; dsimp only [List.set] at hM7; clear hM6; go_frame)
    | (go_at_call 14; refine (fN_any nn _ (hS.below hM7.below)).mono ?_; rintro e w8 ⟨rfl, hR8, hB8⟩; have hM8 := hM7.new hR8 hB8; clear hB8 hR8 hM7; go_frame)
    | (go_at_call 16; (with_reducible change Calls _ _ #[Value.int .u64 (4)] _ _); refine (wOf_lit n4 4 h4 E4.out _).mono ?_; rintro e w9 ⟨rfl, hB9⟩; have hM9 := hM8.on hB9; clear hB9 hM8; (try unfold WV); go_frame)
    | (go_at_call 15; (with_reducible change Calls _ _ #[Value.pointer (some ⟨w7.heap.size, 0, none⟩), Value.agg (wcells n4)] _ _); refine (fRoot_other hn n4 m (w7.heap.size) mn4 hm.lt _ (hM9.get 0 rfl) (hR.below hM9.below) hne.out).mono ?_; rintro e w10 ⟨rfl, hB10⟩; have hM10 := hM9.on hB10; clear hB10 hM9; (try unfold WV); go_frame)
    | ((with_reducible change wpList _ _ _ (Oper.mk (some 3) _ _ _ _ _ :: _) _ _); refine mmAlloc hM10 _ _ rfl rfl zero_Wide ?_; intro w11 hM11; clear hM10; go_frame)
    | ((with_reducible change wpList _ _ _ (Oper.mk none (Op.store _ (Operand.tmp 3) (Operand.tmp 20)) _ _ _ _ :: _) _ _); refine mmStoreAt hM11 0 _ _ _ _ _ _ (wcells 0) rfl rfl rfl rfl rfl (info_WideC _) (by simp only [wcells_size]) (wcells_one _) ?_; intro w12 hM12; dsimp only [List.set] at hM12; clear hM11; go_frame)
    | (go_at_call 11; refine (fP_any m _ (hR.below hM12.below)).mono ?_; rintro e w13 ⟨rfl, hR13, hB13⟩; have hM13 := hM12.new hR13 hB13; clear hB13 hR13 hM12; go_frame)
    | (go_at_call 16; (with_reducible change Calls _ _ #[Value.int .u64 (4)] _ _); refine (wOf_lit n4 4 h4 E4.out _).mono ?_; rintro e w14 ⟨rfl, hB14⟩; have hM14 := hM13.on hB14; clear hB14 hM13; (try unfold WV); go_frame)
    | (go_at_call 15; (with_reducible change Calls _ _ #[Value.pointer (some ⟨w12.heap.size, 0, none⟩), Value.agg (wcells n4)] _ _); refine (fRoot_some hm (w12.heap.size) mn4 HH.out HR2.out hm1 _ (hM14.get 0 rfl) (hR.below hM14.below)).mono ?_; rintro e w15 ⟨rfl, hB15⟩; have hM15 := hM14.on hB15; clear hB15 hM14; (try unfold WV); go_frame)
    | ((with_reducible change wpList _ _ _ (Oper.mk (some 5) _ _ _ _ _ :: _) _ _); refine mmAlloc hM15 _ _ rfl rfl zero_Wide ?_; intro w16 hM16; clear hM15; go_frame)
    | ((with_reducible change wpList _ _ _ (Oper.mk none (Op.store _ (Operand.tmp 5) (Operand.tmp 26)) _ _ _ _ :: _) _ _); refine mmStoreAt hM16 0 _ _ _ _ _ _ (wcells n2) rfl rfl rfl rfl rfl (info_WideC _) (by simp only [wcells_size]) (wcells_one _) ?_; intro w17 hM17; dsimp only [List.set] at hM17; clear hM16; go_frame))
  refine region_sym (fun _ => 0) [.val (.bool true), .hold w17.heap.size 54 (wcells m), .val (.agg (wcells m)), .prop (fun w v => Num w v (m) 16) (fun _ _ _ hb h => h.below hb), .val (.agg (wcells m)), .val (.bool true), .val (.bool true), .val (.bool true), .hold w17.heap.size 54 (wcells nn), .val (.agg (wcells nn)), .prop (fun w v => Num w v (nn) 16) (fun _ _ _ hb h => h.below hb), .val (.agg (wcells nn)), .val (.bool true), .val (.bool true), .val (.bool true), .val (.int .i64 (31)), .val (.bool true), .val (.bool true), .val (.bool true), .val (.int .i64 (31)), .val (.bool true), .val (.bool true), .val (.bool true), .val (.agg (wcells n2)), .val (.agg (wcells n2)), .val (.bool true), .val (.bool true), .val (.bool true), .val (.int .i64 (0)), .val (.bool true), .val (.bool true), .val (.bool true)] [.val (.bool true), .hold w17.heap.size 54 (wcells m), .val (.agg (wcells m)), .prop (fun w v => Num w v (m) 16) (fun _ _ _ hb h => h.below hb), .val (.agg (wcells m)), .val (.bool true), .val (.bool true), .val (.bool true), .hold w17.heap.size 54 (wcells nn), .val (.agg (wcells nn)), .prop (fun w v => Num w v (nn) 16) (fun _ _ _ hb h => h.below hb), .val (.agg (wcells nn)), .val (.bool true), .val (.bool true), .val (.bool true), .val (.int .i64 (31)), .val (.bool true), .val (.bool true), .val (.bool true), .val (.int .i64 (31)), .val (.bool true), .val (.bool true), .val (.bool true), .val (.agg (wcells n2)), .val (.agg (wcells n2)), .val (.bool true), .val (.bool true), .val (.bool true), .val (.int .i64 (0)), .val (.bool true), .val (.bool true), .val (.bool true)] (by kernel_rfl) (by kernel_rfl) rfl rfl (steps_all ⟨?_, ?_, ?_, ?_, ?_, ?_, ?_, ?_, ?_, ?_, ?_, ?_, ?_, ?_, ?_, ?_, ?_, ?_, ?_, ?_, ?_, ?_, ?_, ?_, ?_, ?_, ?_, ?_, ?_, ?_, ?_, ?_, trivial⟩) ?_
  · intro A W hsz hoth hbel hdep
    exact kMoveV _ (.bool true) rfl rfl rfl (symV hbel hsz rfl rfl (show 28 < 59 by decide) (Below.refl _ _) rfl)
  · intro A W hsz hoth hbel hdep
    refine kCall0 11 _ rfl (wanted_of rfl rfl (by have h := hdep ⟨0, .chain⟩ (by simp) rfl; exact h)) (by kernel_rfl)  ?_
    refine (fP_any m W ((hR.below hM17.below).below hbel)).mono ?_
    rintro e r ⟨rfl, hRn, hBc⟩
    exact ⟨_, rfl, (symV hbel hsz rfl rfl (show 29 < 59 by decide) hBc ⟨_, rfl, hbel.size, hRn⟩)⟩
  · intro A W hsz hoth hbel hdep
    obtain ⟨g, dg, hg, hRg⟩ : ∃ g, A.tmps.getD 29 undef = .pointer (some ⟨g, 0, none⟩) ∧ w17.heap.size ≤ g ∧ Row W g 54 (wcells m) := (by have h := hdep ⟨1, .data⟩ (by simp) rfl; exact h)
    refine kCall1 13 _ _ _ rfl (wanted_of rfl rfl (by have h := hdep ⟨0, .guard⟩ (by simp) rfl; exact h)) (by kernel_rfl) dg ?_
    refine (fModulus_any hm (g) W hRg).mono ?_
    rintro e r ⟨rfl, hBc⟩
    exact ⟨_, rfl, (symV hbel hsz rfl rfl (show 30 < 59 by decide) hBc rfl)⟩
  · intro A W hsz hoth hbel hdep
    refine kCall1 18 _ _ _ rfl (wanted_of rfl rfl (by have h := hdep ⟨0, .guard⟩ (by simp) rfl; exact h)) (by kernel_rfl) rfl ?_
    refine (hP1 W).mono ?_
    rintro e r ⟨xx, rfl, hNx, hBc⟩
    exact ⟨_, rfl, (symV hbel hsz rfl rfl (show 31 < 59 by decide) hBc hNx)⟩
  · intro A W hsz hoth hbel hdep
    have hN31 := (show Num W (A.tmps.getD 31 undef) (m) 16 from (by have h := hdep ⟨3, .data⟩ (by simp) rfl; exact h))
    refine kCall1 17 _ _ _ rfl (wanted_of rfl rfl (by have h := hdep ⟨0, .guard⟩ (by simp) rfl; exact h)) (by kernel_rfl) (rfl : A.eval (Operand.tmp 31) = A.tmps.getD 31 undef) ?_
    refine (dWide_num hN31).mono ?_
    rintro e r ⟨rfl, hBc⟩
    exact ⟨_, rfl, (symV hbel hsz rfl rfl (show 32 < 59 by decide) hBc rfl)⟩
  · intro A W hsz hoth hbel hdep
    exact kEqlW _ _ _ (m) (m) true rfl (wanted_of rfl rfl (by have h := hdep ⟨0, .guard⟩ (by simp) rfl; exact h)) (by have h := hdep ⟨2, .data⟩ (by simp) rfl; exact h) (by have h := hdep ⟨4, .data⟩ (by simp) rfl; exact h) (by simp) (symV hbel hsz rfl rfl (show 33 < 59 by decide) (Below.refl _ _) rfl)
  · intro A W hsz hoth hbel hdep
    exact kPick _ _ _ true (.bool true) rfl rfl (by have h := hdep ⟨0, .data⟩ (by simp) rfl; exact h) (by have h := hdep ⟨5, .data⟩ (by simp) rfl; exact h) (symV hbel hsz rfl rfl (show 34 < 59 by decide) (Below.refl _ _) rfl)
  · intro A W hsz hoth hbel hdep
    exact kMoveV _ (.bool true) rfl rfl (by have h := hdep ⟨6, .data⟩ (by simp) rfl; exact h) (symV hbel hsz rfl rfl (show 35 < 59 by decide) (Below.refl _ _) rfl)
  · intro A W hsz hoth hbel hdep
    refine kCall0 14 _ rfl (wanted_of rfl rfl (by have h := hdep ⟨7, .chain⟩ (by simp) rfl; exact h)) (by kernel_rfl)  ?_
    refine (fN_any nn W ((hS.below hM17.below).below hbel)).mono ?_
    rintro e r ⟨rfl, hRn, hBc⟩
    exact ⟨_, rfl, (symV hbel hsz rfl rfl (show 36 < 59 by decide) hBc ⟨_, rfl, hbel.size, hRn⟩)⟩
  · intro A W hsz hoth hbel hdep
    obtain ⟨g, dg, hg, hRg⟩ : ∃ g, A.tmps.getD 36 undef = .pointer (some ⟨g, 0, none⟩) ∧ w17.heap.size ≤ g ∧ Row W g 54 (wcells nn) := (by have h := hdep ⟨8, .data⟩ (by simp) rfl; exact h)
    refine kCall1 13 _ _ _ rfl (wanted_of rfl rfl (by have h := hdep ⟨7, .guard⟩ (by simp) rfl; exact h)) (by kernel_rfl) dg ?_
    refine (fModulus_any hn (g) W hRg).mono ?_
    rintro e r ⟨rfl, hBc⟩
    exact ⟨_, rfl, (symV hbel hsz rfl rfl (show 37 < 59 by decide) hBc rfl)⟩
  · intro A W hsz hoth hbel hdep
    refine kCall1 18 _ _ _ rfl (wanted_of rfl rfl (by have h := hdep ⟨7, .guard⟩ (by simp) rfl; exact h)) (by kernel_rfl) rfl ?_
    refine (hP2 W).mono ?_
    rintro e r ⟨xx, rfl, hNx, hBc⟩
    exact ⟨_, rfl, (symV hbel hsz rfl rfl (show 38 < 59 by decide) hBc hNx)⟩
  · intro A W hsz hoth hbel hdep
    have hN38 := (show Num W (A.tmps.getD 38 undef) (nn) 16 from (by have h := hdep ⟨10, .data⟩ (by simp) rfl; exact h))
    refine kCall1 17 _ _ _ rfl (wanted_of rfl rfl (by have h := hdep ⟨7, .guard⟩ (by simp) rfl; exact h)) (by kernel_rfl) (rfl : A.eval (Operand.tmp 38) = A.tmps.getD 38 undef) ?_
    refine (dWide_num hN38).mono ?_
    rintro e r ⟨rfl, hBc⟩
    exact ⟨_, rfl, (symV hbel hsz rfl rfl (show 39 < 59 by decide) hBc rfl)⟩
  · intro A W hsz hoth hbel hdep
    exact kEqlW _ _ _ (nn) (nn) true rfl (wanted_of rfl rfl (by have h := hdep ⟨7, .guard⟩ (by simp) rfl; exact h)) (by have h := hdep ⟨9, .data⟩ (by simp) rfl; exact h) (by have h := hdep ⟨11, .data⟩ (by simp) rfl; exact h) (by simp) (symV hbel hsz rfl rfl (show 40 < 59 by decide) (Below.refl _ _) rfl)
  · intro A W hsz hoth hbel hdep
    exact kPick _ _ _ true (.bool true) rfl rfl (by have h := hdep ⟨7, .data⟩ (by simp) rfl; exact h) (by have h := hdep ⟨12, .data⟩ (by simp) rfl; exact h) (symV hbel hsz rfl rfl (show 41 < 59 by decide) (Below.refl _ _) rfl)
  · intro A W hsz hoth hbel hdep
    exact kMoveV _ (.bool true) rfl rfl (by have h := hdep ⟨13, .data⟩ (by simp) rfl; exact h) (symV hbel hsz rfl rfl (show 42 < 59 by decide) (Below.refl _ _) rfl)
  · intro A W hsz hoth hbel hdep
    exact kMoveV _ (.int .i64 (31)) rfl (wanted_of rfl rfl (by have h := hdep ⟨14, .guard⟩ (by simp) rfl; exact h)) ((hoth 2 (free2_of (by kernel_rfl))).trans rfl) (symV hbel hsz rfl rfl (show 43 < 59 by decide) (Below.refl _ _) rfl)
  · intro A W hsz hoth hbel hdep
    exact kEqlI _ _ _ _ .i64 (31) (31) true rfl (wanted_of rfl rfl (by have h := hdep ⟨14, .guard⟩ (by simp) rfl; exact h)) (by have h := hdep ⟨15, .data⟩ (by simp) rfl; exact h) rfl (by decide) (symV hbel hsz rfl rfl (show 44 < 59 by decide) (Below.refl _ _) rfl)
  · intro A W hsz hoth hbel hdep
    exact kPick _ _ _ true (.bool true) rfl rfl (by have h := hdep ⟨14, .data⟩ (by simp) rfl; exact h) (by have h := hdep ⟨16, .data⟩ (by simp) rfl; exact h) (symV hbel hsz rfl rfl (show 45 < 59 by decide) (Below.refl _ _) rfl)
  · intro A W hsz hoth hbel hdep
    exact kMoveV _ (.bool true) rfl rfl (by have h := hdep ⟨17, .data⟩ (by simp) rfl; exact h) (symV hbel hsz rfl rfl (show 46 < 59 by decide) (Below.refl _ _) rfl)
  · intro A W hsz hoth hbel hdep
    exact kMoveV _ (.int .i64 (31)) rfl (wanted_of rfl rfl (by have h := hdep ⟨18, .guard⟩ (by simp) rfl; exact h)) ((hoth 4 (free2_of (by kernel_rfl))).trans rfl) (symV hbel hsz rfl rfl (show 47 < 59 by decide) (Below.refl _ _) rfl)
  · intro A W hsz hoth hbel hdep
    exact kEqlI _ _ _ _ .i64 (31) (31) true rfl (wanted_of rfl rfl (by have h := hdep ⟨18, .guard⟩ (by simp) rfl; exact h)) (by have h := hdep ⟨19, .data⟩ (by simp) rfl; exact h) rfl (by decide) (symV hbel hsz rfl rfl (show 48 < 59 by decide) (Below.refl _ _) rfl)
  · intro A W hsz hoth hbel hdep
    exact kPick _ _ _ true (.bool true) rfl rfl (by have h := hdep ⟨18, .data⟩ (by simp) rfl; exact h) (by have h := hdep ⟨20, .data⟩ (by simp) rfl; exact h) (symV hbel hsz rfl rfl (show 49 < 59 by decide) (Below.refl _ _) rfl)
  · intro A W hsz hoth hbel hdep
    exact kMoveV _ (.bool true) rfl rfl (by have h := hdep ⟨21, .data⟩ (by simp) rfl; exact h) (symV hbel hsz rfl rfl (show 50 < 59 by decide) (Below.refl _ _) rfl)
  · intro A W hsz hoth hbel hdep
    exact kLoadRow _ _ _ _ _ _ rfl (wanted_of rfl rfl (by have h := hdep ⟨22, .guard⟩ (by simp) rfl; exact h)) ((hoth 5 (free2_of (by kernel_rfl))).trans rfl) ((hM17.get 0 rfl).on hbel) Tryd.underlying25 rfl (info_WideC _) (symV hbel hsz rfl rfl (show 51 < 59 by decide) (Below.refl _ _) rfl)
  · intro A W hsz hoth hbel hdep
    refine kCall1 16 _ _ _ rfl (wanted_of rfl rfl (by have h := hdep ⟨22, .chain⟩ (by simp) rfl; exact h)) (by kernel_rfl) rfl ?_
    refine (wOf_lit n2 2 h2 E2.out W).mono ?_
    rintro e r ⟨rfl, hBc⟩
    exact ⟨_, rfl, (symV hbel hsz rfl rfl (show 52 < 59 by decide) hBc rfl)⟩
  · intro A W hsz hoth hbel hdep
    exact kEqlW _ _ _ (n2) (n2) true rfl (wanted_of rfl rfl (by have h := hdep ⟨22, .guard⟩ (by simp) rfl; exact h)) (by have h := hdep ⟨23, .data⟩ (by simp) rfl; exact h) (by have h := hdep ⟨24, .data⟩ (by simp) rfl; exact h) (by simp) (symV hbel hsz rfl rfl (show 53 < 59 by decide) (Below.refl _ _) rfl)
  · intro A W hsz hoth hbel hdep
    exact kPick _ _ _ true (.bool true) rfl rfl (by have h := hdep ⟨22, .data⟩ (by simp) rfl; exact h) (by have h := hdep ⟨25, .data⟩ (by simp) rfl; exact h) (symV hbel hsz rfl rfl (show 54 < 59 by decide) (Below.refl _ _) rfl)
  · intro A W hsz hoth hbel hdep
    exact kMoveV _ (.bool true) rfl rfl (by have h := hdep ⟨26, .data⟩ (by simp) rfl; exact h) (symV hbel hsz rfl rfl (show 55 < 59 by decide) (Below.refl _ _) rfl)
  · intro A W hsz hoth hbel hdep
    exact kMoveV _ (.int .i64 (0)) rfl (wanted_of rfl rfl (by have h := hdep ⟨27, .guard⟩ (by simp) rfl; exact h)) ((hoth 6 (free2_of (by kernel_rfl))).trans rfl) (symV hbel hsz rfl rfl (show 56 < 59 by decide) (Below.refl _ _) rfl)
  · intro A W hsz hoth hbel hdep
    exact kEqlI _ _ _ _ .i64 (0) (0) true rfl (wanted_of rfl rfl (by have h := hdep ⟨27, .guard⟩ (by simp) rfl; exact h)) (by have h := hdep ⟨28, .data⟩ (by simp) rfl; exact h) rfl (by decide) (symV hbel hsz rfl rfl (show 57 < 59 by decide) (Below.refl _ _) rfl)
  · intro A W hsz hoth hbel hdep
    exact kPick _ _ _ true (.bool true) rfl rfl (by have h := hdep ⟨27, .data⟩ (by simp) rfl; exact h) (by have h := hdep ⟨29, .data⟩ (by simp) rfl; exact h) (symV hbel hsz rfl rfl (show 58 < 59 by decide) (Below.refl _ _) rfl)
  · intro A W hsz hoth hbel hdep
    exact kAssignV _ (.bool true) rfl rfl (by have h := hdep ⟨30, .data⟩ (by simp) rfl; exact h) (symV hbel hsz rfl rfl (show 0 < 59 by decide) (Below.refl _ _) rfl)
  intro w18 hB18
  dsimp only [AllV]
  intro g18_29 hg18_29 hR18_29
  intro x18_31 hN18_31
  intro g18_36 hg18_36 hR18_36
  intro x18_38 hN18_38
  dsimp only [putAll]
  go_frame
  have hM18 := hM17.on hB18
  clear hB18 hM17
  have hM19 := mm_nil w18
  go_wp2_with fail
  go_ret
  exact ⟨rfl, ((hM18.below).trans (hM19.below.mono (hM18.below).size))⟩
end Go.Proofs.YtajpdmcbdekpbaaDoor
