/-
  The walks of field's Add, Sub, Mul, In and Modulus.
-/
import Derived.Test.YtajpdmcbdekpbaaDoorFFold
namespace Go.Proofs.YtajpdmcbdekpbaaDoor
open Go Go.RowKit

theorem wAdd_over {a b s : Nat} (ma : a < M256) (mb : b < M256) (h : a + b = s + M256) (w : World) :
    Calls Tryd.prog 35 #[WV a, WV b] w fun e w' => e = .returned (.tuple #[WV s, .bool true]) ∧ Below w.heap.size w w' := by
  have h' := wAdd_any a b ma mb w
  rw [← WV_mod (a + b), h, Nat.add_mod_right, WV_mod, show decide (M256 ≤ s + M256) = true by simp] at h'
  exact h'
theorem wAdd_fits {a b s : Nat} (ma : a < M256) (mb : b < M256) (h : a + b = s) (hs : s < M256) (w : World) :
    Calls Tryd.prog 35 #[WV a, WV b] w fun e w' => e = .returned (.tuple #[WV s, .bool false]) ∧ Below w.heap.size w w' := by
  have h' := wAdd_any a b ma mb w
  rw [h, show decide (M256 ≤ s) = false by simpa using hs] at h'
  exact h'
theorem wSub_less {a b : Nat} (ma : a < M256) (mb : b < M256) (h : a < b) (w : World) :
    Calls Tryd.prog 38 #[WV a, WV b] w fun e w' => e = .returned (.tuple #[WV (a + M256 - b), .bool true]) ∧ Below w.heap.size w w' := by
  have h' := wSub_any a b ma mb w
  rw [show decide (a < b) = true by simpa using h] at h'
  exact h'
theorem wSub_fits {a b s : Nat} (ma : a < M256) (mb : b < M256) (h : a = s + b) (w : World) :
    Calls Tryd.prog 38 #[WV a, WV b] w fun e w' => e = .returned (.tuple #[WV s, .bool false]) ∧ Below w.heap.size w w' := by
  have h' := wSub_any a b ma mb w
  rw [show decide (a < b) = false by simp; omega, ← WV_mod (a + M256 - b), show a + M256 - b = s + M256 by omega, Nat.add_mod_right, WV_mod] at h'
  exact h'
theorem fonce_as {m a x : Nat} (hm : Modu m) (g : Nat) (ma : a < M256) (h : a % m = x) (w : World) (hr : Row w g 54 (wcells m)) :
    Calls Tryd.prog 37 #[.pointer (some ⟨g, 0, none⟩), WV a] w fun e w' => e = .returned (WV x) ∧ Below w.heap.size w w' := by
  have h' := fonce_any hm a g ma w hr
  rwa [h] at h'
theorem fFold_as {m lo hi x : Nat} (hm : Modu m) (g : Nat) (mlo : lo < M256) (mhi : hi < M256) (h : (lo + hi * M256) % m = x) (w : World) (hr : Row w g 54 (wcells m)) :
    Calls Tryd.prog 30 #[.pointer (some ⟨g, 0, none⟩), WV lo, WV hi] w fun e w' => e = .returned (WV x) ∧ Below w.heap.size w w' := by
  have h' := fFold_any hm lo hi g mlo mhi w hr
  rwa [h] at h'
set_option maxRecDepth 100000 in
set_option maxHeartbeats 4000000 in
theorem fAdd_any {m : Nat} (hm : Modu m) (a : Nat) (b : Nat) (g : Nat) (ma : a < M256) (mb : b < M256) (w : World) (hr : Row w g 54 (wcells m)) :
    Calls Tryd.prog 21 #[.pointer (some ⟨g, 0, none⟩), WV a, WV b] w fun e w' => e = .returned (WV ((a + b) % m)) ∧ Below w.heap.size w w' := by
  obtain ⟨n1, H1⟩ : ∃ n, Hid (n = 1) := ⟨1, Lib.hid rfl⟩
  have h1 : n1 < 18446744073709551616 := by rw [H1.out]; decide
  have mn1 : n1 < M256 := by rw [H1.out]; decide
  have E1 : (1 : Int) = (n1 : Int) := by rw [H1.out]; rfl
  replace E1 := Lib.hid E1
  obtain ⟨x, Hx⟩ : ∃ x, Hid ((a + b) % m = x) := ⟨_, Lib.hid rfl⟩
  rw [Hx.out]
  have hM0 := mem_nil w
  unfold WV
  by_cases h : M256 ≤ a + b
  · obtain ⟨s, hs⟩ : ∃ s, a + b = s + M256 := ⟨a + b - M256, by omega⟩
    have ms : s < M256 := by omega
    have HF := Lib.hid (show (s + n1 * M256) % m = x by rw [H1.out, Nat.one_mul, ← hs, Hx.out])
    replace hs := Lib.hid hs
    clear h
    go_enter Tryd.func21, Tryd.ntmps21
    go_wp2_with (first
      | ((with_reducible change wpList _ _ _ (Oper.mk (some 4) _ _ _ _ _ :: _) _ _); refine mBox hM0 _ _ rfl rfl rfl ?_; intro w1 hM1; clear hM0; go_frame)
      | ((with_reducible change wpList _ _ _ (Oper.mk (some 5) _ _ _ _ _ :: _) _ _); refine mBox hM1 _ _ rfl rfl rfl ?_; intro w2 hM2; clear hM1; go_frame)
      | ((with_reducible change wpList _ _ _ (Oper.mk (some 6) _ _ _ _ _ :: _) _ _); refine mAlloc hM2 rfl rfl ?_; intro w3 hM3; clear hM2; go_frame)
      | ((with_reducible change wpList _ _ _ (Oper.mk (some 10) _ _ _ _ _ :: _) _ _); refine mLoad hM3 2 _ _ _ rfl rfl rfl rfl ?_; go_frame)
      | ((with_reducible change wpList _ _ _ (Oper.mk (some 11) _ _ _ _ _ :: _) _ _); refine mLoad hM3 1 _ _ _ rfl rfl rfl rfl ?_; go_frame)
      | (go_at_call 35; (with_reducible change Calls _ _ #[Value.agg (wcells a), Value.agg (wcells b)] _ _); refine (wAdd_over ma mb hs.out _).mono ?_; rintro e w4 ⟨rfl, hB4⟩; have hM4 := hM3.on hB4; clear hB4 hM3; (try unfold WV); go_frame)
      | ((with_reducible change wpList _ _ _ (Oper.mk (some 7) _ _ _ _ _ :: _) _ _); refine mAlloc hM4 rfl rfl ?_; intro w5 hM5; clear hM4; go_frame)
      | ((with_reducible change wpList _ _ _ (Oper.mk none (Op.store _ (Operand.tmp 7) (Operand.tmp 13)) _ _ _ _ :: _) _ _); refine mStoreAt hM5 0 _ _ _ _ (s) rfl rfl rfl rfl rfl ?_; intro w6 hM6; dsimp only [List.set] at hM6; clear hM5; go_frame))
    refine region_mixP [(0, true), (1, true), (2, false), (3, false)] (fun w' => Row w' (w4.heap.size) 25 (wcells (s)) ∧ True) (by kernel_rfl) (by kernel_rfl) rfl ?_
    intro w7 hBd hsd
    have hM7 := hM6.on hBd; clear hBd hsd hM6
    simp only [List.length_cons, List.length_nil, List.drop_succ_cons, List.drop_zero, List.map_cons, List.map_nil]
    dsimp only [List.filterMap, List.getElem?_cons_zero, List.getElem?_cons_succ]
    refine mixMove _ (.pointer (some ⟨g, 0, none⟩)) (by exact ⟨hM7.get 0 rfl, trivial⟩) rfl rfl rfl ?_; go_frame
    refine mixLoadRow _ _ _ _ _ _ (by exact ⟨hM7.get 0 rfl, trivial⟩) rfl rfl rfl (fun _ h => h.1) Tryd.underlying25 rfl (info_WideC _) ?_; go_frame
    refine mixLoud ?_
    refine kCall1 16 _ _ _ rfl rfl (by kernel_rfl) rfl ?_
    refine (wOf_lit n1 1 h1 E1.out _).mono ?_
    rintro e w8 ⟨rfl, hB8⟩
    have hM8 := hM7.on hB8; clear hB8 hM7
    refine ⟨_, rfl, mixOn ⟨⟨hM8.get 0 rfl, trivial⟩, ?_⟩⟩
    (try unfold WV); go_frame
    refine mixLoud ?_
    refine kCall3 30 _ _ _ _ _ _ _ rfl rfl (by kernel_rfl) rfl rfl rfl ?_
    refine (fFold_as hm g ms mn1 HF.out _ (hr.below hM8.below hr.lt)).mono ?_
    rintro e w9 ⟨rfl, hB9⟩
    have hM9 := hM8.on hB9; clear hB9 hM8
    refine ⟨_, rfl, mixOn ⟨⟨hM9.get 0 rfl, trivial⟩, ?_⟩⟩
    (try unfold WV); go_frame
    refine mixEnd ?_
    refine mStoreAt hM9 1 _ _ _ _ (x) rfl rfl rfl rfl rfl ?_
    intro w10 hM10; dsimp only [List.set] at hM10; clear hM9
    go_frame
    go_wp2_with fail
    exact result_row Tryd.results21 rfl (hM10.get 1 rfl) Tryd.underlying25 rfl (info_WideC _) rfl ⟨rfl, hM10.below⟩
  · obtain ⟨s, hs⟩ : ∃ s, a + b = s := ⟨_, rfl⟩
    have ms : s < M256 := by omega
    have HF := Lib.hid (show s % m = x by rw [← hs, Hx.out])
    replace hs := Lib.hid hs
    clear h
    go_enter Tryd.func21, Tryd.ntmps21
    go_wp2_with (first
      | ((with_reducible change wpList _ _ _ (Oper.mk (some 4) _ _ _ _ _ :: _) _ _); refine mBox hM0 _ _ rfl rfl rfl ?_; intro w1 hM1; clear hM0; go_frame)
      | ((with_reducible change wpList _ _ _ (Oper.mk (some 5) _ _ _ _ _ :: _) _ _); refine mBox hM1 _ _ rfl rfl rfl ?_; intro w2 hM2; clear hM1; go_frame)
      | ((with_reducible change wpList _ _ _ (Oper.mk (some 6) _ _ _ _ _ :: _) _ _); refine mAlloc hM2 rfl rfl ?_; intro w3 hM3; clear hM2; go_frame)
      | ((with_reducible change wpList _ _ _ (Oper.mk (some 10) _ _ _ _ _ :: _) _ _); refine mLoad hM3 2 _ _ _ rfl rfl rfl rfl ?_; go_frame)
      | ((with_reducible change wpList _ _ _ (Oper.mk (some 11) _ _ _ _ _ :: _) _ _); refine mLoad hM3 1 _ _ _ rfl rfl rfl rfl ?_; go_frame)
      | (go_at_call 35; (with_reducible change Calls _ _ #[Value.agg (wcells a), Value.agg (wcells b)] _ _); refine (wAdd_fits ma mb hs.out ms _).mono ?_; rintro e w4 ⟨rfl, hB4⟩; have hM4 := hM3.on hB4; clear hB4 hM3; (try unfold WV); go_frame)
      | ((with_reducible change wpList _ _ _ (Oper.mk (some 7) _ _ _ _ _ :: _) _ _); refine mAlloc hM4 rfl rfl ?_; intro w5 hM5; clear hM4; go_frame)
      | ((with_reducible change wpList _ _ _ (Oper.mk none (Op.store _ (Operand.tmp 7) (Operand.tmp 13)) _ _ _ _ :: _) _ _); refine mStoreAt hM5 0 _ _ _ _ (s) rfl rfl rfl rfl rfl ?_; intro w6 hM6; dsimp only [List.set] at hM6; clear hM5; go_frame)
      | ((with_reducible change wpList _ _ _ (Oper.mk (some 21) _ _ _ _ _ :: _) _ _); refine mLoad hM6 0 _ _ _ rfl rfl rfl rfl ?_; go_frame)
      | (go_at_call 37; (with_reducible change Calls _ _ #[Value.pointer (some ⟨g, 0, none⟩), Value.agg (wcells s)] _ _); refine (fonce_as hm g ms HF.out _ (hr.below hM6.below hr.lt)).mono ?_; rintro e w7 ⟨rfl, hB7⟩; have hM7 := hM6.on hB7; clear hB7 hM6; (try unfold WV); go_frame)
      | ((with_reducible change wpList _ _ _ (Oper.mk none (Op.store _ (Operand.tmp 6) (Operand.tmp 22)) _ _ _ _ :: _) _ _); refine mStoreAt hM7 1 _ _ _ _ (x) rfl rfl rfl rfl rfl ?_; intro w8 hM8; dsimp only [List.set] at hM8; clear hM7; go_frame))
    exact result_row Tryd.results21 rfl (hM8.get 1 rfl) Tryd.underlying25 rfl (info_WideC _) rfl ⟨rfl, hM8.below⟩
set_option maxRecDepth 100000 in
set_option maxHeartbeats 4000000 in
theorem fSub_any {m : Nat} (hm : Modu m) (a : Nat) (b : Nat) (g : Nat) (ma : a < M256) (mb : b < M256) (w : World) (hr : Row w g 54 (wcells m)) :
    Calls Tryd.prog 23 #[.pointer (some ⟨g, 0, none⟩), WV a, WV b] w fun e w' => e = .returned (WV ((a % m + m - b % m) % m)) ∧ Below w.heap.size w w' := by
  obtain ⟨x, Hx⟩ : ∃ x, Hid (a % m = x) := ⟨_, Lib.hid rfl⟩
  obtain ⟨y, Hy⟩ : ∃ y, Hid (b % m = y) := ⟨_, Lib.hid rfl⟩
  have hx : x < m := by rw [← Hx.out]; exact Nat.mod_lt _ hm.pos
  have hy : y < m := by rw [← Hy.out]; exact Nat.mod_lt _ hm.pos
  have hlt := hm.lt
  have mx : x < M256 := by omega
  have my : y < M256 := by omega
  rw [Hx.out, Hy.out]
  have hM0 := mem_nil w
  unfold WV
  by_cases h : x < y
  · have ms : x + M256 - y < M256 := by omega
    have hs := Lib.hid (show x + M256 - y + m = x + m - y + M256 by omega)
    have HF := Lib.hid (show (x + m - y) % m = x + m - y from Nat.mod_eq_of_lt (by omega))
    rw [HF.out]
    go_enter Tryd.func23, Tryd.ntmps23
    go_wp2_with (first
      | ((with_reducible change wpList _ _ _ (Oper.mk (some 4) _ _ _ _ _ :: _) _ _); refine mBox hM0 _ _ rfl rfl rfl ?_; intro w1 hM1; clear hM0; go_frame)
      | ((with_reducible change wpList _ _ _ (Oper.mk (some 5) _ _ _ _ _ :: _) _ _); refine mBox hM1 _ _ rfl rfl rfl ?_; intro w2 hM2; clear hM1; go_frame)
      | ((with_reducible change wpList _ _ _ (Oper.mk (some 6) _ _ _ _ _ :: _) _ _); refine mAlloc hM2 rfl rfl ?_; intro w3 hM3; clear hM2; go_frame))
    refine region_sym (fun _ => 10) [.val (.pointer (some ⟨g, 0, none⟩)), .val (.agg (wcells a)), .val (.agg (wcells x)), .val (.pointer (some ⟨g, 0, none⟩)), .val (.agg (wcells b)), .val (.agg (wcells y)), .val (.tuple #[.agg (wcells (x + M256 - y)), .bool true]), .val (.tuple #[.agg (wcells (x + M256 - y)), .bool true]), .val (.agg (wcells (x + M256 - y))), .val (.bool true), .fresh w3.heap.size 25 4, .hold w3.heap.size 25 (wcells (x + M256 - y)), .val (.bool true)] [.val (.pointer (some ⟨g, 0, none⟩)), .val (.agg (wcells a)), .val (.agg (wcells x)), .val (.pointer (some ⟨g, 0, none⟩)), .val (.agg (wcells b)), .val (.agg (wcells y)), .val (.tuple #[.agg (wcells (x + M256 - y)), .bool true]), .val (.tuple #[.agg (wcells (x + M256 - y)), .bool true]), .val (.agg (wcells (x + M256 - y))), .val (.bool true), .hold w3.heap.size 25 (wcells (x + M256 - y)), .val undef, .val (.bool true)] (by kernel_rfl) (by kernel_rfl) rfl rfl (steps_all ⟨?_, ?_, ?_, ?_, ?_, ?_, ?_, ?_, ?_, ?_, ?_, ?_, ?_, trivial⟩) ?_
    · intro A W hsz hoth hbel hdep
      exact kMoveV _ (.pointer (some ⟨g, 0, none⟩)) rfl rfl ((hoth 0 (free2_of (by kernel_rfl))).trans rfl) (symV hbel hsz rfl rfl (show 10 < 30 by decide) (Below.refl _ _) rfl)
    · intro A W hsz hoth hbel hdep
      exact kLoadRow _ _ _ _ _ _ rfl rfl ((hoth 4 (free2_of (by kernel_rfl))).trans rfl) ((hM3.get 2 rfl).below hbel (hM3.get 2 rfl).lt) Tryd.underlying25 rfl (info_WideC _) (symV hbel hsz rfl rfl (show 11 < 30 by decide) (Below.refl _ _) rfl)
    · intro A W hsz hoth hbel hdep
      refine kCall2 37 _ _ _ _ _ rfl rfl (by kernel_rfl) (by have h := hdep ⟨0, .data⟩ (by simp) rfl; exact h) (by have h := hdep ⟨1, .data⟩ (by simp) rfl; exact h) ?_
      refine (fonce_as hm g ma Hx.out W ((hr.below hM3.below hr.lt).below hbel (hr.below hM3.below hr.lt).lt)).mono ?_
      rintro e r ⟨rfl, hBc⟩
      exact ⟨_, rfl, (symV hbel hsz rfl rfl (show 12 < 30 by decide) hBc rfl)⟩
    · intro A W hsz hoth hbel hdep
      exact kMoveV _ (.pointer (some ⟨g, 0, none⟩)) rfl rfl ((hoth 0 (free2_of (by kernel_rfl))).trans rfl) (symV hbel hsz rfl rfl (show 13 < 30 by decide) (Below.refl _ _) rfl)
    · intro A W hsz hoth hbel hdep
      exact kLoadRow _ _ _ _ _ _ rfl rfl ((hoth 5 (free2_of (by kernel_rfl))).trans rfl) ((hM3.get 1 rfl).below hbel (hM3.get 1 rfl).lt) Tryd.underlying25 rfl (info_WideC _) (symV hbel hsz rfl rfl (show 14 < 30 by decide) (Below.refl _ _) rfl)
    · intro A W hsz hoth hbel hdep
      refine kCall2 37 _ _ _ _ _ rfl rfl (by kernel_rfl) (by have h := hdep ⟨3, .data⟩ (by simp) rfl; exact h) (by have h := hdep ⟨4, .data⟩ (by simp) rfl; exact h) ?_
      refine (fonce_as hm g mb Hy.out W ((hr.below hM3.below hr.lt).below hbel (hr.below hM3.below hr.lt).lt)).mono ?_
      rintro e r ⟨rfl, hBc⟩
      exact ⟨_, rfl, (symV hbel hsz rfl rfl (show 15 < 30 by decide) hBc rfl)⟩
    · intro A W hsz hoth hbel hdep
      refine kCall2 38 _ _ _ _ _ rfl rfl (by kernel_rfl) (by have h := hdep ⟨2, .data⟩ (by simp) rfl; exact h) (by have h := hdep ⟨5, .data⟩ (by simp) rfl; exact h) ?_
      refine (wSub_less mx my h W).mono ?_
      rintro e r ⟨rfl, hBc⟩
      exact ⟨_, rfl, (symV hbel hsz rfl rfl (show 16 < 30 by decide) hBc rfl)⟩
    · intro A W hsz hoth hbel hdep
      exact kMoveV _ (.tuple #[.agg (wcells (x + M256 - y)), .bool true]) rfl rfl (by have h := hdep ⟨6, .data⟩ (by simp) rfl; exact h) (symV hbel hsz rfl rfl (show 9 < 30 by decide) (Below.refl _ _) rfl)
    · intro A W hsz hoth hbel hdep
      exact kExtract _ _ _ (.agg (wcells (x + M256 - y))) rfl rfl (by have h := hdep ⟨7, .data⟩ (by simp) rfl; exact h) rfl (symV hbel hsz rfl rfl (show 17 < 30 by decide) (Below.refl _ _) rfl)
    · intro A W hsz hoth hbel hdep
      exact kExtract _ _ _ (.bool true) rfl rfl (by have h := hdep ⟨7, .data⟩ (by simp) rfl; exact h) rfl (symV hbel hsz rfl rfl (show 18 < 30 by decide) (Below.refl _ _) rfl)
    · intro A W hsz hoth hbel hdep
      refine kAllocL _ _ rfl rfl zero_Wide ?_
      intro r hR hl hBc
      exact (symV hbel hsz rfl rfl (show 7 < 30 by decide) hBc ⟨_, _, rfl, hbel.size, wcells_size _, hR⟩)
    · intro A W hsz hoth hbel hdep
      obtain ⟨g, cs, d8, hg, hcs, hR⟩ : ∃ g cs, A.tmps.getD 7 undef = .pointer (some ⟨g, 0, none⟩) ∧ w3.heap.size ≤ g ∧ cs.size = 4 ∧ Row W g 25 cs := (by have h := hdep ⟨10, .data⟩ (by simp) rfl; exact h)
      refine kStoreRow _ _ _ _ _ _ (wcells (x + M256 - y)) rfl rfl d8 (by have h := hdep ⟨8, .data⟩ (by simp) rfl; exact h) hR (info_WideC _) (by rw [wcells_size, hcs]) (wcells_one _) ?_
      intro r hR2 hW
      exact symW hbel rfl hW hg hR2 (by simp only [Singles, and_self, wcells_size]) ⟨g, d8, hg, hR2⟩
    · intro A W hsz hoth hbel hdep
      exact kAssignV _ (.bool true) rfl rfl (by have h := hdep ⟨9, .data⟩ (by simp) rfl; exact h) (symV hbel hsz rfl rfl (show 8 < 30 by decide) (Below.refl _ _) rfl)
    intro w4 hB4
    dsimp only [AllV]
    intro g4 hg4 hR4
    dsimp only [putAll]
    go_frame
    have hM4 := hM3.add hB4 hg4 hR4; clear hB4 hg4 hR4 hM3
    go_wp2_with fail
    refine region_mixA [(1, true), (2, true), (3, true), (4, true), (0, false), (5, false), (6, true), (7, true), (8, true), (9, false)] (fun w' => Row w' (g) 54 (wcells (m)) ∧ True) (by kernel_rfl) (by kernel_rfl) rfl ?_
    intro w5 hBd hsd
    have hM5 := hM4.on hBd; clear hBd hsd hM4
    simp only [List.map_cons, List.map_nil]
    dsimp only [List.filterMap, List.getElem?_cons_zero, List.getElem?_cons_succ]
    refine mixMove _ (.pointer (some ⟨g, 0, none⟩)) (by exact ⟨hr.below hM5.below hr.lt, trivial⟩) rfl rfl rfl ?_; go_frame
    refine mixNilCheck _ _ (by exact ⟨hr.below hM5.below hr.lt, trivial⟩) rfl rfl rfl ?_; go_frame
    refine mixFieldRing _ _ (by exact ⟨hr.below hM5.below hr.lt, trivial⟩) rfl rfl rfl ?_; go_frame
    refine mixLoadRow _ _ _ _ _ _ (by exact ⟨hr.below hM5.below hr.lt, trivial⟩) rfl rfl rfl (fun _ h => h.1) Tryd.underlying25 rfl (info_WideC _) ?_; go_frame
    refine mixLoud ?_
    refine mLoad hM5 0 _ _ _ rfl rfl rfl rfl ?_
    refine mixOn ⟨⟨hr.below hM5.below hr.lt, trivial⟩, ?_⟩
    go_frame
    refine mixLoud ?_
    refine kCall2 35 _ _ _ _ _ rfl rfl (by kernel_rfl) rfl rfl ?_
    refine (wAdd_over ms hm.lt hs.out _).mono ?_
    rintro e w6 ⟨rfl, hB6⟩
    have hM6 := hM5.on hB6; clear hB6 hM5
    refine ⟨_, rfl, mixOn ⟨⟨hr.below hM6.below hr.lt, trivial⟩, ?_⟩⟩
    (try unfold WV); go_frame
    refine mixMove _ (.tuple #[.agg (wcells (x + m - y)), .bool true]) (by exact ⟨hr.below hM6.below hr.lt, trivial⟩) rfl rfl rfl ?_; go_frame
    refine mixExtract _ _ _ (.agg (wcells (x + m - y))) (by exact ⟨hr.below hM6.below hr.lt, trivial⟩) rfl rfl rfl rfl ?_; go_frame
    refine mixExtract _ _ _ (.bool true) (by exact ⟨hr.below hM6.below hr.lt, trivial⟩) rfl rfl rfl rfl ?_; go_frame
    refine mixLoud ?_
    refine mStoreAt hM6 0 _ _ _ _ (x + m - y) rfl rfl rfl rfl rfl ?_
    intro w7 hM7; dsimp only [List.set] at hM7; clear hM6
    refine mixOn ⟨⟨hr.below hM7.below hr.lt, trivial⟩, ?_⟩
    go_frame
    refine mixDone ?_
    go_wp2_with (first
      | ((with_reducible change wpList _ _ _ (Oper.mk (some 29) _ _ _ _ _ :: _) _ _); refine mLoad hM7 0 _ _ _ rfl rfl rfl rfl ?_; go_frame)
      | ((with_reducible change wpList _ _ _ (Oper.mk none (Op.store _ (Operand.tmp 6) (Operand.tmp 29)) _ _ _ _ :: _) _ _); refine mStoreAt hM7 1 _ _ _ _ (x + m - y) rfl rfl rfl rfl rfl ?_; intro w8 hM8; dsimp only [List.set] at hM8; clear hM7; go_frame))
    exact result_row Tryd.results23 rfl (hM8.get 1 rfl) Tryd.underlying25 rfl (info_WideC _) rfl ⟨rfl, hM8.below⟩
  · have hs := Lib.hid (show x = x - y + y by omega)
    have HF := Lib.hid (show (x + m - y) % m = x - y by rw [show x + m - y = x - y + m by omega, Nat.add_mod_right, Nat.mod_eq_of_lt (by omega)])
    rw [HF.out]
    go_enter Tryd.func23, Tryd.ntmps23
    go_wp2_with (first
      | ((with_reducible change wpList _ _ _ (Oper.mk (some 4) _ _ _ _ _ :: _) _ _); refine mBox hM0 _ _ rfl rfl rfl ?_; intro w1 hM1; clear hM0; go_frame)
      | ((with_reducible change wpList _ _ _ (Oper.mk (some 5) _ _ _ _ _ :: _) _ _); refine mBox hM1 _ _ rfl rfl rfl ?_; intro w2 hM2; clear hM1; go_frame)
      | ((with_reducible change wpList _ _ _ (Oper.mk (some 6) _ _ _ _ _ :: _) _ _); refine mAlloc hM2 rfl rfl ?_; intro w3 hM3; clear hM2; go_frame))
    refine region_sym (fun _ => 10) [.val (.pointer (some ⟨g, 0, none⟩)), .val (.agg (wcells a)), .val (.agg (wcells x)), .val (.pointer (some ⟨g, 0, none⟩)), .val (.agg (wcells b)), .val (.agg (wcells y)), .val (.tuple #[.agg (wcells (x - y)), .bool false]), .val (.tuple #[.agg (wcells (x - y)), .bool false]), .val (.agg (wcells (x - y))), .val (.bool false), .fresh w3.heap.size 25 4, .hold w3.heap.size 25 (wcells (x - y)), .val (.bool false)] [.val (.pointer (some ⟨g, 0, none⟩)), .val (.agg (wcells a)), .val (.agg (wcells x)), .val (.pointer (some ⟨g, 0, none⟩)), .val (.agg (wcells b)), .val (.agg (wcells y)), .val (.tuple #[.agg (wcells (x - y)), .bool false]), .val (.tuple #[.agg (wcells (x - y)), .bool false]), .val (.agg (wcells (x - y))), .val (.bool false), .hold w3.heap.size 25 (wcells (x - y)), .val undef, .val (.bool false)] (by kernel_rfl) (by kernel_rfl) rfl rfl (steps_all ⟨?_, ?_, ?_, ?_, ?_, ?_, ?_, ?_, ?_, ?_, ?_, ?_, ?_, trivial⟩) ?_
    · intro A W hsz hoth hbel hdep
      exact kMoveV _ (.pointer (some ⟨g, 0, none⟩)) rfl rfl ((hoth 0 (free2_of (by kernel_rfl))).trans rfl) (symV hbel hsz rfl rfl (show 10 < 30 by decide) (Below.refl _ _) rfl)
    · intro A W hsz hoth hbel hdep
      exact kLoadRow _ _ _ _ _ _ rfl rfl ((hoth 4 (free2_of (by kernel_rfl))).trans rfl) ((hM3.get 2 rfl).below hbel (hM3.get 2 rfl).lt) Tryd.underlying25 rfl (info_WideC _) (symV hbel hsz rfl rfl (show 11 < 30 by decide) (Below.refl _ _) rfl)
    · intro A W hsz hoth hbel hdep
      refine kCall2 37 _ _ _ _ _ rfl rfl (by kernel_rfl) (by have h := hdep ⟨0, .data⟩ (by simp) rfl; exact h) (by have h := hdep ⟨1, .data⟩ (by simp) rfl; exact h) ?_
      refine (fonce_as hm g ma Hx.out W ((hr.below hM3.below hr.lt).below hbel (hr.below hM3.below hr.lt).lt)).mono ?_
      rintro e r ⟨rfl, hBc⟩
      exact ⟨_, rfl, (symV hbel hsz rfl rfl (show 12 < 30 by decide) hBc rfl)⟩
    · intro A W hsz hoth hbel hdep
      exact kMoveV _ (.pointer (some ⟨g, 0, none⟩)) rfl rfl ((hoth 0 (free2_of (by kernel_rfl))).trans rfl) (symV hbel hsz rfl rfl (show 13 < 30 by decide) (Below.refl _ _) rfl)
    · intro A W hsz hoth hbel hdep
      exact kLoadRow _ _ _ _ _ _ rfl rfl ((hoth 5 (free2_of (by kernel_rfl))).trans rfl) ((hM3.get 1 rfl).below hbel (hM3.get 1 rfl).lt) Tryd.underlying25 rfl (info_WideC _) (symV hbel hsz rfl rfl (show 14 < 30 by decide) (Below.refl _ _) rfl)
    · intro A W hsz hoth hbel hdep
      refine kCall2 37 _ _ _ _ _ rfl rfl (by kernel_rfl) (by have h := hdep ⟨3, .data⟩ (by simp) rfl; exact h) (by have h := hdep ⟨4, .data⟩ (by simp) rfl; exact h) ?_
      refine (fonce_as hm g mb Hy.out W ((hr.below hM3.below hr.lt).below hbel (hr.below hM3.below hr.lt).lt)).mono ?_
      rintro e r ⟨rfl, hBc⟩
      exact ⟨_, rfl, (symV hbel hsz rfl rfl (show 15 < 30 by decide) hBc rfl)⟩
    · intro A W hsz hoth hbel hdep
      refine kCall2 38 _ _ _ _ _ rfl rfl (by kernel_rfl) (by have h := hdep ⟨2, .data⟩ (by simp) rfl; exact h) (by have h := hdep ⟨5, .data⟩ (by simp) rfl; exact h) ?_
      refine (wSub_fits mx my hs.out W).mono ?_
      rintro e r ⟨rfl, hBc⟩
      exact ⟨_, rfl, (symV hbel hsz rfl rfl (show 16 < 30 by decide) hBc rfl)⟩
    · intro A W hsz hoth hbel hdep
      exact kMoveV _ (.tuple #[.agg (wcells (x - y)), .bool false]) rfl rfl (by have h := hdep ⟨6, .data⟩ (by simp) rfl; exact h) (symV hbel hsz rfl rfl (show 9 < 30 by decide) (Below.refl _ _) rfl)
    · intro A W hsz hoth hbel hdep
      exact kExtract _ _ _ (.agg (wcells (x - y))) rfl rfl (by have h := hdep ⟨7, .data⟩ (by simp) rfl; exact h) rfl (symV hbel hsz rfl rfl (show 17 < 30 by decide) (Below.refl _ _) rfl)
    · intro A W hsz hoth hbel hdep
      exact kExtract _ _ _ (.bool false) rfl rfl (by have h := hdep ⟨7, .data⟩ (by simp) rfl; exact h) rfl (symV hbel hsz rfl rfl (show 18 < 30 by decide) (Below.refl _ _) rfl)
    · intro A W hsz hoth hbel hdep
      refine kAllocL _ _ rfl rfl zero_Wide ?_
      intro r hR hl hBc
      exact (symV hbel hsz rfl rfl (show 7 < 30 by decide) hBc ⟨_, _, rfl, hbel.size, wcells_size _, hR⟩)
    · intro A W hsz hoth hbel hdep
      obtain ⟨g, cs, d8, hg, hcs, hR⟩ : ∃ g cs, A.tmps.getD 7 undef = .pointer (some ⟨g, 0, none⟩) ∧ w3.heap.size ≤ g ∧ cs.size = 4 ∧ Row W g 25 cs := (by have h := hdep ⟨10, .data⟩ (by simp) rfl; exact h)
      refine kStoreRow _ _ _ _ _ _ (wcells (x - y)) rfl rfl d8 (by have h := hdep ⟨8, .data⟩ (by simp) rfl; exact h) hR (info_WideC _) (by rw [wcells_size, hcs]) (wcells_one _) ?_
      intro r hR2 hW
      exact symW hbel rfl hW hg hR2 (by simp only [Singles, and_self, wcells_size]) ⟨g, d8, hg, hR2⟩
    · intro A W hsz hoth hbel hdep
      exact kAssignV _ (.bool false) rfl rfl (by have h := hdep ⟨9, .data⟩ (by simp) rfl; exact h) (symV hbel hsz rfl rfl (show 8 < 30 by decide) (Below.refl _ _) rfl)
    intro w4 hB4
    dsimp only [AllV]
    intro g4 hg4 hR4
    dsimp only [putAll]
    go_frame
    have hM4 := hM3.add hB4 hg4 hR4; clear hB4 hg4 hR4 hM3
    go_wp2_with (first
      | ((with_reducible change wpList _ _ _ (Oper.mk (some 29) _ _ _ _ _ :: _) _ _); refine mLoad hM4 0 _ _ _ rfl rfl rfl rfl ?_; go_frame)
      | ((with_reducible change wpList _ _ _ (Oper.mk none (Op.store _ (Operand.tmp 6) (Operand.tmp 29)) _ _ _ _ :: _) _ _); refine mStoreAt hM4 1 _ _ _ _ (x - y) rfl rfl rfl rfl rfl ?_; intro w5 hM5; dsimp only [List.set] at hM5; clear hM4; go_frame))
    exact result_row Tryd.results23 rfl (hM5.get 1 rfl) Tryd.underlying25 rfl (info_WideC _) rfl ⟨rfl, hM5.below⟩
set_option maxRecDepth 100000 in
set_option maxHeartbeats 4000000 in
theorem fMul_any {m : Nat} (hm : Modu m) (a : Nat) (b : Nat) (g : Nat) (ma : a < M256) (mb : b < M256) (w : World) (hr : Row w g 54 (wcells m)) :
    Calls Tryd.prog 25 #[.pointer (some ⟨g, 0, none⟩), WV a, WV b] w fun e w' => e = .returned (WV (a * b % m)) ∧ Below w.heap.size w w' := by
  obtain ⟨p, Hp⟩ : ∃ p, Hid (p = a * b % M256) := ⟨_, Lib.hid rfl⟩
  obtain ⟨q, Hq⟩ : ∃ q, Hid (q = a * b / M256) := ⟨_, Lib.hid rfl⟩
  obtain ⟨x, Hx⟩ : ∃ x, Hid (a * b % m = x) := ⟨_, Lib.hid rfl⟩
  have mp : p < M256 := by rw [Hp.out]; exact Nat.mod_lt _ M256_pos
  have mq : q < M256 := by rw [Hq.out]; exact Nat.div_lt_of_lt_mul (Nat.mul_lt_mul'' ma mb)
  have HF := Lib.hid (show (p + q * M256) % m = x by
    have h := fold_parts (a * b) 0
    rw [Nat.zero_add, Nat.zero_add] at h
    rw [Hp.out, Hq.out, h, Hx.out])
  rw [Hx.out]
  have hM0 := mem_nil w
  unfold WV
  go_enter Tryd.func25, Tryd.ntmps25
  go_wp2_with (first
    | ((with_reducible change wpList _ _ _ (Oper.mk (some 4) _ _ _ _ _ :: _) _ _); refine mBox hM0 _ _ rfl rfl rfl ?_; intro w1 hM1; clear hM0; go_frame)
    | ((with_reducible change wpList _ _ _ (Oper.mk (some 5) _ _ _ _ _ :: _) _ _); refine mBox hM1 _ _ rfl rfl rfl ?_; intro w2 hM2; clear hM1; go_frame)
    | ((with_reducible change wpList _ _ _ (Oper.mk (some 6) _ _ _ _ _ :: _) _ _); refine mAlloc hM2 rfl rfl ?_; intro w3 hM3; clear hM2; go_frame)
    | ((with_reducible change wpList _ _ _ (Oper.mk (some 8) _ _ _ _ _ :: _) _ _); refine mLoad hM3 2 _ _ _ rfl rfl rfl rfl ?_; go_frame)
    | ((with_reducible change wpList _ _ _ (Oper.mk (some 9) _ _ _ _ _ :: _) _ _); refine mLoad hM3 1 _ _ _ rfl rfl rfl rfl ?_; go_frame)
    | (go_at_call 42; (with_reducible change Calls _ _ #[Value.agg (wcells a), Value.agg (wcells b)] _ _); refine (wMul_parts a b p q ma mb Hp.out Hq.out _).mono ?_; rintro e w4 ⟨rfl, hB4⟩; have hM4 := hM3.on hB4; clear hB4 hM3; (try unfold WV); go_frame)
    | (go_at_call 30; (with_reducible change Calls _ _ #[Value.pointer (some ⟨g, 0, none⟩), Value.agg (wcells p), Value.agg (wcells q)] _ _); refine (fFold_as hm g mp mq HF.out _ (hr.below hM4.below hr.lt)).mono ?_; rintro e w5 ⟨rfl, hB5⟩; have hM5 := hM4.on hB5; clear hB5 hM4; (try unfold WV); go_frame)
    | ((with_reducible change wpList _ _ _ (Oper.mk none (Op.store _ (Operand.tmp 6) (Operand.tmp 13)) _ _ _ _ :: _) _ _); refine mStoreAt hM5 0 _ _ _ _ (x) rfl rfl rfl rfl rfl ?_; intro w6 hM6; dsimp only [List.set] at hM6; clear hM5; go_frame))
  exact result_row Tryd.results25 rfl (hM6.get 0 rfl) Tryd.underlying25 rfl (info_WideC _) rfl ⟨rfl, hM6.below⟩
set_option maxRecDepth 100000 in
set_option maxHeartbeats 4000000 in
theorem fIn_any {m : Nat} (hm : Modu m) (a : Nat) (g : Nat) (ma : a < M256) (w : World) (hr : Row w g 54 (wcells m)) :
    Calls Tryd.prog 27 #[.pointer (some ⟨g, 0, none⟩), WV a] w fun e w' => e = .returned (.bool (decide (a < m))) ∧ Below w.heap.size w w' := by
  have hM0 := mem_nil w
  unfold WV
  go_enter Tryd.func27, Tryd.ntmps27
  go_wp2_with (first
    | ((with_reducible change wpList _ _ _ (Oper.mk (some 3) _ _ _ _ _ :: _) _ _); refine mBox hM0 _ _ rfl rfl rfl ?_; intro w1 hM1; clear hM0; go_frame))
  refine region_sym (fun _ => 0) [.val (.agg (wcells a)), .val (.pointer (some ⟨g, 0, none⟩)), .val (.pointer (some ⟨g, 0, none⟩)), .val (.pointer (some ⟨g, 0, none⟩)), .val (.agg (wcells m)), .val (.bool (decide (a < m))), .val (.bool (decide (a < m)))] [.val (.agg (wcells a)), .val (.pointer (some ⟨g, 0, none⟩)), .val (.pointer (some ⟨g, 0, none⟩)), .val (.pointer (some ⟨g, 0, none⟩)), .val (.agg (wcells m)), .val (.bool (decide (a < m))), .val (.bool (decide (a < m)))] (by kernel_rfl) (by kernel_rfl) rfl rfl (steps_all ⟨?_, ?_, ?_, ?_, ?_, ?_, ?_, trivial⟩) ?_
  · intro A W hsz hoth hbel hdep
    exact kLoadRow _ _ _ _ _ _ rfl rfl ((hoth 3 (free2_of (by kernel_rfl))).trans rfl) ((hM1.get 0 rfl).below hbel (hM1.get 0 rfl).lt) Tryd.underlying25 rfl (info_WideC _) (symV hbel hsz rfl rfl (show 5 < 11 by decide) (Below.refl _ _) rfl)
  · intro A W hsz hoth hbel hdep
    exact kMoveV _ (.pointer (some ⟨g, 0, none⟩)) rfl rfl ((hoth 0 (free2_of (by kernel_rfl))).trans rfl) (symV hbel hsz rfl rfl (show 6 < 11 by decide) (Below.refl _ _) rfl)
  · intro A W hsz hoth hbel hdep
    exact kNilCheck _ _ rfl rfl (by have h := hdep ⟨1, .data⟩ (by simp) rfl; exact h) (symV hbel hsz rfl rfl (show 7 < 11 by decide) (Below.refl _ _) rfl)
  · intro A W hsz hoth hbel hdep
    exact kFieldRing _ _ rfl rfl (by have h := hdep ⟨2, .data⟩ (by simp) rfl; exact h) (symV hbel hsz rfl rfl (show 8 < 11 by decide) (Below.refl _ _) rfl)
  · intro A W hsz hoth hbel hdep
    exact kLoadRow _ _ _ _ _ _ rfl rfl (by have h := hdep ⟨3, .data⟩ (by simp) rfl; exact h) ((hr.below hM1.below hr.lt).below hbel (hr.below hM1.below hr.lt).lt) Tryd.underlying25 rfl (info_WideC _) (symV hbel hsz rfl rfl (show 9 < 11 by decide) (Below.refl _ _) rfl)
  · intro A W hsz hoth hbel hdep
    refine kCall2 44 _ _ _ _ _ rfl rfl (by kernel_rfl) (by have h := hdep ⟨0, .data⟩ (by simp) rfl; exact h) (by have h := hdep ⟨4, .data⟩ (by simp) rfl; exact h) ?_
    refine (wLess_any a m ma hm.lt W).mono ?_
    rintro e r ⟨rfl, hBc⟩
    exact ⟨_, rfl, (symV hbel hsz rfl rfl (show 10 < 11 by decide) hBc rfl)⟩
  · intro A W hsz hoth hbel hdep
    exact kAssignV _ (.bool (decide (a < m))) rfl rfl (by have h := hdep ⟨5, .data⟩ (by simp) rfl; exact h) (symV hbel hsz rfl rfl (show 4 < 11 by decide) (Below.refl _ _) rfl)
  intro w2 hB2
  dsimp only [AllV]
  dsimp only [putAll]
  go_frame
  have hM2 := hM1.on hB2; clear hB2 hM1
  go_wp2_with fail
  go_ret
  exact ⟨rfl, hM2.below⟩
set_option maxRecDepth 100000 in
set_option maxHeartbeats 4000000 in
theorem fModulus_any {m : Nat} (_hm : Modu m) (g : Nat) (w : World) (hr : Row w g 54 (wcells m)) :
    Calls Tryd.prog 13 #[.pointer (some ⟨g, 0, none⟩)] w fun e w' => e = .returned (WV m) ∧ Below w.heap.size w w' := by
  have hM0 := mem_nil w
  unfold WV
  go_enter Tryd.func13, Tryd.ntmps13
  go_wp2_with (first
    | ((with_reducible change wpList _ _ _ (Oper.mk (some 2) _ _ _ _ _ :: _) _ _); refine mAlloc hM0 rfl rfl ?_; intro w1 hM1; clear hM0; go_frame)
    | ((with_reducible change wpList _ _ _ (Oper.mk (some 5) _ _ _ _ _ :: _) _ _); refine kFieldRing _ _ rfl rfl rfl ?_; go_frame)
    | ((with_reducible change wpList _ _ _ (Oper.mk (some 6) _ _ _ _ _ :: _) _ _); refine kLoadRow _ _ _ _ _ _ rfl rfl rfl (hr.below hM1.below hr.lt) Tryd.underlying25 rfl (info_WideC _) ?_; go_frame)
    | ((with_reducible change wpList _ _ _ (Oper.mk none (Op.store _ (Operand.tmp 2) (Operand.tmp 6)) _ _ _ _ :: _) _ _); refine mStoreAt hM1 0 _ _ _ _ (m) rfl rfl rfl rfl rfl ?_; intro w2 hM2; dsimp only [List.set] at hM2; clear hM1; go_frame))
  exact result_row Tryd.results13 rfl (hM2.get 0 rfl) Tryd.underlying25 rfl (info_WideC _) rfl ⟨rfl, hM2.below⟩
end Go.Proofs.YtajpdmcbdekpbaaDoor
