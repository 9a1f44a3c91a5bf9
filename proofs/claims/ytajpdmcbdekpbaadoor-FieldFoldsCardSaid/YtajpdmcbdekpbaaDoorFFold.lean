/-
  The walk of field's Fold: low and high times 2 to the power of 256, modulo the ring's modulus.
-/
import Derived.Test.YtajpdmcbdekpbaaDoorFOnce
import Derived.Deep.LoopGhost
namespace Go.Proofs.YtajpdmcbdekpbaaDoor
open Go Go.RowKit

theorem wSub_gap {m gp : Nat} (hm : Modu m) (Hgp : Hid (gp = M256 - m)) (w : World) :
    Calls Tryd.prog 38 #[WV 0, WV m] w fun e w' => e = .returned (.tuple #[WV gp, .bool (decide (0 < m))]) ∧ Below w.heap.size w w' := by
  have h := wSub_any 0 m M256_pos hm.lt w
  rwa [show 0 + M256 - m = gp by rw [Hgp.out, Nat.zero_add]] at h
/-- one round: what is high comes down -/
theorem fold_round {m gp lo hi : Nat} (hm : Modu m) (Hgp : gp = M256 - m) (mhi : hi < M256) (hne : hi ≠ 0) :
    (lo + hi * gp) % m = (lo + hi * M256) % m ∧ lo + hi * gp < lo + hi * M256 ∧ hi * gp / M256 + 1 < M256 ∧ hi * gp / M256 < M256 := by
  have h1 := hm.lt; have h2 := hm.gt
  have e : hi * M256 = hi * gp + m * hi := by rw [Hgp, Nat.mul_comm m hi, ← Nat.mul_add, Nat.sub_add_cancel (by omega)]
  refine ⟨?_, ?_, ?_, ?_⟩
  · rw [e, ← Nat.add_assoc, Nat.add_mul_mod_self_left]
  · have : 0 < m * hi := Nat.mul_pos hm.pos (by omega)
    omega
  · have : hi * gp / M256 ≤ gp := by
      refine Nat.div_le_of_le_mul ?_
      exact Nat.mul_le_mul_right _ (by omega)
    omega
  · have : hi * gp / M256 ≤ gp := by
      refine Nat.div_le_of_le_mul ?_
      exact Nat.mul_le_mul_right _ (by omega)
    omega
theorem fold_parts (x lo : Nat) : lo + x % M256 + x / M256 * M256 = lo + x := by
  have := Nat.mod_add_div x M256; rw [Nat.mul_comm] at this; omega
theorem wMul_parts (y gp p q : Nat) (my : y < M256) (mgp : gp < M256) (hp : p = y * gp % M256) (hq : q = y * gp / M256) (w : World) :
    Calls Tryd.prog 42 #[WV y, WV gp] w fun e w' => e = .returned (.tuple #[WV p, WV q]) ∧ Below w.heap.size w w' := by
  have h := wMul_any y gp my mgp w
  rwa [← WV_mod (y * gp), ← hp, ← hq] at h
theorem wAdd_one (q n1 : Nat) (mq : q < M256) (mn1 : n1 < M256) (h : n1 = 1) (w : World) :
    Calls Tryd.prog 35 #[WV q, WV n1] w fun e w' => e = .returned (.tuple #[WV (q + 1), .bool (decide (M256 ≤ q + n1))]) ∧ Below w.heap.size w w' := by
  have h' := wAdd_any q n1 mq mn1 w
  subst h; exact h'
set_option maxRecDepth 100000 in
set_option maxHeartbeats 4000000 in
theorem fFold_any {m : Nat} (hm : Modu m) (lo : Nat) (hi : Nat) (g : Nat) (mlo : lo < M256) (mhi : hi < M256) (w : World) (hr : Row w g 54 (wcells m)) :
    Calls Tryd.prog 30 #[.pointer (some ⟨g, 0, none⟩), WV lo, WV hi] w fun e w' => e = .returned (WV ((lo + hi * M256) % m)) ∧ Below w.heap.size w w' := by
  obtain ⟨n1, H1⟩ : ∃ n, Hid (n = 1) := ⟨1, Lib.hid rfl⟩
  have h1 : n1 < 18446744073709551616 := by rw [H1.out]; decide
  have mn1 : n1 < M256 := by rw [H1.out]; decide
  have E1 : (1 : Int) = (n1 : Int) := by rw [H1.out]; rfl
  replace E1 := Lib.hid E1
  obtain ⟨gp, Hgp⟩ : ∃ n, Hid (n = M256 - m) := ⟨_, Lib.hid rfl⟩
  have mgp : gp < M256 := by rw [Hgp.out]; have := hm.gt; omega
  have hM0 := mem_nil w
  unfold WV
  go_enter Tryd.func30, Tryd.ntmps30
  go_wp2_with (first
    | ((with_reducible change wpList _ _ _ (Oper.mk (some 4) _ _ _ _ _ :: _) _ _); refine mBox hM0 _ _ rfl rfl rfl ?_; intro w1 hM1; clear hM0; go_frame)
    | ((with_reducible change wpList _ _ _ (Oper.mk (some 5) _ _ _ _ _ :: _) _ _); refine mBox hM1 _ _ rfl rfl rfl ?_; intro w2 hM2; clear hM1; go_frame)
    | ((with_reducible change wpList _ _ _ (Oper.mk (some 6) _ _ _ _ _ :: _) _ _); refine mAlloc hM2 rfl rfl ?_; intro w3 hM3; clear hM2; go_frame)
    | ((with_reducible change wpList _ _ _ (Oper.mk (some 14) _ _ _ _ _ :: _) _ _); refine kBuildW0 rfl rfl ?_; go_frame)
    | ((with_reducible change wpList _ _ _ (Oper.mk (some 7) _ _ _ _ _ :: _) _ _); refine mAlloc hM3 rfl rfl ?_; intro w4 hM4; clear hM3; go_frame)
    | ((with_reducible change wpList _ _ _ (Oper.mk none (Op.store _ (Operand.tmp 7) (Operand.tmp 14)) _ _ _ _ :: _) _ _); refine mStoreAt hM4 0 _ _ _ _ (0) rfl rfl rfl rfl rfl ?_; intro w5 hM5; dsimp only [List.set] at hM5; clear hM4; go_frame))
  refine region_sym (fun _ => 9) [.val (.agg (wcells 0)), .val (.pointer (some ⟨g, 0, none⟩)), .val (.pointer (some ⟨g, 0, none⟩)), .val (.pointer (some ⟨g, 0, none⟩)), .val (.agg (wcells m)), .val (.tuple #[.agg (wcells gp), .bool (decide (0 < m))]), .val (.tuple #[.agg (wcells gp), .bool (decide (0 < m))]), .val (.agg (wcells gp)), .val (.bool (decide (0 < m))), .fresh w5.heap.size 25 4, .hold w5.heap.size 25 (wcells (gp)), .val (.bool (decide (0 < m)))] [.val (.agg (wcells 0)), .val (.pointer (some ⟨g, 0, none⟩)), .val (.pointer (some ⟨g, 0, none⟩)), .val (.pointer (some ⟨g, 0, none⟩)), .val (.agg (wcells m)), .val (.tuple #[.agg (wcells gp), .bool (decide (0 < m))]), .val (.tuple #[.agg (wcells gp), .bool (decide (0 < m))]), .val (.agg (wcells gp)), .val (.bool (decide (0 < m))), .hold w5.heap.size 25 (wcells (gp)), .val undef, .val (.bool (decide (0 < m)))] (by kernel_rfl) (by kernel_rfl) rfl rfl (steps_all ⟨?_, ?_, ?_, ?_, ?_, ?_, ?_, ?_, ?_, ?_, ?_, ?_, trivial⟩) ?_
  · intro A W hsz hoth hbel hdep
    exact kLoadRow _ _ _ _ _ _ rfl rfl ((hoth 7 (free2_of (by kernel_rfl))).trans rfl) ((hM5.get 0 rfl).below hbel (hM5.get 0 rfl).lt) Tryd.underlying25 rfl (info_WideC _) (symV hbel hsz rfl rfl (show 16 < 51 by decide) (Below.refl _ _) rfl)
  · intro A W hsz hoth hbel hdep
    exact kMoveV _ (.pointer (some ⟨g, 0, none⟩)) rfl rfl ((hoth 0 (free2_of (by kernel_rfl))).trans rfl) (symV hbel hsz rfl rfl (show 17 < 51 by decide) (Below.refl _ _) rfl)
  · intro A W hsz hoth hbel hdep
    exact kNilCheck _ _ rfl rfl (by have h := hdep ⟨1, .data⟩ (by simp) rfl; exact h) (symV hbel hsz rfl rfl (show 18 < 51 by decide) (Below.refl _ _) rfl)
  · intro A W hsz hoth hbel hdep
    exact kFieldRing _ _ rfl rfl (by have h := hdep ⟨2, .data⟩ (by simp) rfl; exact h) (symV hbel hsz rfl rfl (show 19 < 51 by decide) (Below.refl _ _) rfl)
  · intro A W hsz hoth hbel hdep
    exact kLoadRow _ _ _ _ _ _ rfl rfl (by have h := hdep ⟨3, .data⟩ (by simp) rfl; exact h) ((hr.below hM5.below hr.lt).below hbel (hr.below hM5.below hr.lt).lt) Tryd.underlying25 rfl (info_WideC _) (symV hbel hsz rfl rfl (show 20 < 51 by decide) (Below.refl _ _) rfl)
  · intro A W hsz hoth hbel hdep
    refine kCall2 38 _ _ _ _ _ rfl rfl (by kernel_rfl) (by have h := hdep ⟨0, .data⟩ (by simp) rfl; exact h) (by have h := hdep ⟨4, .data⟩ (by simp) rfl; exact h) ?_
    refine (wSub_gap hm Hgp W).mono ?_
    rintro e r ⟨rfl, hBc⟩
    exact ⟨_, rfl, (symV hbel hsz rfl rfl (show 21 < 51 by decide) hBc rfl)⟩
  · intro A W hsz hoth hbel hdep
    exact kMoveV _ (.tuple #[.agg (wcells gp), .bool (decide (0 < m))]) rfl rfl (by have h := hdep ⟨5, .data⟩ (by simp) rfl; exact h) (symV hbel hsz rfl rfl (show 15 < 51 by decide) (Below.refl _ _) rfl)
  · intro A W hsz hoth hbel hdep
    exact kExtract _ _ _ (.agg (wcells gp)) rfl rfl (by have h := hdep ⟨6, .data⟩ (by simp) rfl; exact h) rfl (symV hbel hsz rfl rfl (show 22 < 51 by decide) (Below.refl _ _) rfl)
  · intro A W hsz hoth hbel hdep
    exact kExtract _ _ _ (.bool (decide (0 < m))) rfl rfl (by have h := hdep ⟨6, .data⟩ (by simp) rfl; exact h) rfl (symV hbel hsz rfl rfl (show 23 < 51 by decide) (Below.refl _ _) rfl)
  · intro A W hsz hoth hbel hdep
    refine kAllocL _ _ rfl rfl zero_Wide ?_
    intro r hR hl hBc
    exact (symV hbel hsz rfl rfl (show 8 < 51 by decide) hBc ⟨_, _, rfl, hbel.size, wcells_size _, hR⟩)
  · intro A W hsz hoth hbel hdep
    obtain ⟨g, cs, d8, hg, hcs, hR⟩ : ∃ g cs, A.tmps.getD 8 undef = .pointer (some ⟨g, 0, none⟩) ∧ w5.heap.size ≤ g ∧ cs.size = 4 ∧ Row W g 25 cs := (by have h := hdep ⟨9, .data⟩ (by simp) rfl; exact h)
    refine kStoreRow _ _ _ _ _ _ (wcells (gp)) rfl rfl d8 (by have h := hdep ⟨7, .data⟩ (by simp) rfl; exact h) hR (info_WideC _) (by rw [wcells_size, hcs]) (wcells_one _) ?_
    intro r hR2 hW
    exact symW hbel rfl hW hg hR2 (by simp only [Singles, and_self, wcells_size]) ⟨g, d8, hg, hR2⟩
  · intro A W hsz hoth hbel hdep
    exact kAssignV _ (.bool (decide (0 < m))) rfl rfl (by have h := hdep ⟨8, .data⟩ (by simp) rfl; exact h) (symV hbel hsz rfl rfl (show 9 < 51 by decide) (Below.refl _ _) rfl)
  intro w6 hB6
  dsimp only [AllV]
  intro g6 hg6 hR6
  dsimp only [putAll]
  go_frame
  have hM6 := hM5.add hB6 hg6 hR6; clear hB6 hg6 hR6 hM5
  go_wp2_with fail
  obtain ⟨V0, HV0⟩ : ∃ V, Hid (V = lo + hi * M256) := ⟨_, Lib.hid rfl⟩
  go_loopg [] V0 (fun V wr => ∃ x y : Nat, x < M256 ∧ y < M256 ∧ Hid (V = x + y * M256) ∧ Hid (V % m = V0 % m) ∧ Mem w wr [(g6, gp), (w3.heap.size, 0), (w2.heap.size, 0), (w1.heap.size, y), (w.heap.size, x)])
  case atStart => exact ⟨lo, hi, mlo, mhi, HV0, Lib.hid rfl, hM6⟩
  case round =>
    obtain ⟨x, y, mx, my, HV, Hmod, hM0⟩ := hrel
    clear hM6
    by_cases hy : y = 0
    · have D := Lib.hid (show (!decide (y % M256 = 0 % M256)) = false by rw [hy]; simp)
      have Hx := Lib.hid (show wcells (x % m) = wcells ((lo + hi * M256) % m) by rw [← HV0.out, ← Hmod.out, HV.out, hy, Nat.zero_mul, Nat.add_zero])
      clear hy
      go_wp2_with (first
        | ((with_reducible change wpList _ _ _ (Oper.mk (some 24) _ _ _ _ _ :: _) _ _); refine mLoad hM0 3 _ _ _ rfl rfl rfl rfl ?_; go_frame)
        | ((with_reducible change wpList _ _ _ (Oper.mk (some 25) _ _ _ _ _ :: _) _ _); refine mLoad hM0 1 _ _ _ rfl rfl rfl rfl ?_; go_frame)
        | ((with_reducible change wpList _ _ _ (Oper.mk (some 26) _ _ _ _ _ :: _) _ _); refine kNeqW _ _ _ (y) (0) false rfl rfl rfl rfl (D.out) ?_; go_frame)
        | ((with_reducible change wpList _ _ _ (Oper.mk (some 49) _ _ _ _ _ :: _) _ _); refine mLoad hM0 4 _ _ _ rfl rfl rfl rfl ?_; go_frame)
        | (go_at_call 37; (with_reducible change Calls _ _ #[Value.pointer (some ⟨g, 0, none⟩), Value.agg (wcells x)] _ _); refine (fonce_any hm x g mx _ (hr.below hM0.below hr.lt)).mono ?_; rintro e w101 ⟨rfl, hB101⟩; have hM101 := hM0.on hB101; clear hB101 hM0; (try unfold WV); go_frame)
        | ((with_reducible change wpList _ _ _ (Oper.mk none (Op.store _ (Operand.tmp 6) (Operand.tmp 50)) _ _ _ _ :: _) _ _); refine mStoreAt hM101 2 _ _ _ _ (x % m) rfl rfl rfl rfl rfl ?_; intro w102 hM102; dsimp only [List.set] at hM102; clear hM101; go_frame))
      exact result_row Tryd.results30 rfl (hM102.get 2 rfl) Tryd.underlying25 rfl (info_WideC _) rfl ⟨by rw [Hx.out], hM102.below⟩
    · have D := Lib.hid (show (!decide (y % M256 = 0 % M256)) = true by rw [Nat.mod_eq_of_lt my, Nat.zero_mod]; simp [hy])
      obtain ⟨q1, q2, q3, q4⟩ := fold_round (lo := x) hm Hgp.out my hy
      obtain ⟨p, Hp⟩ : ∃ p, Hid (p = y * gp % M256) := ⟨_, Lib.hid rfl⟩
      obtain ⟨q, Hq⟩ : ∃ q, Hid (q = y * gp / M256) := ⟨_, Lib.hid rfl⟩
      have mp : p < M256 := by rw [Hp.out]; exact Nat.mod_lt _ M256_pos
      have mq : q < M256 := by rw [Hq.out]; exact q4
      have HW := Lib.hid (show x + p + q * M256 = x + y * gp by rw [Hp.out, Hq.out]; exact fold_parts _ _)
      have Hq3 := Lib.hid (show q + 1 < M256 by rw [Hq.out]; exact q3)
      replace q1 := Lib.hid q1; replace q2 := Lib.hid q2
      clear q3 q4 hy
      go_wp2_with (first
        | ((with_reducible change wpList _ _ _ (Oper.mk (some 24) _ _ _ _ _ :: _) _ _); refine mLoad hM0 3 _ _ _ rfl rfl rfl rfl ?_; go_frame)
        | ((with_reducible change wpList _ _ _ (Oper.mk (some 25) _ _ _ _ _ :: _) _ _); refine mLoad hM0 1 _ _ _ rfl rfl rfl rfl ?_; go_frame)
        | ((with_reducible change wpList _ _ _ (Oper.mk (some 26) _ _ _ _ _ :: _) _ _); refine kNeqW _ _ _ (y) (0) true rfl rfl rfl rfl (D.out) ?_; go_frame)
        | ((with_reducible change wpList _ _ _ (Oper.mk (some 28) _ _ _ _ _ :: _) _ _); refine mLoad hM0 3 _ _ _ rfl rfl rfl rfl ?_; go_frame)
        | ((with_reducible change wpList _ _ _ (Oper.mk (some 29) _ _ _ _ _ :: _) _ _); refine mLoad hM0 0 _ _ _ rfl rfl rfl rfl ?_; go_frame)
        | (go_at_call 42; (with_reducible change Calls _ _ #[Value.agg (wcells y), Value.agg (wcells gp)] _ _); refine (wMul_parts y gp p q my mgp Hp.out Hq.out _).mono ?_; rintro e w101 ⟨rfl, hB101⟩; have hM101 := hM0.on hB101; clear hB101 hM0; (try unfold WV); go_frame)
        | ((with_reducible change wpList _ _ _ (Oper.mk (some 10) _ _ _ _ _ :: _) _ _); refine mAlloc hM101 rfl rfl ?_; intro w102 hM102; clear hM101; go_frame)
        | ((with_reducible change wpList _ _ _ (Oper.mk (some 11) _ _ _ _ _ :: _) _ _); refine mAlloc hM102 rfl rfl ?_; intro w103 hM103; clear hM102; go_frame)
        | ((with_reducible change wpList _ _ _ (Oper.mk none (Op.store _ (Operand.tmp 10) (Operand.tmp 31)) _ _ _ _ :: _) _ _); refine mStoreAt hM103 1 _ _ _ _ (p) rfl rfl rfl rfl rfl ?_; intro w104 hM104; dsimp only [List.set] at hM104; clear hM103; go_frame)
        | ((with_reducible change wpList _ _ _ (Oper.mk none (Op.store _ (Operand.tmp 11) (Operand.tmp 32)) _ _ _ _ :: _) _ _); refine mStoreAt hM104 0 _ _ _ _ (q) rfl rfl rfl rfl rfl ?_; intro w105 hM105; dsimp only [List.set] at hM105; clear hM104; go_frame)
        | ((with_reducible change wpList _ _ _ (Oper.mk (some 34) _ _ _ _ _ :: _) _ _); refine mLoad hM105 6 _ _ _ rfl rfl rfl rfl ?_; go_frame)
        | ((with_reducible change wpList _ _ _ (Oper.mk (some 35) _ _ _ _ _ :: _) _ _); refine mLoad hM105 1 _ _ _ rfl rfl rfl rfl ?_; go_frame)
        | (go_at_call 35; (with_reducible change Calls _ _ #[Value.agg (wcells x), Value.agg (wcells p)] _ _); refine (wAdd_any x p mx mp _).mono ?_; rintro e w106 ⟨rfl, hB106⟩; have hM106 := hM105.on hB106; clear hB106 hM105; (try unfold WV); go_frame)
        | ((with_reducible change wpList _ _ _ (Oper.mk (some 12) _ _ _ _ _ :: _) _ _); refine mAlloc hM106 rfl rfl ?_; intro w107 hM107; clear hM106; go_frame)
        | ((with_reducible change wpList _ _ _ (Oper.mk none (Op.store _ (Operand.tmp 12) (Operand.tmp 37)) _ _ _ _ :: _) _ _); refine mStoreAt hM107 0 _ _ _ _ (x + p) rfl rfl rfl rfl rfl ?_; intro w108 hM108; dsimp only [List.set] at hM108; clear hM107; go_frame))
      by_cases hmore : M256 ≤ x + p
      · have hd : decide (M256 ≤ x + p) = true := by simpa using hmore
        rw [hd]
        go_wp2_with fail
        refine region_mixP [(0, true), (1, true), (2, false)] (fun w' => Row w' (w106.heap.size) 25 (wcells (x + p)) ∧ Row w' (w102.heap.size) 25 (wcells (q)) ∧ True) (by kernel_rfl) (by kernel_rfl) rfl ?_
        intro w109 hBd hsd
        have hM109 := hM108.on hBd; clear hBd hsd hM108
        simp only [List.length_cons, List.length_nil, List.drop_succ_cons, List.drop_zero, List.map_cons, List.map_nil]
        dsimp only [List.filterMap, List.getElem?_cons_zero, List.getElem?_cons_succ]
        refine mixLoadRow _ _ _ _ _ _ (by exact ⟨hM109.get 0 rfl, hM109.get 1 rfl, trivial⟩) rfl rfl rfl (fun _ h => h.1) Tryd.underlying25 rfl (info_WideC _) ?_; go_frame
        refine mixLoadRow _ _ _ _ _ _ (by exact ⟨hM109.get 0 rfl, hM109.get 1 rfl, trivial⟩) rfl rfl rfl (fun _ h => h.2.1) Tryd.underlying25 rfl (info_WideC _) ?_; go_frame
        refine mixLoud ?_
        refine mStoreAt hM109 7 _ _ _ _ (x + p) rfl rfl rfl rfl rfl ?_
        intro w110 hM110; dsimp only [List.set] at hM110; clear hM109
        refine mixOn ⟨⟨hM110.get 0 rfl, hM110.get 1 rfl, trivial⟩, ?_⟩
        go_frame
        refine mixEnd ?_
        refine mStoreAt hM110 6 _ _ _ _ (q) rfl rfl rfl rfl rfl ?_
        intro w111 hM111; dsimp only [List.set] at hM111; clear hM110
        go_frame
        go_wp2_with fail
        refine region_mixA [(0, true), (1, false), (2, false), (3, true), (4, true), (5, true), (6, false)] (fun w' => Row w' (w102.heap.size) 25 (wcells (q)) ∧ True) (by kernel_rfl) (by kernel_rfl) rfl ?_
        intro w112 hBd hsd
        have hM112 := hM111.on hBd; clear hBd hsd hM111
        simp only [List.map_cons, List.map_nil]
        dsimp only [List.filterMap, List.getElem?_cons_zero, List.getElem?_cons_succ]
        refine mixLoadRow _ _ _ _ _ _ (by exact ⟨hM112.get 1 rfl, trivial⟩) rfl rfl rfl (fun _ h => h.1) Tryd.underlying25 rfl (info_WideC _) ?_; go_frame
        refine mixLoud ?_
        refine kCall1 16 _ _ _ rfl rfl (by kernel_rfl) rfl ?_
        refine (wOf_lit n1 1 h1 E1.out _).mono ?_
        rintro e w113 ⟨rfl, hB113⟩
        have hM113 := hM112.on hB113; clear hB113 hM112
        refine ⟨_, rfl, mixOn ⟨⟨hM113.get 1 rfl, trivial⟩, ?_⟩⟩
        (try unfold WV); go_frame
        refine mixLoud ?_
        refine kCall2 35 _ _ _ _ _ rfl rfl (by kernel_rfl) rfl rfl ?_
        refine (wAdd_one q n1 mq mn1 H1.out _).mono ?_
        rintro e w114 ⟨rfl, hB114⟩
        have hM114 := hM113.on hB114; clear hB114 hM113
        refine ⟨_, rfl, mixOn ⟨⟨hM114.get 1 rfl, trivial⟩, ?_⟩⟩
        (try unfold WV); go_frame
        refine mixMove _ (.tuple #[.agg (wcells (q + 1)), .bool (decide (M256 ≤ q + n1))]) (by exact ⟨hM114.get 1 rfl, trivial⟩) rfl rfl rfl ?_; go_frame
        refine mixExtract _ _ _ (.agg (wcells (q + 1))) (by exact ⟨hM114.get 1 rfl, trivial⟩) rfl rfl rfl rfl ?_; go_frame
        refine mixExtract _ _ _ (.bool (decide (M256 ≤ q + n1))) (by exact ⟨hM114.get 1 rfl, trivial⟩) rfl rfl rfl rfl ?_; go_frame
        refine mixLoud ?_
        refine mStoreAt hM114 6 _ _ _ _ (q + 1) rfl rfl rfl rfl rfl ?_
        intro w115 hM115; dsimp only [List.set] at hM115; clear hM114
        refine mixOn ⟨⟨hM115.get 1 rfl, trivial⟩, ?_⟩
        go_frame
        refine mixDone ?_
        go_wp2_with fail
        have hMe := hM115.drop.drop.drop
        go_roundg (x + p - M256 + (q + 1) * M256)
        case rel => exact ⟨x + p - M256, q + 1, by omega, by have := Hq3.out; omega, Lib.hid rfl, Lib.hid (by rw [show x + p - M256 + (q + 1) * M256 = x + y * gp by rw [← HW.out]; rw [Nat.add_mul]; omega, q1.out, ← HV.out]; exact Hmod.out), (by have h := hMe.recell 4 rfl (wcells_less hmore); exact h)⟩
        case measure => rw [show x + p - M256 + (q + 1) * M256 = x + y * gp by rw [← HW.out]; rw [Nat.add_mul]; omega, HV.out]; exact q2.out
      · have hd : decide (M256 ≤ x + p) = false := by simpa using hmore
        rw [hd]
        go_wp2_with fail
        refine region_mixP [(0, true), (1, true), (2, false)] (fun w' => Row w' (w106.heap.size) 25 (wcells (x + p)) ∧ Row w' (w102.heap.size) 25 (wcells (q)) ∧ True) (by kernel_rfl) (by kernel_rfl) rfl ?_
        intro w109 hBd hsd
        have hM109 := hM108.on hBd; clear hBd hsd hM108
        simp only [List.length_cons, List.length_nil, List.drop_succ_cons, List.drop_zero, List.map_cons, List.map_nil]
        dsimp only [List.filterMap, List.getElem?_cons_zero, List.getElem?_cons_succ]
        refine mixLoadRow _ _ _ _ _ _ (by exact ⟨hM109.get 0 rfl, hM109.get 1 rfl, trivial⟩) rfl rfl rfl (fun _ h => h.1) Tryd.underlying25 rfl (info_WideC _) ?_; go_frame
        refine mixLoadRow _ _ _ _ _ _ (by exact ⟨hM109.get 0 rfl, hM109.get 1 rfl, trivial⟩) rfl rfl rfl (fun _ h => h.2.1) Tryd.underlying25 rfl (info_WideC _) ?_; go_frame
        refine mixLoud ?_
        refine mStoreAt hM109 7 _ _ _ _ (x + p) rfl rfl rfl rfl rfl ?_
        intro w110 hM110; dsimp only [List.set] at hM110; clear hM109
        refine mixOn ⟨⟨hM110.get 0 rfl, hM110.get 1 rfl, trivial⟩, ?_⟩
        go_frame
        refine mixEnd ?_
        refine mStoreAt hM110 6 _ _ _ _ (q) rfl rfl rfl rfl rfl ?_
        intro w111 hM111; dsimp only [List.set] at hM111; clear hM110
        go_frame
        go_wp2_with fail
        have hMe := hM111.drop.drop.drop
        go_roundg (x + p + (q) * M256)
        case rel => exact ⟨x + p, q, by omega, by have := Hq3.out; omega, Lib.hid rfl, Lib.hid (by rw [show x + p + (q) * M256 = x + y * gp by rw [← HW.out], q1.out, ← HV.out]; exact Hmod.out), hMe⟩
        case measure => rw [show x + p + (q) * M256 = x + y * gp by rw [← HW.out], HV.out]; exact q2.out
end Go.Proofs.YtajpdmcbdekpbaaDoor
