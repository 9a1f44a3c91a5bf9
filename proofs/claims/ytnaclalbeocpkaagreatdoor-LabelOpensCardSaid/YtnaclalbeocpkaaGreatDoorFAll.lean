/-
  Joined: FBase, FOnce, FFold, FAdd, FPow, FRoot, FLaw.
-/
import Derived.Test.YtnaclalbeocpkaaGreatDoorWAll
import Derived.Test.YtnaclalbeocpkaaGreatDoorKitAll
import Derived.Deep.LoopGhost
import Derived.Test.YtnaclalbeocpkaaGreatDoorPlainAll
/-
  Rings of package field: what a ring's pointer reads, and single operations on it.
-/
namespace Go.Proofs.YtnaclalbeocpkaaGreatDoor
open Go Go.RowKit

section
variable {P : Program} {ops : Array Oper} {Q : Exit → Act → World → Prop} {rest : List Oper} {o : Oper} {a : Act} {w : World}
end
section
variable {ops : Array Oper} {Q : Exit → Act → World → Prop} {rest : List Oper} {o : Oper} {a : Act} {w : World}
theorem ringField : ∃ f fs, Tryz.prog.underlying 110 = some (.struct fs) ∧ fs[0]? = some f ∧ f.offset = 0 ∧ (Tryz.prog.info? f.type).map (·.size) = some (3 + 1) := ⟨_, _, Tryz.underlying110, rfl, rfl, by kernel_rfl⟩
theorem kFieldRing (x : Operand) (b : Nat) (ho : o.op = .fieldAddr 110 x 0) (hg : Region.wanted o (yielded ops a.tmps) = true) (hx : a.eval x = .pointer (some ⟨b, 0, none⟩)) (h : wpList Tryz.prog ops Q rest (a.put o.dst (.pointer (some ⟨b, 0, none⟩))) w) : wpList Tryz.prog ops Q (o :: rest) a w := by
  obtain ⟨f, fs, h1, h2, h3, h4⟩ := ringField
  exact kFieldAt _ x 0 3 0 fs f b 0 ho hg hx h1 h2 h3 h4 h
theorem mixNilCheck {S : World → Prop} {L : Act → World → Prop} {bs : List Bool} (x : Operand) (b : Addr) (hS : S w) (ho : o.op = .nilCheck x) (hg : Region.wanted o (yielded ops a.tmps) = true) (hx : a.eval x = .pointer (some b)) (h : wpMix Tryz.prog ops Q S L bs rest (a.put o.dst (.pointer (some b))) w) : wpMix Tryz.prog ops Q S L (true :: bs) (o :: rest) a w :=
  mixQuiet _ hS hg (fun w _ => by unfold execOp; simp only [ho, hx, Sem.run_pure]) h
theorem mixFieldRing {S : World → Prop} {L : Act → World → Prop} {bs : List Bool} (x : Operand) (b : Nat) (hS : S w) (ho : o.op = .fieldAddr 110 x 0) (hg : Region.wanted o (yielded ops a.tmps) = true) (hx : a.eval x = .pointer (some ⟨b, 0, none⟩)) (h : wpMix Tryz.prog ops Q S L bs rest (a.put o.dst (.pointer (some ⟨b, 0, none⟩))) w) : wpMix Tryz.prog ops Q S L (true :: bs) (o :: rest) a w := by
  obtain ⟨f, fs, h1, h2, h3, h4⟩ := ringField
  exact mixQuiet _ hS hg (fun w _ => by unfold execOp; simp only [ho, hx, Sem.run_bind, run_fieldAt 110 0 3 0 fs f b 0 h1 h2 h3 h4, Result.andThen_ok, Sem.run_pure]) h
theorem kBuildW0 (ho : o.op = .build 81 #[]) (hg : Region.wanted o (yielded ops a.tmps) = true) (h : wpList Tryz.prog ops Q rest (a.put o.dst (.agg (wcells 0))) w) : wpList Tryz.prog ops Q (o :: rest) a w := by
  have hc : Tryz.prog.built 81 [] = some (wcells 0) := by rw [lit_zero]; kernel_rfl
  refine kPure _ hg ?_ h
  unfold execOp
  simp only [ho, Sem.run_bind]
  have := run_build w 81 #[] (wcells 0) hc
  simp [this]
end

/-! ### the variables that hold numbers of 256 bits: any of them is written; one more has come in a drawn region -/
theorem Mem.add {w0 w w' : World} {l : List (Nat × Nat)} {g m : Nat} (h : Mem w0 w l) (hb : Below w.heap.size w w') (hg : w.heap.size ≤ g) (hr : Row w' g 81 (wcells m)) : Mem w0 w' ((g, m) :: l) := by
  have h' := h.on hb
  refine ⟨fun i k n hi => ?_, List.Pairwise.cons (fun p hp => ?_) h.desc, fun i k n hi => ?_, h'.below⟩
  · cases i with
    | zero => simp at hi; obtain ⟨rfl, rfl⟩ := hi; exact hr
    | succ i => exact h'.rows i k n (by simpa using hi)
  · obtain ⟨i, hi⟩ := List.getElem?_of_mem hp
    exact Nat.lt_of_lt_of_le (h.rows i p.1 p.2 hi).lt hg
  · cases i with
    | zero => simp at hi; obtain ⟨rfl, rfl⟩ := hi; exact Nat.le_trans h.size hg
    | succ i => exact h.ge i k n (by simpa using hi)
theorem pairwise_set {l : List (Nat × Nat)} (h : l.Pairwise (fun a b => b.1 < a.1)) (i : Nat) {g n m : Nat} (hi : l[i]? = some (g, n)) : (l.set i (g, m)).Pairwise (fun a b => b.1 < a.1) := by
  rw [List.pairwise_iff_getElem] at h ⊢
  intro p q hp hq hpq
  have e : ∀ (k : Nat) (hk : k < (l.set i (g, m)).length), ((l.set i (g, m))[k]).1 = (l[k]'(by simpa using hk)).1 := fun k hk => by
    rw [List.getElem_set]
    split
    · rename_i h'; subst h'
      have hil : i < l.length := (List.getElem?_eq_some_iff.1 hi).1
      rw [List.getElem?_eq_getElem hil] at hi
      have := Option.some.inj hi
      rw [this]
    · rfl
  rw [e p hp, e q hq]
  exact h p q (by simpa using hp) (by simpa using hq) hpq
theorem Mem.putAt {w0 w w' : World} {l : List (Nat × Nat)} {g n m : Nat} (h : Mem w0 w l) (i : Nat) (hi : l[i]? = some (g, n)) (hw : Wrote g w w') (hr : Row w' g 81 (wcells m)) : Mem w0 w' (l.set i (g, m)) := by
  refine ⟨fun j k q hj => ?_, pairwise_set h.desc i hi, fun j k q hj => ?_, h.below.trans (hw.below (h.ge i g n hi))⟩
  · by_cases e : i = j
    · subst e
      have hil : i < l.length := (List.getElem?_eq_some_iff.1 hi).1
      rw [List.getElem?_set_self hil] at hj
      simp at hj; obtain ⟨rfl, rfl⟩ := hj; exact hr
    · rw [List.getElem?_set_ne e] at hj
      refine hw.row (h.rows j k q hj) ?_
      have hd := List.pairwise_iff_getElem.1 h.desc
      obtain ⟨hil, e1⟩ := List.getElem?_eq_some_iff.1 hi
      obtain ⟨hjl, e2⟩ := List.getElem?_eq_some_iff.1 hj
      rcases Nat.lt_or_gt_of_ne e with h' | h'
      · have := hd i j hil hjl h'; rw [e1, e2] at this; simp at this; omega
      · have := hd j i hjl hil h'; rw [e1, e2] at this; simp at this; omega
  · by_cases e : i = j
    · subst e
      have hil : i < l.length := (List.getElem?_eq_some_iff.1 hi).1
      rw [List.getElem?_set_self hil] at hj
      simp at hj; obtain ⟨rfl, rfl⟩ := hj; exact h.ge i g n hi
    · rw [List.getElem?_set_ne e] at hj; exact h.ge j k q hj
theorem Mem.recell {w0 w : World} {l : List (Nat × Nat)} (h : Mem w0 w l) (i : Nat) {g n m : Nat} (hi : l[i]? = some (g, n)) (he : wcells n = wcells m) : Mem w0 w (l.set i (g, m)) := by
  have hil : i < l.length := (List.getElem?_eq_some_iff.1 hi).1
  refine ⟨fun j k q hj => ?_, pairwise_set h.desc i hi, fun j k q hj => ?_, h.below⟩
  · by_cases e : i = j
    · subst e
      rw [List.getElem?_set_self hil] at hj
      simp at hj; obtain ⟨rfl, rfl⟩ := hj; rw [← he]; exact h.rows i g n hi
    · rw [List.getElem?_set_ne e] at hj; exact h.rows j k q hj
  · by_cases e : i = j
    · subst e
      rw [List.getElem?_set_self hil] at hj
      simp at hj; obtain ⟨rfl, rfl⟩ := hj; exact h.ge i g n hi
    · rw [List.getElem?_set_ne e] at hj; exact h.ge j k q hj
theorem wcells_less {k : Nat} (h : M256 ≤ k) : wcells k = wcells (k - M256) := by rw [← wcells_mod k, Nat.mod_eq_sub_mod h, wcells_mod]
theorem mStoreAt {ops : Array Oper} {Q : Exit → Act → World → Prop} {rest : List Oper} {o : Oper} {a : Act} {w0 w : World} {l : List (Nat × Nat)} (hM : Mem w0 w l) (i : Nat) (g n : Nat) (x y : Operand) (m : Nat) (hi : l[i]? = some (g, n)) (ho : o.op = .store 81 x y) (hg : Region.wanted o (yielded ops a.tmps) = true) (hx : a.eval x = .pointer (some ⟨g, 0, none⟩)) (hy : a.eval y = .agg (wcells m))
    (h : ∀ w1, Mem w0 w1 (l.set i (g, m)) → wpList Tryz.prog ops Q rest (a.put o.dst undef) w1) : wpList Tryz.prog ops Q (o :: rest) a w :=
  kStoreRow _ _ x y g _ _ ho hg hx hy (hM.get i hi) (info_WideC _) (by simp only [wcells_size]) (wcells_one _) fun w1 hr hw => h w1 (hM.putAt i hi hw hr)

/-- a modulus: above half of 2 to the power of 256 -/
structure Modu (m : Nat) : Prop where
  lt : m < M256
  gt : M256 < 2 * m
theorem Modu.pos {m : Nat} (h : Modu m) : 0 < m := by have := h.gt; have := M256_pos; omega
theorem Modu.mod {m : Nat} (h : Modu m) (x : Nat) : x % m < M256 := Nat.lt_trans (Nat.mod_lt _ h.pos) h.lt
end Go.Proofs.YtnaclalbeocpkaaGreatDoor

/-
  The walk of field's once: the modulus is taken away, if it is in the number.
-/
namespace Go.Proofs.YtnaclalbeocpkaaGreatDoor
open Go Go.RowKit

theorem once_less {a m : Nat} (h : a < m) : a = a % m := (Nat.mod_eq_of_lt h).symm
theorem once_more {a m : Nat} (ha : a < M256) (hm : Modu m) (h : ¬ a < m) : wcells (a + M256 - m) = wcells (a % m) := by
  have h2 := hm.gt; have h1 := hm.lt
  rw [← wcells_mod, show a + M256 - m = a - m + M256 by omega, Nat.add_mod_right, wcells_mod, Nat.mod_eq_sub_mod (by omega), Nat.mod_eq_of_lt (show a - m < m by omega)]
set_option maxRecDepth 100000 in
set_option maxHeartbeats 4000000 in
theorem fonce_any {m : Nat} (hm : Modu m) (a : Nat) (g : Nat) (ma : a < M256) (w : World) (hr : Row w g 110 (wcells m)) :
    Calls Tryz.prog 78 #[.pointer (some ⟨g, 0, none⟩), WV a] w fun e w' => e = .returned (WV (a % m)) ∧ Below w.heap.size w w' := by
  have hM0 := mem_nil w
  unfold WV
  by_cases h : a < m
  · have hd : decide (a < m) = true := by simpa using h
    have E := Lib.hid (once_less h)
    clear h
    go_enter Tryz.func78, Tryz.ntmps78
    go_wp2_with (first
      | ((with_reducible change wpList _ _ _ (Oper.mk (some 3) _ _ _ _ _ :: _) _ _); refine mBox hM0 _ _ rfl rfl rfl ?_; intro w1 hM1; clear hM0; go_frame)
      | ((with_reducible change wpList _ _ _ (Oper.mk (some 4) _ _ _ _ _ :: _) _ _); refine mAlloc hM1 rfl rfl ?_; intro w2 hM2; clear hM1; go_frame))
    refine region_sym (fun _ => 9) [.val (.agg (wcells a)), .val (.pointer (some ⟨g, 0, none⟩)), .val (.pointer (some ⟨g, 0, none⟩)), .val (.pointer (some ⟨g, 0, none⟩)), .val (.agg (wcells m)), .val (.tuple #[.agg (wcells (a + M256 - m)), .bool (decide (a < m))]), .val (.tuple #[.agg (wcells (a + M256 - m)), .bool (decide (a < m))]), .val (.agg (wcells (a + M256 - m))), .val (.bool (decide (a < m))), .fresh w2.heap.size 81 4, .hold w2.heap.size 81 (wcells (a + M256 - m)), .val (.bool (decide (a < m)))] [.val (.agg (wcells a)), .val (.pointer (some ⟨g, 0, none⟩)), .val (.pointer (some ⟨g, 0, none⟩)), .val (.pointer (some ⟨g, 0, none⟩)), .val (.agg (wcells m)), .val (.tuple #[.agg (wcells (a + M256 - m)), .bool (decide (a < m))]), .val (.tuple #[.agg (wcells (a + M256 - m)), .bool (decide (a < m))]), .val (.agg (wcells (a + M256 - m))), .val (.bool (decide (a < m))), .hold w2.heap.size 81 (wcells (a + M256 - m)), .val undef, .val (.bool (decide (a < m)))] (by kernel_rfl) (by kernel_rfl) rfl rfl (steps_all ⟨?_, ?_, ?_, ?_, ?_, ?_, ?_, ?_, ?_, ?_, ?_, ?_, trivial⟩) ?_
    · intro A W hsz hoth hbel hdep
      exact kLoadRow _ _ _ _ _ _ rfl rfl ((hoth 3 (free2_of (by kernel_rfl))).trans rfl) ((hM2.get 1 rfl).below hbel (hM2.get 1 rfl).lt) Tryz.underlying81 rfl (info_WideC _) (symV hbel hsz rfl rfl (show 8 < 19 by decide) (Below.refl _ _) rfl)
    · intro A W hsz hoth hbel hdep
      exact kMoveV _ (.pointer (some ⟨g, 0, none⟩)) rfl rfl ((hoth 0 (free2_of (by kernel_rfl))).trans rfl) (symV hbel hsz rfl rfl (show 9 < 19 by decide) (Below.refl _ _) rfl)
    · intro A W hsz hoth hbel hdep
      exact kNilCheck _ _ rfl rfl (by have h := hdep ⟨1, .data⟩ (by simp) rfl; exact h) (symV hbel hsz rfl rfl (show 10 < 19 by decide) (Below.refl _ _) rfl)
    · intro A W hsz hoth hbel hdep
      exact kFieldRing _ _ rfl rfl (by have h := hdep ⟨2, .data⟩ (by simp) rfl; exact h) (symV hbel hsz rfl rfl (show 11 < 19 by decide) (Below.refl _ _) rfl)
    · intro A W hsz hoth hbel hdep
      exact kLoadRow _ _ _ _ _ _ rfl rfl (by have h := hdep ⟨3, .data⟩ (by simp) rfl; exact h) ((hr.below hM2.below hr.lt).below hbel (hr.below hM2.below hr.lt).lt) Tryz.underlying81 rfl (info_WideC _) (symV hbel hsz rfl rfl (show 12 < 19 by decide) (Below.refl _ _) rfl)
    · intro A W hsz hoth hbel hdep
      refine kCall2 97 _ _ _ _ _ rfl rfl (by kernel_rfl) (by have h := hdep ⟨0, .data⟩ (by simp) rfl; exact h) (by have h := hdep ⟨4, .data⟩ (by simp) rfl; exact h) ?_
      refine (wSub_any a m ma hm.lt W).mono ?_
      rintro e r ⟨rfl, hBc⟩
      exact ⟨_, rfl, (symV hbel hsz rfl rfl (show 13 < 19 by decide) hBc rfl)⟩
    · intro A W hsz hoth hbel hdep
      exact kMoveV _ (.tuple #[.agg (wcells (a + M256 - m)), .bool (decide (a < m))]) rfl rfl (by have h := hdep ⟨5, .data⟩ (by simp) rfl; exact h) (symV hbel hsz rfl rfl (show 7 < 19 by decide) (Below.refl _ _) rfl)
    · intro A W hsz hoth hbel hdep
      exact kExtract _ _ _ (.agg (wcells (a + M256 - m))) rfl rfl (by have h := hdep ⟨6, .data⟩ (by simp) rfl; exact h) rfl (symV hbel hsz rfl rfl (show 14 < 19 by decide) (Below.refl _ _) rfl)
    · intro A W hsz hoth hbel hdep
      exact kExtract _ _ _ (.bool (decide (a < m))) rfl rfl (by have h := hdep ⟨6, .data⟩ (by simp) rfl; exact h) rfl (symV hbel hsz rfl rfl (show 15 < 19 by decide) (Below.refl _ _) rfl)
    · intro A W hsz hoth hbel hdep
      refine kAllocL _ _ rfl rfl zero_Wide ?_
      intro r hR hl hBc
      exact (symV hbel hsz rfl rfl (show 5 < 19 by decide) hBc ⟨_, _, rfl, hbel.size, wcells_size _, hR⟩)
    · intro A W hsz hoth hbel hdep
      obtain ⟨g, cs, d8, hg, hcs, hR⟩ : ∃ g cs, A.tmps.getD 5 undef = .pointer (some ⟨g, 0, none⟩) ∧ w2.heap.size ≤ g ∧ cs.size = 4 ∧ Row W g 81 cs := (by have h := hdep ⟨9, .data⟩ (by simp) rfl; exact h)
      refine kStoreRow _ _ _ _ _ _ (wcells (a + M256 - m)) rfl rfl d8 (by have h := hdep ⟨7, .data⟩ (by simp) rfl; exact h) hR (info_WideC _) (by rw [wcells_size, hcs]) (wcells_one _) ?_
      intro r hR2 hW
      exact symW hbel rfl hW hg hR2 (by simp only [Singles, and_self, wcells_size]) ⟨g, d8, hg, hR2⟩
    · intro A W hsz hoth hbel hdep
      exact kAssignV _ (.bool (decide (a < m))) rfl rfl (by have h := hdep ⟨8, .data⟩ (by simp) rfl; exact h) (symV hbel hsz rfl rfl (show 6 < 19 by decide) (Below.refl _ _) rfl)
    intro w3 hB3
    dsimp only [AllV]
    intro g3 hg3 hR3
    dsimp only [putAll]
    go_frame
    have hM3 := hM2.add hB3 hg3 hR3; clear hB3 hg3 hR3 hM2
    rw [hd]
    go_wp2_with (first
      | ((with_reducible change wpList _ _ _ (Oper.mk (some 17) _ _ _ _ _ :: _) _ _); refine mLoad hM3 2 _ _ _ rfl rfl rfl rfl ?_; go_frame)
      | ((with_reducible change wpList _ _ _ (Oper.mk none (Op.store _ (Operand.tmp 4) (Operand.tmp 17)) _ _ _ _ :: _) _ _); refine mStoreAt hM3 1 _ _ _ _ (a) rfl rfl rfl rfl rfl ?_; intro w4 hM4; dsimp only [List.set] at hM4; clear hM3; go_frame))
    exact result_row Tryz.results78 rfl (hM4.get 1 rfl) Tryz.underlying81 rfl (info_WideC _) rfl ⟨by rw [← E.out], hM4.below⟩
  · have hd : decide (a < m) = false := by simpa using h
    have E := Lib.hid (once_more ma hm h)
    clear h
    go_enter Tryz.func78, Tryz.ntmps78
    go_wp2_with (first
      | ((with_reducible change wpList _ _ _ (Oper.mk (some 3) _ _ _ _ _ :: _) _ _); refine mBox hM0 _ _ rfl rfl rfl ?_; intro w1 hM1; clear hM0; go_frame)
      | ((with_reducible change wpList _ _ _ (Oper.mk (some 4) _ _ _ _ _ :: _) _ _); refine mAlloc hM1 rfl rfl ?_; intro w2 hM2; clear hM1; go_frame))
    refine region_sym (fun _ => 9) [.val (.agg (wcells a)), .val (.pointer (some ⟨g, 0, none⟩)), .val (.pointer (some ⟨g, 0, none⟩)), .val (.pointer (some ⟨g, 0, none⟩)), .val (.agg (wcells m)), .val (.tuple #[.agg (wcells (a + M256 - m)), .bool (decide (a < m))]), .val (.tuple #[.agg (wcells (a + M256 - m)), .bool (decide (a < m))]), .val (.agg (wcells (a + M256 - m))), .val (.bool (decide (a < m))), .fresh w2.heap.size 81 4, .hold w2.heap.size 81 (wcells (a + M256 - m)), .val (.bool (decide (a < m)))] [.val (.agg (wcells a)), .val (.pointer (some ⟨g, 0, none⟩)), .val (.pointer (some ⟨g, 0, none⟩)), .val (.pointer (some ⟨g, 0, none⟩)), .val (.agg (wcells m)), .val (.tuple #[.agg (wcells (a + M256 - m)), .bool (decide (a < m))]), .val (.tuple #[.agg (wcells (a + M256 - m)), .bool (decide (a < m))]), .val (.agg (wcells (a + M256 - m))), .val (.bool (decide (a < m))), .hold w2.heap.size 81 (wcells (a + M256 - m)), .val undef, .val (.bool (decide (a < m)))] (by kernel_rfl) (by kernel_rfl) rfl rfl (steps_all ⟨?_, ?_, ?_, ?_, ?_, ?_, ?_, ?_, ?_, ?_, ?_, ?_, trivial⟩) ?_
    · intro A W hsz hoth hbel hdep
      exact kLoadRow _ _ _ _ _ _ rfl rfl ((hoth 3 (free2_of (by kernel_rfl))).trans rfl) ((hM2.get 1 rfl).below hbel (hM2.get 1 rfl).lt) Tryz.underlying81 rfl (info_WideC _) (symV hbel hsz rfl rfl (show 8 < 19 by decide) (Below.refl _ _) rfl)
    · intro A W hsz hoth hbel hdep
      exact kMoveV _ (.pointer (some ⟨g, 0, none⟩)) rfl rfl ((hoth 0 (free2_of (by kernel_rfl))).trans rfl) (symV hbel hsz rfl rfl (show 9 < 19 by decide) (Below.refl _ _) rfl)
    · intro A W hsz hoth hbel hdep
      exact kNilCheck _ _ rfl rfl (by have h := hdep ⟨1, .data⟩ (by simp) rfl; exact h) (symV hbel hsz rfl rfl (show 10 < 19 by decide) (Below.refl _ _) rfl)
    · intro A W hsz hoth hbel hdep
      exact kFieldRing _ _ rfl rfl (by have h := hdep ⟨2, .data⟩ (by simp) rfl; exact h) (symV hbel hsz rfl rfl (show 11 < 19 by decide) (Below.refl _ _) rfl)
    · intro A W hsz hoth hbel hdep
      exact kLoadRow _ _ _ _ _ _ rfl rfl (by have h := hdep ⟨3, .data⟩ (by simp) rfl; exact h) ((hr.below hM2.below hr.lt).below hbel (hr.below hM2.below hr.lt).lt) Tryz.underlying81 rfl (info_WideC _) (symV hbel hsz rfl rfl (show 12 < 19 by decide) (Below.refl _ _) rfl)
    · intro A W hsz hoth hbel hdep
      refine kCall2 97 _ _ _ _ _ rfl rfl (by kernel_rfl) (by have h := hdep ⟨0, .data⟩ (by simp) rfl; exact h) (by have h := hdep ⟨4, .data⟩ (by simp) rfl; exact h) ?_
      refine (wSub_any a m ma hm.lt W).mono ?_
      rintro e r ⟨rfl, hBc⟩
      exact ⟨_, rfl, (symV hbel hsz rfl rfl (show 13 < 19 by decide) hBc rfl)⟩
    · intro A W hsz hoth hbel hdep
      exact kMoveV _ (.tuple #[.agg (wcells (a + M256 - m)), .bool (decide (a < m))]) rfl rfl (by have h := hdep ⟨5, .data⟩ (by simp) rfl; exact h) (symV hbel hsz rfl rfl (show 7 < 19 by decide) (Below.refl _ _) rfl)
    · intro A W hsz hoth hbel hdep
      exact kExtract _ _ _ (.agg (wcells (a + M256 - m))) rfl rfl (by have h := hdep ⟨6, .data⟩ (by simp) rfl; exact h) rfl (symV hbel hsz rfl rfl (show 14 < 19 by decide) (Below.refl _ _) rfl)
    · intro A W hsz hoth hbel hdep
      exact kExtract _ _ _ (.bool (decide (a < m))) rfl rfl (by have h := hdep ⟨6, .data⟩ (by simp) rfl; exact h) rfl (symV hbel hsz rfl rfl (show 15 < 19 by decide) (Below.refl _ _) rfl)
    · intro A W hsz hoth hbel hdep
      refine kAllocL _ _ rfl rfl zero_Wide ?_
      intro r hR hl hBc
      exact (symV hbel hsz rfl rfl (show 5 < 19 by decide) hBc ⟨_, _, rfl, hbel.size, wcells_size _, hR⟩)
    · intro A W hsz hoth hbel hdep
      obtain ⟨g, cs, d8, hg, hcs, hR⟩ : ∃ g cs, A.tmps.getD 5 undef = .pointer (some ⟨g, 0, none⟩) ∧ w2.heap.size ≤ g ∧ cs.size = 4 ∧ Row W g 81 cs := (by have h := hdep ⟨9, .data⟩ (by simp) rfl; exact h)
      refine kStoreRow _ _ _ _ _ _ (wcells (a + M256 - m)) rfl rfl d8 (by have h := hdep ⟨7, .data⟩ (by simp) rfl; exact h) hR (info_WideC _) (by rw [wcells_size, hcs]) (wcells_one _) ?_
      intro r hR2 hW
      exact symW hbel rfl hW hg hR2 (by simp only [Singles, and_self, wcells_size]) ⟨g, d8, hg, hR2⟩
    · intro A W hsz hoth hbel hdep
      exact kAssignV _ (.bool (decide (a < m))) rfl rfl (by have h := hdep ⟨8, .data⟩ (by simp) rfl; exact h) (symV hbel hsz rfl rfl (show 6 < 19 by decide) (Below.refl _ _) rfl)
    intro w3 hB3
    dsimp only [AllV]
    intro g3 hg3 hR3
    dsimp only [putAll]
    go_frame
    have hM3 := hM2.add hB3 hg3 hR3; clear hB3 hg3 hR3 hM2
    rw [hd]
    go_wp2_with (first
      | ((with_reducible change wpList _ _ _ (Oper.mk (some 18) _ _ _ _ _ :: _) _ _); refine mLoad hM3 0 _ _ _ rfl rfl rfl rfl ?_; go_frame)
      | ((with_reducible change wpList _ _ _ (Oper.mk none (Op.store _ (Operand.tmp 4) (Operand.tmp 18)) _ _ _ _ :: _) _ _); refine mStoreAt hM3 1 _ _ _ _ (a + M256 - m) rfl rfl rfl rfl rfl ?_; intro w4 hM4; dsimp only [List.set] at hM4; clear hM3; go_frame))
    exact result_row Tryz.results78 rfl (hM4.get 1 rfl) Tryz.underlying81 rfl (info_WideC _) rfl ⟨by rw [← E.out], hM4.below⟩
end Go.Proofs.YtnaclalbeocpkaaGreatDoor

/-
  The walk of field's Fold: low and high times 2 to the power of 256, modulo the ring's modulus.
-/
namespace Go.Proofs.YtnaclalbeocpkaaGreatDoor
open Go Go.RowKit

theorem wSub_gap {m gp : Nat} (hm : Modu m) (Hgp : Hid (gp = M256 - m)) (w : World) :
    Calls Tryz.prog 97 #[WV 0, WV m] w fun e w' => e = .returned (.tuple #[WV gp, .bool (decide (0 < m))]) ∧ Below w.heap.size w w' := by
  have h := wSub_any 0 m M256_pos hm.lt w
  rwa [show 0 + M256 - m = gp by rw [Hgp.out, Nat.zero_add]] at h
/-- one round: what is high comes down -/
theorem fold_round {m gp lo hi : Nat} (hm : Modu m) (Hgp : gp = M256 - m) (mhi : hi < M256) (hne : hi ≠ 0) :
    (lo + hi * gp) % m = (lo + hi * M256) % m ∧ lo + hi * gp < lo + hi * M256 ∧ hi * gp / M256 + 1 < M256 ∧ hi * gp / M256 < M256 := by
  have h1 := hm.lt; have h2 := hm.gt
  have e : hi * M256 = hi * gp + m * hi := by rw [Hgp, Nat.mul_comm m hi, ← Nat.mul_add, Nat.sub_add_cancel (by omega)]
  refine ⟨?_, ?_, ?_, ?_⟩
  · rw [e, ← Nat.add_assoc, Nat.add_mul_mod_self_left]
  · have : 0 < m * hi := Nat.mul_pos hm.pos (by omega)
    omega
  · have : hi * gp / M256 ≤ gp := by
      refine Nat.div_le_of_le_mul ?_
      exact Nat.mul_le_mul_right _ (by omega)
    omega
  · have : hi * gp / M256 ≤ gp := by
      refine Nat.div_le_of_le_mul ?_
      exact Nat.mul_le_mul_right _ (by omega)
    omega
theorem fold_parts (x lo : Nat) : lo + x % M256 + x / M256 * M256 = lo + x := by
  have := Nat.mod_add_div x M256; rw [Nat.mul_comm] at this; omega
theorem wMul_parts (y gp p q : Nat) (my : y < M256) (mgp : gp < M256) (hp : p = y * gp % M256) (hq : q = y * gp / M256) (w : World) :
    Calls Tryz.prog 96 #[WV y, WV gp] w fun e w' => e = .returned (.tuple #[WV p, WV q]) ∧ Below w.heap.size w w' := by
  have h := wMul_any y gp my mgp w
  rwa [← WV_mod (y * gp), ← hp, ← hq] at h
theorem wAdd_one (q n1 : Nat) (mq : q < M256) (mn1 : n1 < M256) (h : n1 = 1) (w : World) :
    Calls Tryz.prog 73 #[WV q, WV n1] w fun e w' => e = .returned (.tuple #[WV (q + 1), .bool (decide (M256 ≤ q + n1))]) ∧ Below w.heap.size w w' := by
  have h' := wAdd_any q n1 mq mn1 w
  subst h; exact h'
set_option maxRecDepth 100000 in
set_option maxHeartbeats 4000000 in
theorem fFold_any {m : Nat} (hm : Modu m) (lo : Nat) (hi : Nat) (g : Nat) (mlo : lo < M256) (mhi : hi < M256) (w : World) (hr : Row w g 110 (wcells m)) :
    Calls Tryz.prog 90 #[.pointer (some ⟨g, 0, none⟩), WV lo, WV hi] w fun e w' => e = .returned (WV ((lo + hi * M256) % m)) ∧ Below w.heap.size w w' := by
  obtain ⟨n1, H1⟩ : ∃ n, Hid (n = 1) := ⟨1, Lib.hid rfl⟩
  have h1 : n1 < 18446744073709551616 := by rw [H1.out]; decide
  have mn1 : n1 < M256 := by rw [H1.out]; decide
  have E1 : (1 : Int) = (n1 : Int) := by rw [H1.out]; rfl
  replace E1 := Lib.hid E1
  obtain ⟨gp, Hgp⟩ : ∃ n, Hid (n = M256 - m) := ⟨_, Lib.hid rfl⟩
  have mgp : gp < M256 := by rw [Hgp.out]; have := hm.gt; omega
  have hM0 := mem_nil w
  unfold WV
  go_enter Tryz.func90, Tryz.ntmps90
  go_wp2_with (first
    | ((with_reducible change wpList _ _ _ (Oper.mk (some 4) _ _ _ _ _ :: _) _ _); refine mBox hM0 _ _ rfl rfl rfl ?_; intro w1 hM1; clear hM0; go_frame)
    | ((with_reducible change wpList _ _ _ (Oper.mk (some 5) _ _ _ _ _ :: _) _ _); refine mBox hM1 _ _ rfl rfl rfl ?_; intro w2 hM2; clear hM1; go_frame)
    | ((with_reducible change wpList _ _ _ (Oper.mk (some 6) _ _ _ _ _ :: _) _ _); refine mAlloc hM2 rfl rfl ?_; intro w3 hM3; clear hM2; go_frame)
    | ((with_reducible change wpList _ _ _ (Oper.mk (some 14) _ _ _ _ _ :: _) _ _); refine kBuildW0 rfl rfl ?_; go_frame)
    | ((with_reducible change wpList _ _ _ (Oper.mk (some 7) _ _ _ _ _ :: _) _ _); refine mAlloc hM3 rfl rfl ?_; intro w4 hM4; clear hM3; go_frame)
    | ((with_reducible change wpList _ _ _ (Oper.mk none (Op.store _ (Operand.tmp 7) (Operand.tmp 14)) _ _ _ _ :: _) _ _); refine mStoreAt hM4 0 _ _ _ _ (0) rfl rfl rfl rfl rfl ?_; intro w5 hM5; dsimp only [List.set] at hM5; clear hM4; go_frame))
  refine region_sym (fun _ => 9) [.val (.agg (wcells 0)), .val (.pointer (some ⟨g, 0, none⟩)), .val (.pointer (some ⟨g, 0, none⟩)), .val (.pointer (some ⟨g, 0, none⟩)), .val (.agg (wcells m)), .val (.tuple #[.agg (wcells gp), .bool (decide (0 < m))]), .val (.tuple #[.agg (wcells gp), .bool (decide (0 < m))]), .val (.agg (wcells gp)), .val (.bool (decide (0 < m))), .fresh w5.heap.size 81 4, .hold w5.heap.size 81 (wcells (gp)), .val (.bool (decide (0 < m)))] [.val (.agg (wcells 0)), .val (.pointer (some ⟨g, 0, none⟩)), .val (.pointer (some ⟨g, 0, none⟩)), .val (.pointer (some ⟨g, 0, none⟩)), .val (.agg (wcells m)), .val (.tuple #[.agg (wcells gp), .bool (decide (0 < m))]), .val (.tuple #[.agg (wcells gp), .bool (decide (0 < m))]), .val (.agg (wcells gp)), .val (.bool (decide (0 < m))), .hold w5.heap.size 81 (wcells (gp)), .val undef, .val (.bool (decide (0 < m)))] (by kernel_rfl) (by kernel_rfl) rfl rfl (steps_all ⟨?_, ?_, ?_, ?_, ?_, ?_, ?_, ?_, ?_, ?_, ?_, ?_, trivial⟩) ?_
  · intro A W hsz hoth hbel hdep
    exact kLoadRow _ _ _ _ _ _ rfl rfl ((hoth 7 (free2_of (by kernel_rfl))).trans rfl) ((hM5.get 0 rfl).below hbel (hM5.get 0 rfl).lt) Tryz.underlying81 rfl (info_WideC _) (symV hbel hsz rfl rfl (show 16 < 51 by decide) (Below.refl _ _) rfl)
  · intro A W hsz hoth hbel hdep
    exact kMoveV _ (.pointer (some ⟨g, 0, none⟩)) rfl rfl ((hoth 0 (free2_of (by kernel_rfl))).trans rfl) (symV hbel hsz rfl rfl (show 17 < 51 by decide) (Below.refl _ _) rfl)
  · intro A W hsz hoth hbel hdep
    exact kNilCheck _ _ rfl rfl (by have h := hdep ⟨1, .data⟩ (by simp) rfl; exact h) (symV hbel hsz rfl rfl (show 18 < 51 by decide) (Below.refl _ _) rfl)
  · intro A W hsz hoth hbel hdep
    exact kFieldRing _ _ rfl rfl (by have h := hdep ⟨2, .data⟩ (by simp) rfl; exact h) (symV hbel hsz rfl rfl (show 19 < 51 by decide) (Below.refl _ _) rfl)
  · intro A W hsz hoth hbel hdep
    exact kLoadRow _ _ _ _ _ _ rfl rfl (by have h := hdep ⟨3, .data⟩ (by simp) rfl; exact h) ((hr.below hM5.below hr.lt).below hbel (hr.below hM5.below hr.lt).lt) Tryz.underlying81 rfl (info_WideC _) (symV hbel hsz rfl rfl (show 20 < 51 by decide) (Below.refl _ _) rfl)
  · intro A W hsz hoth hbel hdep
    refine kCall2 97 _ _ _ _ _ rfl rfl (by kernel_rfl) (by have h := hdep ⟨0, .data⟩ (by simp) rfl; exact h) (by have h := hdep ⟨4, .data⟩ (by simp) rfl; exact h) ?_
    refine (wSub_gap hm Hgp W).mono ?_
    rintro e r ⟨rfl, hBc⟩
    exact ⟨_, rfl, (symV hbel hsz rfl rfl (show 21 < 51 by decide) hBc rfl)⟩
  · intro A W hsz hoth hbel hdep
    exact kMoveV _ (.tuple #[.agg (wcells gp), .bool (decide (0 < m))]) rfl rfl (by have h := hdep ⟨5, .data⟩ (by simp) rfl; exact h) (symV hbel hsz rfl rfl (show 15 < 51 by decide) (Below.refl _ _) rfl)
  · intro A W hsz hoth hbel hdep
    exact kExtract _ _ _ (.agg (wcells gp)) rfl rfl (by have h := hdep ⟨6, .data⟩ (by simp) rfl; exact h) rfl (symV hbel hsz rfl rfl (show 22 < 51 by decide) (Below.refl _ _) rfl)
  · intro A W hsz hoth hbel hdep
    exact kExtract _ _ _ (.bool (decide (0 < m))) rfl rfl (by have h := hdep ⟨6, .data⟩ (by simp) rfl; exact h) rfl (symV hbel hsz rfl rfl (show 23 < 51 by decide) (Below.refl _ _) rfl)
  · intro A W hsz hoth hbel hdep
    refine kAllocL _ _ rfl rfl zero_Wide ?_
    intro r hR hl hBc
    exact (symV hbel hsz rfl rfl (show 8 < 51 by decide) hBc ⟨_, _, rfl, hbel.size, wcells_size _, hR⟩)
  · intro A W hsz hoth hbel hdep
    obtain ⟨g, cs, d8, hg, hcs, hR⟩ : ∃ g cs, A.tmps.getD 8 undef = .pointer (some ⟨g, 0, none⟩) ∧ w5.heap.size ≤ g ∧ cs.size = 4 ∧ Row W g 81 cs := (by have h := hdep ⟨9, .data⟩ (by simp) rfl; exact h)
    refine kStoreRow _ _ _ _ _ _ (wcells (gp)) rfl rfl d8 (by have h := hdep ⟨7, .data⟩ (by simp) rfl; exact h) hR (info_WideC _) (by rw [wcells_size, hcs]) (wcells_one _) ?_
    intro r hR2 hW
    exact symW hbel rfl hW hg hR2 (by simp only [Singles, and_self, wcells_size]) ⟨g, d8, hg, hR2⟩
  · intro A W hsz hoth hbel hdep
    exact kAssignV _ (.bool (decide (0 < m))) rfl rfl (by have h := hdep ⟨8, .data⟩ (by simp) rfl; exact h) (symV hbel hsz rfl rfl (show 9 < 51 by decide) (Below.refl _ _) rfl)
  intro w6 hB6
  dsimp only [AllV]
  intro g6 hg6 hR6
  dsimp only [putAll]
  go_frame
  have hM6 := hM5.add hB6 hg6 hR6; clear hB6 hg6 hR6 hM5
  go_wp2_with fail
  obtain ⟨V0, HV0⟩ : ∃ V, Hid (V = lo + hi * M256) := ⟨_, Lib.hid rfl⟩
  go_loopg [] V0 (fun V wr => ∃ x y : Nat, x < M256 ∧ y < M256 ∧ Hid (V = x + y * M256) ∧ Hid (V % m = V0 % m) ∧ Mem w wr [(g6, gp), (w3.heap.size, 0), (w2.heap.size, 0), (w1.heap.size, y), (w.heap.size, x)])
  case atStart => exact ⟨lo, hi, mlo, mhi, HV0, Lib.hid rfl, hM6⟩
  case round =>
    obtain ⟨x, y, mx, my, HV, Hmod, hM0⟩ := hrel
    clear hM6
    by_cases hy : y = 0
    · have D := Lib.hid (show (!decide (y % M256 = 0 % M256)) = false by rw [hy]; simp)
      have Hx := Lib.hid (show wcells (x % m) = wcells ((lo + hi * M256) % m) by rw [← HV0.out, ← Hmod.out, HV.out, hy, Nat.zero_mul, Nat.add_zero])
      clear hy
      go_wp2_with (first
        | ((with_reducible change wpList _ _ _ (Oper.mk (some 24) _ _ _ _ _ :: _) _ _); refine mLoad hM0 3 _ _ _ rfl rfl rfl rfl ?_; go_frame)
        | ((with_reducible change wpList _ _ _ (Oper.mk (some 25) _ _ _ _ _ :: _) _ _); refine mLoad hM0 1 _ _ _ rfl rfl rfl rfl ?_; go_frame)
        | ((with_reducible change wpList _ _ _ (Oper.mk (some 26) _ _ _ _ _ :: _) _ _); refine kNeqW _ _ _ (y) (0) false rfl rfl rfl rfl (D.out) ?_; go_frame)
        | ((with_reducible change wpList _ _ _ (Oper.mk (some 49) _ _ _ _ _ :: _) _ _); refine mLoad hM0 4 _ _ _ rfl rfl rfl rfl ?_; go_frame)
        | (go_at_call 78; (with_reducible change Calls _ _ #[Value.pointer (some ⟨g, 0, none⟩), Value.agg (wcells x)] _ _); refine (fonce_any hm x g mx _ (hr.below hM0.below hr.lt)).mono ?_; rintro e w101 ⟨rfl, hB101⟩; have hM101 := hM0.on hB101; clear hB101 hM0; (try unfold WV); go_frame)
        | ((with_reducible change wpList _ _ _ (Oper.mk none (Op.store _ (Operand.tmp 6) (Operand.tmp 50)) _ _ _ _ :: _) _ _); refine mStoreAt hM101 2 _ _ _ _ (x % m) rfl rfl rfl rfl rfl ?_; intro w102 hM102; dsimp only [List.set] at hM102; clear hM101; go_frame))
      exact result_row Tryz.results90 rfl (hM102.get 2 rfl) Tryz.underlying81 rfl (info_WideC _) rfl ⟨by rw [Hx.out], hM102.below⟩
    · have D := Lib.hid (show (!decide (y % M256 = 0 % M256)) = true by rw [Nat.mod_eq_of_lt my, Nat.zero_mod]; simp [hy])
      obtain ⟨q1, q2, q3, q4⟩ := fold_round (lo := x) hm Hgp.out my hy
      obtain ⟨p, Hp⟩ : ∃ p, Hid (p = y * gp % M256) := ⟨_, Lib.hid rfl⟩
      obtain ⟨q, Hq⟩ : ∃ q, Hid (q = y * gp / M256) := ⟨_, Lib.hid rfl⟩
      have mp : p < M256 := by rw [Hp.out]; exact Nat.mod_lt _ M256_pos
      have mq : q < M256 := by rw [Hq.out]; exact q4
      have HW := Lib.hid (show x + p + q * M256 = x + y * gp by rw [Hp.out, Hq.out]; exact fold_parts _ _)
      have Hq3 := Lib.hid (show q + 1 < M256 by rw [Hq.out]; exact q3)
      replace q1 := Lib.hid q1; replace q2 := Lib.hid q2
      clear q3 q4 hy
      go_wp2_with (first
        | ((with_reducible change wpList _ _ _ (Oper.mk (some 24) _ _ _ _ _ :: _) _ _); refine mLoad hM0 3 _ _ _ rfl rfl rfl rfl ?_; go_frame)
        | ((with_reducible change wpList _ _ _ (Oper.mk (some 25) _ _ _ _ _ :: _) _ _); refine mLoad hM0 1 _ _ _ rfl rfl rfl rfl ?_; go_frame)
        | ((with_reducible change wpList _ _ _ (Oper.mk (some 26) _ _ _ _ _ :: _) _ _); refine kNeqW _ _ _ (y) (0) true rfl rfl rfl rfl (D.out) ?_; go_frame)
        | ((with_reducible change wpList _ _ _ (Oper.mk (some 28) _ _ _ _ _ :: _) _ _); refine mLoad hM0 3 _ _ _ rfl rfl rfl rfl ?_; go_frame)
        | ((with_reducible change wpList _ _ _ (Oper.mk (some 29) _ _ _ _ _ :: _) _ _); refine mLoad hM0 0 _ _ _ rfl rfl rfl rfl ?_; go_frame)
        | (go_at_call 96; (with_reducible change Calls _ _ #[Value.agg (wcells y), Value.agg (wcells gp)] _ _); refine (wMul_parts y gp p q my mgp Hp.out Hq.out _).mono ?_; rintro e w101 ⟨rfl, hB101⟩; have hM101 := hM0.on hB101; clear hB101 hM0; (try unfold WV); go_frame)
        | ((with_reducible change wpList _ _ _ (Oper.mk (some 10) _ _ _ _ _ :: _) _ _); refine mAlloc hM101 rfl rfl ?_; intro w102 hM102; clear hM101; go_frame)
        | ((with_reducible change wpList _ _ _ (Oper.mk (some 11) _ _ _ _ _ :: _) _ _); refine mAlloc hM102 rfl rfl ?_; intro w103 hM103; clear hM102; go_frame)
        | ((with_reducible change wpList _ _ _ (Oper.mk none (Op.store _ (Operand.tmp 10) (Operand.tmp 31)) _ _ _ _ :: _) _ _); refine mStoreAt hM103 1 _ _ _ _ (p) rfl rfl rfl rfl rfl ?_; intro w104 hM104; dsimp only [List.set] at hM104; clear hM103; go_frame)
        | ((with_reducible change wpList _ _ _ (Oper.mk none (Op.store _ (Operand.tmp 11) (Operand.tmp 32)) _ _ _ _ :: _) _ _); refine mStoreAt hM104 0 _ _ _ _ (q) rfl rfl rfl rfl rfl ?_; intro w105 hM105; dsimp only [List.set] at hM105; clear hM104; go_frame)
        | ((with_reducible change wpList _ _ _ (Oper.mk (some 34) _ _ _ _ _ :: _) _ _); refine mLoad hM105 6 _ _ _ rfl rfl rfl rfl ?_; go_frame)
        | ((with_reducible change wpList _ _ _ (Oper.mk (some 35) _ _ _ _ _ :: _) _ _); refine mLoad hM105 1 _ _ _ rfl rfl rfl rfl ?_; go_frame)
        | (go_at_call 73; (with_reducible change Calls _ _ #[Value.agg (wcells x), Value.agg (wcells p)] _ _); refine (wAdd_any x p mx mp _).mono ?_; rintro e w106 ⟨rfl, hB106⟩; have hM106 := hM105.on hB106; clear hB106 hM105; (try unfold WV); go_frame)
        | ((with_reducible change wpList _ _ _ (Oper.mk (some 12) _ _ _ _ _ :: _) _ _); refine mAlloc hM106 rfl rfl ?_; intro w107 hM107; clear hM106; go_frame)
        | ((with_reducible change wpList _ _ _ (Oper.mk none (Op.store _ (Operand.tmp 12) (Operand.tmp 37)) _ _ _ _ :: _) _ _); refine mStoreAt hM107 0 _ _ _ _ (x + p) rfl rfl rfl rfl rfl ?_; intro w108 hM108; dsimp only [List.set] at hM108; clear hM107; go_frame))
      by_cases hmore : M256 ≤ x + p
      · have hd : decide (M256 ≤ x + p) = true := by simpa using hmore
        rw [hd]
        go_wp2_with fail
        refine region_mixP [(0, true), (1, true), (2, false)] (fun w' => Row w' (w106.heap.size) 81 (wcells (x + p)) ∧ Row w' (w102.heap.size) 81 (wcells (q)) ∧ True) (by kernel_rfl) (by kernel_rfl) rfl ?_
        intro w109 hBd hsd
        have hM109 := hM108.on hBd; clear hBd hsd hM108
        simp only [List.length_cons, List.length_nil, List.drop_succ_cons, List.drop_zero, List.map_cons, List.map_nil]
        dsimp only [List.filterMap, List.getElem?_cons_zero, List.getElem?_cons_succ]
        refine mixLoadRow _ _ _ _ _ _ (by exact ⟨hM109.get 0 rfl, hM109.get 1 rfl, trivial⟩) rfl rfl rfl (fun _ h => h.1) Tryz.underlying81 rfl (info_WideC _) ?_; go_frame
        refine mixLoadRow _ _ _ _ _ _ (by exact ⟨hM109.get 0 rfl, hM109.get 1 rfl, trivial⟩) rfl rfl rfl (fun _ h => h.2.1) Tryz.underlying81 rfl (info_WideC _) ?_; go_frame
        refine mixLoud ?_
        refine mStoreAt hM109 7 _ _ _ _ (x + p) rfl rfl rfl rfl rfl ?_
        intro w110 hM110; dsimp only [List.set] at hM110; clear hM109
        refine mixOn ⟨⟨hM110.get 0 rfl, hM110.get 1 rfl, trivial⟩, ?_⟩
        go_frame
        refine mixEnd ?_
        refine mStoreAt hM110 6 _ _ _ _ (q) rfl rfl rfl rfl rfl ?_
        intro w111 hM111; dsimp only [List.set] at hM111; clear hM110
        go_frame
        go_wp2_with fail
        refine region_mixA [(0, true), (1, false), (2, false), (3, true), (4, true), (5, true), (6, false)] (fun w' => Row w' (w102.heap.size) 81 (wcells (q)) ∧ True) (by kernel_rfl) (by kernel_rfl) rfl ?_
        intro w112 hBd hsd
        have hM112 := hM111.on hBd; clear hBd hsd hM111
        simp only [List.map_cons, List.map_nil]
        dsimp only [List.filterMap, List.getElem?_cons_zero, List.getElem?_cons_succ]
        refine mixLoadRow _ _ _ _ _ _ (by exact ⟨hM112.get 1 rfl, trivial⟩) rfl rfl rfl (fun _ h => h.1) Tryz.underlying81 rfl (info_WideC _) ?_; go_frame
        refine mixLoud ?_
        refine kCall1 74 _ _ _ rfl rfl (by kernel_rfl) rfl ?_
        refine (wOf_lit n1 1 h1 E1.out _).mono ?_
        rintro e w113 ⟨rfl, hB113⟩
        have hM113 := hM112.on hB113; clear hB113 hM112
        refine ⟨_, rfl, mixOn ⟨⟨hM113.get 1 rfl, trivial⟩, ?_⟩⟩
        (try unfold WV); go_frame
        refine mixLoud ?_
        refine kCall2 73 _ _ _ _ _ rfl rfl (by kernel_rfl) rfl rfl ?_
        refine (wAdd_one q n1 mq mn1 H1.out _).mono ?_
        rintro e w114 ⟨rfl, hB114⟩
        have hM114 := hM113.on hB114; clear hB114 hM113
        refine ⟨_, rfl, mixOn ⟨⟨hM114.get 1 rfl, trivial⟩, ?_⟩⟩
        (try unfold WV); go_frame
        refine mixMove _ (.tuple #[.agg (wcells (q + 1)), .bool (decide (M256 ≤ q + n1))]) (by exact ⟨hM114.get 1 rfl, trivial⟩) rfl rfl rfl ?_; go_frame
        refine mixExtract _ _ _ (.agg (wcells (q + 1))) (by exact ⟨hM114.get 1 rfl, trivial⟩) rfl rfl rfl rfl ?_; go_frame
        refine mixExtract _ _ _ (.bool (decide (M256 ≤ q + n1))) (by exact ⟨hM114.get 1 rfl, trivial⟩) rfl rfl rfl rfl ?_; go_frame
        refine mixLoud ?_
        refine mStoreAt hM114 6 _ _ _ _ (q + 1) rfl rfl rfl rfl rfl ?_
        intro w115 hM115; dsimp only [List.set] at hM115; clear hM114
        refine mixOn ⟨⟨hM115.get 1 rfl, trivial⟩, ?_⟩
        go_frame
        refine mixDone ?_
        go_wp2_with fail
        have hMe := hM115.drop.drop.drop
        go_roundg (x + p - M256 + (q + 1) * M256)
        case rel => exact ⟨x + p - M256, q + 1, by omega, by have := Hq3.out; omega, Lib.hid rfl, Lib.hid (by rw [show x + p - M256 + (q + 1) * M256 = x + y * gp by rw [← HW.out]; rw [Nat.add_mul]; omega, q1.out, ← HV.out]; exact Hmod.out), (by have h := hMe.recell 4 rfl (wcells_less hmore); exact h)⟩
        case measure => rw [show x + p - M256 + (q + 1) * M256 = x + y * gp by rw [← HW.out]; rw [Nat.add_mul]; omega, HV.out]; exact q2.out
      · have hd : decide (M256 ≤ x + p) = false := by simpa using hmore
        rw [hd]
        go_wp2_with fail
        refine region_mixP [(0, true), (1, true), (2, false)] (fun w' => Row w' (w106.heap.size) 81 (wcells (x + p)) ∧ Row w' (w102.heap.size) 81 (wcells (q)) ∧ True) (by kernel_rfl) (by kernel_rfl) rfl ?_
        intro w109 hBd hsd
        have hM109 := hM108.on hBd; clear hBd hsd hM108
        simp only [List.length_cons, List.length_nil, List.drop_succ_cons, List.drop_zero, List.map_cons, List.map_nil]
        dsimp only [List.filterMap, List.getElem?_cons_zero, List.getElem?_cons_succ]
        refine mixLoadRow _ _ _ _ _ _ (by exact ⟨hM109.get 0 rfl, hM109.get 1 rfl, trivial⟩) rfl rfl rfl (fun _ h => h.1) Tryz.underlying81 rfl (info_WideC _) ?_; go_frame
        refine mixLoadRow _ _ _ _ _ _ (by exact ⟨hM109.get 0 rfl, hM109.get 1 rfl, trivial⟩) rfl rfl rfl (fun _ h => h.2.1) Tryz.underlying81 rfl (info_WideC _) ?_; go_frame
        refine mixLoud ?_
        refine mStoreAt hM109 7 _ _ _ _ (x + p) rfl rfl rfl rfl rfl ?_
        intro w110 hM110; dsimp only [List.set] at hM110; clear hM109
        refine mixOn ⟨⟨hM110.get 0 rfl, hM110.get 1 rfl, trivial⟩, ?_⟩
        go_frame
        refine mixEnd ?_
        refine mStoreAt hM110 6 _ _ _ _ (q) rfl rfl rfl rfl rfl ?_
        intro w111 hM111; dsimp only [List.set] at hM111; clear hM110
        go_frame
        go_wp2_with fail
        have hMe := hM111.drop.drop.drop
        go_roundg (x + p + (q) * M256)
        case rel => exact ⟨x + p, q, by omega, by have := Hq3.out; omega, Lib.hid rfl, Lib.hid (by rw [show x + p + (q) * M256 = x + y * gp by rw [← HW.out], q1.out, ← HV.out]; exact Hmod.out), hMe⟩
        case measure => rw [show x + p + (q) * M256 = x + y * gp by rw [← HW.out], HV.out]; exact q2.out
end Go.Proofs.YtnaclalbeocpkaaGreatDoor

/-
  The walks of field's Add, Sub, Mul, In and Modulus.
-/
namespace Go.Proofs.YtnaclalbeocpkaaGreatDoor
open Go Go.RowKit

theorem wAdd_over {a b s : Nat} (ma : a < M256) (mb : b < M256) (h : a + b = s + M256) (w : World) :
    Calls Tryz.prog 73 #[WV a, WV b] w fun e w' => e = .returned (.tuple #[WV s, .bool true]) ∧ Below w.heap.size w w' := by
  have h' := wAdd_any a b ma mb w
  rw [← WV_mod (a + b), h, Nat.add_mod_right, WV_mod, show decide (M256 ≤ s + M256) = true by simp] at h'
  exact h'
theorem wAdd_fits {a b s : Nat} (ma : a < M256) (mb : b < M256) (h : a + b = s) (hs : s < M256) (w : World) :
    Calls Tryz.prog 73 #[WV a, WV b] w fun e w' => e = .returned (.tuple #[WV s, .bool false]) ∧ Below w.heap.size w w' := by
  have h' := wAdd_any a b ma mb w
  rw [h, show decide (M256 ≤ s) = false by simpa using hs] at h'
  exact h'
theorem wSub_less {a b : Nat} (ma : a < M256) (mb : b < M256) (h : a < b) (w : World) :
    Calls Tryz.prog 97 #[WV a, WV b] w fun e w' => e = .returned (.tuple #[WV (a + M256 - b), .bool true]) ∧ Below w.heap.size w w' := by
  have h' := wSub_any a b ma mb w
  rw [show decide (a < b) = true by simpa using h] at h'
  exact h'
theorem wSub_fits {a b s : Nat} (ma : a < M256) (mb : b < M256) (h : a = s + b) (w : World) :
    Calls Tryz.prog 97 #[WV a, WV b] w fun e w' => e = .returned (.tuple #[WV s, .bool false]) ∧ Below w.heap.size w w' := by
  have h' := wSub_any a b ma mb w
  rw [show decide (a < b) = false by simp; omega, ← WV_mod (a + M256 - b), show a + M256 - b = s + M256 by omega, Nat.add_mod_right, WV_mod] at h'
  exact h'
theorem fonce_as {m a x : Nat} (hm : Modu m) (g : Nat) (ma : a < M256) (h : a % m = x) (w : World) (hr : Row w g 110 (wcells m)) :
    Calls Tryz.prog 78 #[.pointer (some ⟨g, 0, none⟩), WV a] w fun e w' => e = .returned (WV x) ∧ Below w.heap.size w w' := by
  have h' := fonce_any hm a g ma w hr
  rwa [h] at h'
theorem fFold_as {m lo hi x : Nat} (hm : Modu m) (g : Nat) (mlo : lo < M256) (mhi : hi < M256) (h : (lo + hi * M256) % m = x) (w : World) (hr : Row w g 110 (wcells m)) :
    Calls Tryz.prog 90 #[.pointer (some ⟨g, 0, none⟩), WV lo, WV hi] w fun e w' => e = .returned (WV x) ∧ Below w.heap.size w w' := by
  have h' := fFold_any hm lo hi g mlo mhi w hr
  rwa [h] at h'
set_option maxRecDepth 100000 in
set_option maxHeartbeats 4000000 in
theorem fAdd_any {m : Nat} (hm : Modu m) (a : Nat) (b : Nat) (g : Nat) (ma : a < M256) (mb : b < M256) (w : World) (hr : Row w g 110 (wcells m)) :
    Calls Tryz.prog 80 #[.pointer (some ⟨g, 0, none⟩), WV a, WV b] w fun e w' => e = .returned (WV ((a + b) % m)) ∧ Below w.heap.size w w' := by
  obtain ⟨n1, H1⟩ : ∃ n, Hid (n = 1) := ⟨1, Lib.hid rfl⟩
  have h1 : n1 < 18446744073709551616 := by rw [H1.out]; decide
  have mn1 : n1 < M256 := by rw [H1.out]; decide
  have E1 : (1 : Int) = (n1 : Int) := by rw [H1.out]; rfl
  replace E1 := Lib.hid E1
  obtain ⟨x, Hx⟩ : ∃ x, Hid ((a + b) % m = x) := ⟨_, Lib.hid rfl⟩
  rw [Hx.out]
  have hM0 := mem_nil w
  unfold WV
  by_cases h : M256 ≤ a + b
  · obtain ⟨s, hs⟩ : ∃ s, a + b = s + M256 := ⟨a + b - M256, by omega⟩
    have ms : s < M256 := by omega
    have HF := Lib.hid (show (s + n1 * M256) % m = x by rw [H1.out, Nat.one_mul, ← hs, Hx.out])
    replace hs := Lib.hid hs
    clear h
    go_enter Tryz.func80, Tryz.ntmps80
    go_wp2_with (first
      | ((with_reducible change wpList _ _ _ (Oper.mk (some 4) _ _ _ _ _ :: _) _ _); refine mBox hM0 _ _ rfl rfl rfl ?_; intro w1 hM1; clear hM0; go_frame)
      | ((with_reducible change wpList _ _ _ (Oper.mk (some 5) _ _ _ _ _ :: _) _ _); refine mBox hM1 _ _ rfl rfl rfl ?_; intro w2 hM2; clear hM1; go_frame)
      | ((with_reducible change wpList _ _ _ (Oper.mk (some 6) _ _ _ _ _ :: _) _ _); refine mAlloc hM2 rfl rfl ?_; intro w3 hM3; clear hM2; go_frame)
      | ((with_reducible change wpList _ _ _ (Oper.mk (some 10) _ _ _ _ _ :: _) _ _); refine mLoad hM3 2 _ _ _ rfl rfl rfl rfl ?_; go_frame)
      | ((with_reducible change wpList _ _ _ (Oper.mk (some 11) _ _ _ _ _ :: _) _ _); refine mLoad hM3 1 _ _ _ rfl rfl rfl rfl ?_; go_frame)
      | (go_at_call 73; (with_reducible change Calls _ _ #[Value.agg (wcells a), Value.agg (wcells b)] _ _); refine (wAdd_over ma mb hs.out _).mono ?_; rintro e w4 ⟨rfl, hB4⟩; have hM4 := hM3.on hB4; clear hB4 hM3; (try unfold WV); go_frame)
      | ((with_reducible change wpList _ _ _ (Oper.mk (some 7) _ _ _ _ _ :: _) _ _); refine mAlloc hM4 rfl rfl ?_; intro w5 hM5; clear hM4; go_frame)
      | ((with_reducible change wpList _ _ _ (Oper.mk none (Op.store _ (Operand.tmp 7) (Operand.tmp 13)) _ _ _ _ :: _) _ _); refine mStoreAt hM5 0 _ _ _ _ (s) rfl rfl rfl rfl rfl ?_; intro w6 hM6; dsimp only [List.set] at hM6; clear hM5; go_frame))
    refine region_mixP [(0, true), (1, true), (2, false), (3, false)] (fun w' => Row w' (w4.heap.size) 81 (wcells (s)) ∧ True) (by kernel_rfl) (by kernel_rfl) rfl ?_
    intro w7 hBd hsd
    have hM7 := hM6.on hBd; clear hBd hsd hM6
    simp only [List.length_cons, List.length_nil, List.drop_succ_cons, List.drop_zero, List.map_cons, List.map_nil]
    dsimp only [List.filterMap, List.getElem?_cons_zero, List.getElem?_cons_succ]
    refine mixMove _ (.pointer (some ⟨g, 0, none⟩)) (by exact ⟨hM7.get 0 rfl, trivial⟩) rfl rfl rfl ?_; go_frame
    refine mixLoadRow _ _ _ _ _ _ (by exact ⟨hM7.get 0 rfl, trivial⟩) rfl rfl rfl (fun _ h => h.1) Tryz.underlying81 rfl (info_WideC _) ?_; go_frame
    refine mixLoud ?_
    refine kCall1 74 _ _ _ rfl rfl (by kernel_rfl) rfl ?_
    refine (wOf_lit n1 1 h1 E1.out _).mono ?_
    rintro e w8 ⟨rfl, hB8⟩
    have hM8 := hM7.on hB8; clear hB8 hM7
    refine ⟨_, rfl, mixOn ⟨⟨hM8.get 0 rfl, trivial⟩, ?_⟩⟩
    (try unfold WV); go_frame
    refine mixLoud ?_
    refine kCall3 90 _ _ _ _ _ _ _ rfl rfl (by kernel_rfl) rfl rfl rfl ?_
    refine (fFold_as hm g ms mn1 HF.out _ (hr.below hM8.below hr.lt)).mono ?_
    rintro e w9 ⟨rfl, hB9⟩
    have hM9 := hM8.on hB9; clear hB9 hM8
    refine ⟨_, rfl, mixOn ⟨⟨hM9.get 0 rfl, trivial⟩, ?_⟩⟩
    (try unfold WV); go_frame
    refine mixEnd ?_
    refine mStoreAt hM9 1 _ _ _ _ (x) rfl rfl rfl rfl rfl ?_
    intro w10 hM10; dsimp only [List.set] at hM10; clear hM9
    go_frame
    go_wp2_with fail
    exact result_row Tryz.results80 rfl (hM10.get 1 rfl) Tryz.underlying81 rfl (info_WideC _) rfl ⟨rfl, hM10.below⟩
  · obtain ⟨s, hs⟩ : ∃ s, a + b = s := ⟨_, rfl⟩
    have ms : s < M256 := by omega
    have HF := Lib.hid (show s % m = x by rw [← hs, Hx.out])
    replace hs := Lib.hid hs
    clear h
    go_enter Tryz.func80, Tryz.ntmps80
    go_wp2_with (first
      | ((with_reducible change wpList _ _ _ (Oper.mk (some 4) _ _ _ _ _ :: _) _ _); refine mBox hM0 _ _ rfl rfl rfl ?_; intro w1 hM1; clear hM0; go_frame)
      | ((with_reducible change wpList _ _ _ (Oper.mk (some 5) _ _ _ _ _ :: _) _ _); refine mBox hM1 _ _ rfl rfl rfl ?_; intro w2 hM2; clear hM1; go_frame)
      | ((with_reducible change wpList _ _ _ (Oper.mk (some 6) _ _ _ _ _ :: _) _ _); refine mAlloc hM2 rfl rfl ?_; intro w3 hM3; clear hM2; go_frame)
      | ((with_reducible change wpList _ _ _ (Oper.mk (some 10) _ _ _ _ _ :: _) _ _); refine mLoad hM3 2 _ _ _ rfl rfl rfl rfl ?_; go_frame)
      | ((with_reducible change wpList _ _ _ (Oper.mk (some 11) _ _ _ _ _ :: _) _ _); refine mLoad hM3 1 _ _ _ rfl rfl rfl rfl ?_; go_frame)
      | (go_at_call 73; (with_reducible change Calls _ _ #[Value.agg (wcells a), Value.agg (wcells b)] _ _); refine (wAdd_fits ma mb hs.out ms _).mono ?_; rintro e w4 ⟨rfl, hB4⟩; have hM4 := hM3.on hB4; clear hB4 hM3; (try unfold WV); go_frame)
      | ((with_reducible change wpList _ _ _ (Oper.mk (some 7) _ _ _ _ _ :: _) _ _); refine mAlloc hM4 rfl rfl ?_; intro w5 hM5; clear hM4; go_frame)
      | ((with_reducible change wpList _ _ _ (Oper.mk none (Op.store _ (Operand.tmp 7) (Operand.tmp 13)) _ _ _ _ :: _) _ _); refine mStoreAt hM5 0 _ _ _ _ (s) rfl rfl rfl rfl rfl ?_; intro w6 hM6; dsimp only [List.set] at hM6; clear hM5; go_frame)
      | ((with_reducible change wpList _ _ _ (Oper.mk (some 21) _ _ _ _ _ :: _) _ _); refine mLoad hM6 0 _ _ _ rfl rfl rfl rfl ?_; go_frame)
      | (go_at_call 78; (with_reducible change Calls _ _ #[Value.pointer (some ⟨g, 0, none⟩), Value.agg (wcells s)] _ _); refine (fonce_as hm g ms HF.out _ (hr.below hM6.below hr.lt)).mono ?_; rintro e w7 ⟨rfl, hB7⟩; have hM7 := hM6.on hB7; clear hB7 hM6; (try unfold WV); go_frame)
      | ((with_reducible change wpList _ _ _ (Oper.mk none (Op.store _ (Operand.tmp 6) (Operand.tmp 22)) _ _ _ _ :: _) _ _); refine mStoreAt hM7 1 _ _ _ _ (x) rfl rfl rfl rfl rfl ?_; intro w8 hM8; dsimp only [List.set] at hM8; clear hM7; go_frame))
    exact result_row Tryz.results80 rfl (hM8.get 1 rfl) Tryz.underlying81 rfl (info_WideC _) rfl ⟨rfl, hM8.below⟩
set_option maxRecDepth 100000 in
set_option maxHeartbeats 4000000 in
theorem fSub_any {m : Nat} (hm : Modu m) (a : Nat) (b : Nat) (g : Nat) (ma : a < M256) (mb : b < M256) (w : World) (hr : Row w g 110 (wcells m)) :
    Calls Tryz.prog 79 #[.pointer (some ⟨g, 0, none⟩), WV a, WV b] w fun e w' => e = .returned (WV ((a % m + m - b % m) % m)) ∧ Below w.heap.size w w' := by
  obtain ⟨x, Hx⟩ : ∃ x, Hid (a % m = x) := ⟨_, Lib.hid rfl⟩
  obtain ⟨y, Hy⟩ : ∃ y, Hid (b % m = y) := ⟨_, Lib.hid rfl⟩
  have hx : x < m := by rw [← Hx.out]; exact Nat.mod_lt _ hm.pos
  have hy : y < m := by rw [← Hy.out]; exact Nat.mod_lt _ hm.pos
  have hlt := hm.lt
  have mx : x < M256 := by omega
  have my : y < M256 := by omega
  rw [Hx.out, Hy.out]
  have hM0 := mem_nil w
  unfold WV
  by_cases h : x < y
  · have ms : x + M256 - y < M256 := by omega
    have hs := Lib.hid (show x + M256 - y + m = x + m - y + M256 by omega)
    have HF := Lib.hid (show (x + m - y) % m = x + m - y from Nat.mod_eq_of_lt (by omega))
    rw [HF.out]
    go_enter Tryz.func79, Tryz.ntmps79
    go_wp2_with (first
      | ((with_reducible change wpList _ _ _ (Oper.mk (some 4) _ _ _ _ _ :: _) _ _); refine mBox hM0 _ _ rfl rfl rfl ?_; intro w1 hM1; clear hM0; go_frame)
      | ((with_reducible change wpList _ _ _ (Oper.mk (some 5) _ _ _ _ _ :: _) _ _); refine mBox hM1 _ _ rfl rfl rfl ?_; intro w2 hM2; clear hM1; go_frame)
      | ((with_reducible change wpList _ _ _ (Oper.mk (some 6) _ _ _ _ _ :: _) _ _); refine mAlloc hM2 rfl rfl ?_; intro w3 hM3; clear hM2; go_frame))
    refine region_sym (fun _ => 10) [.val (.pointer (some ⟨g, 0, none⟩)), .val (.agg (wcells a)), .val (.agg (wcells x)), .val (.pointer (some ⟨g, 0, none⟩)), .val (.agg (wcells b)), .val (.agg (wcells y)), .val (.tuple #[.agg (wcells (x + M256 - y)), .bool true]), .val (.tuple #[.agg (wcells (x + M256 - y)), .bool true]), .val (.agg (wcells (x + M256 - y))), .val (.bool true), .fresh w3.heap.size 81 4, .hold w3.heap.size 81 (wcells (x + M256 - y)), .val (.bool true)] [.val (.pointer (some ⟨g, 0, none⟩)), .val (.agg (wcells a)), .val (.agg (wcells x)), .val (.pointer (some ⟨g, 0, none⟩)), .val (.agg (wcells b)), .val (.agg (wcells y)), .val (.tuple #[.agg (wcells (x + M256 - y)), .bool true]), .val (.tuple #[.agg (wcells (x + M256 - y)), .bool true]), .val (.agg (wcells (x + M256 - y))), .val (.bool true), .hold w3.heap.size 81 (wcells (x + M256 - y)), .val undef, .val (.bool true)] (by kernel_rfl) (by kernel_rfl) rfl rfl (steps_all ⟨?_, ?_, ?_, ?_, ?_, ?_, ?_, ?_, ?_, ?_, ?_, ?_, ?_, trivial⟩) ?_
    · intro A W hsz hoth hbel hdep
      exact kMoveV _ (.pointer (some ⟨g, 0, none⟩)) rfl rfl ((hoth 0 (free2_of (by kernel_rfl))).trans rfl) (symV hbel hsz rfl rfl (show 10 < 30 by decide) (Below.refl _ _) rfl)
    · intro A W hsz hoth hbel hdep
      exact kLoadRow _ _ _ _ _ _ rfl rfl ((hoth 4 (free2_of (by kernel_rfl))).trans rfl) ((hM3.get 2 rfl).below hbel (hM3.get 2 rfl).lt) Tryz.underlying81 rfl (info_WideC _) (symV hbel hsz rfl rfl (show 11 < 30 by decide) (Below.refl _ _) rfl)
    · intro A W hsz hoth hbel hdep
      refine kCall2 78 _ _ _ _ _ rfl rfl (by kernel_rfl) (by have h := hdep ⟨0, .data⟩ (by simp) rfl; exact h) (by have h := hdep ⟨1, .data⟩ (by simp) rfl; exact h) ?_
      refine (fonce_as hm g ma Hx.out W ((hr.below hM3.below hr.lt).below hbel (hr.below hM3.below hr.lt).lt)).mono ?_
      rintro e r ⟨rfl, hBc⟩
      exact ⟨_, rfl, (symV hbel hsz rfl rfl (show 12 < 30 by decide) hBc rfl)⟩
    · intro A W hsz hoth hbel hdep
      exact kMoveV _ (.pointer (some ⟨g, 0, none⟩)) rfl rfl ((hoth 0 (free2_of (by kernel_rfl))).trans rfl) (symV hbel hsz rfl rfl (show 13 < 30 by decide) (Below.refl _ _) rfl)
    · intro A W hsz hoth hbel hdep
      exact kLoadRow _ _ _ _ _ _ rfl rfl ((hoth 5 (free2_of (by kernel_rfl))).trans rfl) ((hM3.get 1 rfl).below hbel (hM3.get 1 rfl).lt) Tryz.underlying81 rfl (info_WideC _) (symV hbel hsz rfl rfl (show 14 < 30 by decide) (Below.refl _ _) rfl)
    · intro A W hsz hoth hbel hdep
      refine kCall2 78 _ _ _ _ _ rfl rfl (by kernel_rfl) (by have h := hdep ⟨3, .data⟩ (by simp) rfl; exact h) (by have h := hdep ⟨4, .data⟩ (by simp) rfl; exact h) ?_
      refine (fonce_as hm g mb Hy.out W ((hr.below hM3.below hr.lt).below hbel (hr.below hM3.below hr.lt).lt)).mono ?_
      rintro e r ⟨rfl, hBc⟩
      exact ⟨_, rfl, (symV hbel hsz rfl rfl (show 15 < 30 by decide) hBc rfl)⟩
    · intro A W hsz hoth hbel hdep
      refine kCall2 97 _ _ _ _ _ rfl rfl (by kernel_rfl) (by have h := hdep ⟨2, .data⟩ (by simp) rfl; exact h) (by have h := hdep ⟨5, .data⟩ (by simp) rfl; exact h) ?_
      refine (wSub_less mx my h W).mono ?_
      rintro e r ⟨rfl, hBc⟩
      exact ⟨_, rfl, (symV hbel hsz rfl rfl (show 16 < 30 by decide) hBc rfl)⟩
    · intro A W hsz hoth hbel hdep
      exact kMoveV _ (.tuple #[.agg (wcells (x + M256 - y)), .bool true]) rfl rfl (by have h := hdep ⟨6, .data⟩ (by simp) rfl; exact h) (symV hbel hsz rfl rfl (show 9 < 30 by decide) (Below.refl _ _) rfl)
    · intro A W hsz hoth hbel hdep
      exact kExtract _ _ _ (.agg (wcells (x + M256 - y))) rfl rfl (by have h := hdep ⟨7, .data⟩ (by simp) rfl; exact h) rfl (symV hbel hsz rfl rfl (show 17 < 30 by decide) (Below.refl _ _) rfl)
    · intro A W hsz hoth hbel hdep
      exact kExtract _ _ _ (.bool true) rfl rfl (by have h := hdep ⟨7, .data⟩ (by simp) rfl; exact h) rfl (symV hbel hsz rfl rfl (show 18 < 30 by decide) (Below.refl _ _) rfl)
    · intro A W hsz hoth hbel hdep
      refine kAllocL _ _ rfl rfl zero_Wide ?_
      intro r hR hl hBc
      exact (symV hbel hsz rfl rfl (show 7 < 30 by decide) hBc ⟨_, _, rfl, hbel.size, wcells_size _, hR⟩)
    · intro A W hsz hoth hbel hdep
      obtain ⟨g, cs, d8, hg, hcs, hR⟩ : ∃ g cs, A.tmps.getD 7 undef = .pointer (some ⟨g, 0, none⟩) ∧ w3.heap.size ≤ g ∧ cs.size = 4 ∧ Row W g 81 cs := (by have h := hdep ⟨10, .data⟩ (by simp) rfl; exact h)
      refine kStoreRow _ _ _ _ _ _ (wcells (x + M256 - y)) rfl rfl d8 (by have h := hdep ⟨8, .data⟩ (by simp) rfl; exact h) hR (info_WideC _) (by rw [wcells_size, hcs]) (wcells_one _) ?_
      intro r hR2 hW
      exact symW hbel rfl hW hg hR2 (by simp only [Singles, and_self, wcells_size]) ⟨g, d8, hg, hR2⟩
    · intro A W hsz hoth hbel hdep
      exact kAssignV _ (.bool true) rfl rfl (by have h := hdep ⟨9, .data⟩ (by simp) rfl; exact h) (symV hbel hsz rfl rfl (show 8 < 30 by decide) (Below.refl _ _) rfl)
    intro w4 hB4
    dsimp only [AllV]
    intro g4 hg4 hR4
    dsimp only [putAll]
    go_frame
    have hM4 := hM3.add hB4 hg4 hR4; clear hB4 hg4 hR4 hM3
    go_wp2_with fail
    refine region_mixA [(1, true), (2, true), (3, true), (4, true), (0, false), (5, false), (6, true), (7, true), (8, true), (9, false)] (fun w' => Row w' (g) 110 (wcells (m)) ∧ True) (by kernel_rfl) (by kernel_rfl) rfl ?_
    intro w5 hBd hsd
    have hM5 := hM4.on hBd; clear hBd hsd hM4
    simp only [List.map_cons, List.map_nil]
    dsimp only [List.filterMap, List.getElem?_cons_zero, List.getElem?_cons_succ]
    refine mixMove _ (.pointer (some ⟨g, 0, none⟩)) (by exact ⟨hr.below hM5.below hr.lt, trivial⟩) rfl rfl rfl ?_; go_frame
    refine mixNilCheck _ _ (by exact ⟨hr.below hM5.below hr.lt, trivial⟩) rfl rfl rfl ?_; go_frame
    refine mixFieldRing _ _ (by exact ⟨hr.below hM5.below hr.lt, trivial⟩) rfl rfl rfl ?_; go_frame
    refine mixLoadRow _ _ _ _ _ _ (by exact ⟨hr.below hM5.below hr.lt, trivial⟩) rfl rfl rfl (fun _ h => h.1) Tryz.underlying81 rfl (info_WideC _) ?_; go_frame
    refine mixLoud ?_
    refine mLoad hM5 0 _ _ _ rfl rfl rfl rfl ?_
    refine mixOn ⟨⟨hr.below hM5.below hr.lt, trivial⟩, ?_⟩
    go_frame
    refine mixLoud ?_
    refine kCall2 73 _ _ _ _ _ rfl rfl (by kernel_rfl) rfl rfl ?_
    refine (wAdd_over ms hm.lt hs.out _).mono ?_
    rintro e w6 ⟨rfl, hB6⟩
    have hM6 := hM5.on hB6; clear hB6 hM5
    refine ⟨_, rfl, mixOn ⟨⟨hr.below hM6.below hr.lt, trivial⟩, ?_⟩⟩
    (try unfold WV); go_frame
    refine mixMove _ (.tuple #[.agg (wcells (x + m - y)), .bool true]) (by exact ⟨hr.below hM6.below hr.lt, trivial⟩) rfl rfl rfl ?_; go_frame
    refine mixExtract _ _ _ (.agg (wcells (x + m - y))) (by exact ⟨hr.below hM6.below hr.lt, trivial⟩) rfl rfl rfl rfl ?_; go_frame
    refine mixExtract _ _ _ (.bool true) (by exact ⟨hr.below hM6.below hr.lt, trivial⟩) rfl rfl rfl rfl ?_; go_frame
    refine mixLoud ?_
    refine mStoreAt hM6 0 _ _ _ _ (x + m - y) rfl rfl rfl rfl rfl ?_
    intro w7 hM7; dsimp only [List.set] at hM7; clear hM6
    refine mixOn ⟨⟨hr.below hM7.below hr.lt, trivial⟩, ?_⟩
    go_frame
    refine mixDone ?_
    go_wp2_with (first
      | ((with_reducible change wpList _ _ _ (Oper.mk (some 29) _ _ _ _ _ :: _) _ _); refine mLoad hM7 0 _ _ _ rfl rfl rfl rfl ?_; go_frame)
      | ((with_reducible change wpList _ _ _ (Oper.mk none (Op.store _ (Operand.tmp 6) (Operand.tmp 29)) _ _ _ _ :: _) _ _); refine mStoreAt hM7 1 _ _ _ _ (x + m - y) rfl rfl rfl rfl rfl ?_; intro w8 hM8; dsimp only [List.set] at hM8; clear hM7; go_frame))
    exact result_row Tryz.results79 rfl (hM8.get 1 rfl) Tryz.underlying81 rfl (info_WideC _) rfl ⟨rfl, hM8.below⟩
  · have hs := Lib.hid (show x = x - y + y by omega)
    have HF := Lib.hid (show (x + m - y) % m = x - y by rw [show x + m - y = x - y + m by omega, Nat.add_mod_right, Nat.mod_eq_of_lt (by omega)])
    rw [HF.out]
    go_enter Tryz.func79, Tryz.ntmps79
    go_wp2_with (first
      | ((with_reducible change wpList _ _ _ (Oper.mk (some 4) _ _ _ _ _ :: _) _ _); refine mBox hM0 _ _ rfl rfl rfl ?_; intro w1 hM1; clear hM0; go_frame)
      | ((with_reducible change wpList _ _ _ (Oper.mk (some 5) _ _ _ _ _ :: _) _ _); refine mBox hM1 _ _ rfl rfl rfl ?_; intro w2 hM2; clear hM1; go_frame)
      | ((with_reducible change wpList _ _ _ (Oper.mk (some 6) _ _ _ _ _ :: _) _ _); refine mAlloc hM2 rfl rfl ?_; intro w3 hM3; clear hM2; go_frame))
    refine region_sym (fun _ => 10) [.val (.pointer (some ⟨g, 0, none⟩)), .val (.agg (wcells a)), .val (.agg (wcells x)), .val (.pointer (some ⟨g, 0, none⟩)), .val (.agg (wcells b)), .val (.agg (wcells y)), .val (.tuple #[.agg (wcells (x - y)), .bool false]), .val (.tuple #[.agg (wcells (x - y)), .bool false]), .val (.agg (wcells (x - y))), .val (.bool false), .fresh w3.heap.size 81 4, .hold w3.heap.size 81 (wcells (x - y)), .val (.bool false)] [.val (.pointer (some ⟨g, 0, none⟩)), .val (.agg (wcells a)), .val (.agg (wcells x)), .val (.pointer (some ⟨g, 0, none⟩)), .val (.agg (wcells b)), .val (.agg (wcells y)), .val (.tuple #[.agg (wcells (x - y)), .bool false]), .val (.tuple #[.agg (wcells (x - y)), .bool false]), .val (.agg (wcells (x - y))), .val (.bool false), .hold w3.heap.size 81 (wcells (x - y)), .val undef, .val (.bool false)] (by kernel_rfl) (by kernel_rfl) rfl rfl (steps_all ⟨?_, ?_, ?_, ?_, ?_, ?_, ?_, ?_, ?_, ?_, ?_, ?_, ?_, trivial⟩) ?_
    · intro A W hsz hoth hbel hdep
      exact kMoveV _ (.pointer (some ⟨g, 0, none⟩)) rfl rfl ((hoth 0 (free2_of (by kernel_rfl))).trans rfl) (symV hbel hsz rfl rfl (show 10 < 30 by decide) (Below.refl _ _) rfl)
    · intro A W hsz hoth hbel hdep
      exact kLoadRow _ _ _ _ _ _ rfl rfl ((hoth 4 (free2_of (by kernel_rfl))).trans rfl) ((hM3.get 2 rfl).below hbel (hM3.get 2 rfl).lt) Tryz.underlying81 rfl (info_WideC _) (symV hbel hsz rfl rfl (show 11 < 30 by decide) (Below.refl _ _) rfl)
    · intro A W hsz hoth hbel hdep
      refine kCall2 78 _ _ _ _ _ rfl rfl (by kernel_rfl) (by have h := hdep ⟨0, .data⟩ (by simp) rfl; exact h) (by have h := hdep ⟨1, .data⟩ (by simp) rfl; exact h) ?_
      refine (fonce_as hm g ma Hx.out W ((hr.below hM3.below hr.lt).below hbel (hr.below hM3.below hr.lt).lt)).mono ?_
      rintro e r ⟨rfl, hBc⟩
      exact ⟨_, rfl, (symV hbel hsz rfl rfl (show 12 < 30 by decide) hBc rfl)⟩
    · intro A W hsz hoth hbel hdep
      exact kMoveV _ (.pointer (some ⟨g, 0, none⟩)) rfl rfl ((hoth 0 (free2_of (by kernel_rfl))).trans rfl) (symV hbel hsz rfl rfl (show 13 < 30 by decide) (Below.refl _ _) rfl)
    · intro A W hsz hoth hbel hdep
      exact kLoadRow _ _ _ _ _ _ rfl rfl ((hoth 5 (free2_of (by kernel_rfl))).trans rfl) ((hM3.get 1 rfl).below hbel (hM3.get 1 rfl).lt) Tryz.underlying81 rfl (info_WideC _) (symV hbel hsz rfl rfl (show 14 < 30 by decide) (Below.refl _ _) rfl)
    · intro A W hsz hoth hbel hdep
      refine kCall2 78 _ _ _ _ _ rfl rfl (by kernel_rfl) (by have h := hdep ⟨3, .data⟩ (by simp) rfl; exact h) (by have h := hdep ⟨4, .data⟩ (by simp) rfl; exact h) ?_
      refine (fonce_as hm g mb Hy.out W ((hr.below hM3.below hr.lt).below hbel (hr.below hM3.below hr.lt).lt)).mono ?_
      rintro e r ⟨rfl, hBc⟩
      exact ⟨_, rfl, (symV hbel hsz rfl rfl (show 15 < 30 by decide) hBc rfl)⟩
    · intro A W hsz hoth hbel hdep
      refine kCall2 97 _ _ _ _ _ rfl rfl (by kernel_rfl) (by have h := hdep ⟨2, .data⟩ (by simp) rfl; exact h) (by have h := hdep ⟨5, .data⟩ (by simp) rfl; exact h) ?_
      refine (wSub_fits mx my hs.out W).mono ?_
      rintro e r ⟨rfl, hBc⟩
      exact ⟨_, rfl, (symV hbel hsz rfl rfl (show 16 < 30 by decide) hBc rfl)⟩
    · intro A W hsz hoth hbel hdep
      exact kMoveV _ (.tuple #[.agg (wcells (x - y)), .bool false]) rfl rfl (by have h := hdep ⟨6, .data⟩ (by simp) rfl; exact h) (symV hbel hsz rfl rfl (show 9 < 30 by decide) (Below.refl _ _) rfl)
    · intro A W hsz hoth hbel hdep
      exact kExtract _ _ _ (.agg (wcells (x - y))) rfl rfl (by have h := hdep ⟨7, .data⟩ (by simp) rfl; exact h) rfl (symV hbel hsz rfl rfl (show 17 < 30 by decide) (Below.refl _ _) rfl)
    · intro A W hsz hoth hbel hdep
      exact kExtract _ _ _ (.bool false) rfl rfl (by have h := hdep ⟨7, .data⟩ (by simp) rfl; exact h) rfl (symV hbel hsz rfl rfl (show 18 < 30 by decide) (Below.refl _ _) rfl)
    · intro A W hsz hoth hbel hdep
      refine kAllocL _ _ rfl rfl zero_Wide ?_
      intro r hR hl hBc
      exact (symV hbel hsz rfl rfl (show 7 < 30 by decide) hBc ⟨_, _, rfl, hbel.size, wcells_size _, hR⟩)
    · intro A W hsz hoth hbel hdep
      obtain ⟨g, cs, d8, hg, hcs, hR⟩ : ∃ g cs, A.tmps.getD 7 undef = .pointer (some ⟨g, 0, none⟩) ∧ w3.heap.size ≤ g ∧ cs.size = 4 ∧ Row W g 81 cs := (by have h := hdep ⟨10, .data⟩ (by simp) rfl; exact h)
      refine kStoreRow _ _ _ _ _ _ (wcells (x - y)) rfl rfl d8 (by have h := hdep ⟨8, .data⟩ (by simp) rfl; exact h) hR (info_WideC _) (by rw [wcells_size, hcs]) (wcells_one _) ?_
      intro r hR2 hW
      exact symW hbel rfl hW hg hR2 (by simp only [Singles, and_self, wcells_size]) ⟨g, d8, hg, hR2⟩
    · intro A W hsz hoth hbel hdep
      exact kAssignV _ (.bool false) rfl rfl (by have h := hdep ⟨9, .data⟩ (by simp) rfl; exact h) (symV hbel hsz rfl rfl (show 8 < 30 by decide) (Below.refl _ _) rfl)
    intro w4 hB4
    dsimp only [AllV]
    intro g4 hg4 hR4
    dsimp only [putAll]
    go_frame
    have hM4 := hM3.add hB4 hg4 hR4; clear hB4 hg4 hR4 hM3
    go_wp2_with (first
      | ((with_reducible change wpList _ _ _ (Oper.mk (some 29) _ _ _ _ _ :: _) _ _); refine mLoad hM4 0 _ _ _ rfl rfl rfl rfl ?_; go_frame)
      | ((with_reducible change wpList _ _ _ (Oper.mk none (Op.store _ (Operand.tmp 6) (Operand.tmp 29)) _ _ _ _ :: _) _ _); refine mStoreAt hM4 1 _ _ _ _ (x - y) rfl rfl rfl rfl rfl ?_; intro w5 hM5; dsimp only [List.set] at hM5; clear hM4; go_frame))
    exact result_row Tryz.results79 rfl (hM5.get 1 rfl) Tryz.underlying81 rfl (info_WideC _) rfl ⟨rfl, hM5.below⟩
set_option maxRecDepth 100000 in
set_option maxHeartbeats 4000000 in
theorem fMul_any {m : Nat} (hm : Modu m) (a : Nat) (b : Nat) (g : Nat) (ma : a < M256) (mb : b < M256) (w : World) (hr : Row w g 110 (wcells m)) :
    Calls Tryz.prog 77 #[.pointer (some ⟨g, 0, none⟩), WV a, WV b] w fun e w' => e = .returned (WV (a * b % m)) ∧ Below w.heap.size w w' := by
  obtain ⟨p, Hp⟩ : ∃ p, Hid (p = a * b % M256) := ⟨_, Lib.hid rfl⟩
  obtain ⟨q, Hq⟩ : ∃ q, Hid (q = a * b / M256) := ⟨_, Lib.hid rfl⟩
  obtain ⟨x, Hx⟩ : ∃ x, Hid (a * b % m = x) := ⟨_, Lib.hid rfl⟩
  have mp : p < M256 := by rw [Hp.out]; exact Nat.mod_lt _ M256_pos
  have mq : q < M256 := by rw [Hq.out]; exact Nat.div_lt_of_lt_mul (Nat.mul_lt_mul'' ma mb)
  have HF := Lib.hid (show (p + q * M256) % m = x by
    have h := fold_parts (a * b) 0
    rw [Nat.zero_add, Nat.zero_add] at h
    rw [Hp.out, Hq.out, h, Hx.out])
  rw [Hx.out]
  have hM0 := mem_nil w
  unfold WV
  go_enter Tryz.func77, Tryz.ntmps77
  go_wp2_with (first
    | ((with_reducible change wpList _ _ _ (Oper.mk (some 4) _ _ _ _ _ :: _) _ _); refine mBox hM0 _ _ rfl rfl rfl ?_; intro w1 hM1; clear hM0; go_frame)
    | ((with_reducible change wpList _ _ _ (Oper.mk (some 5) _ _ _ _ _ :: _) _ _); refine mBox hM1 _ _ rfl rfl rfl ?_; intro w2 hM2; clear hM1; go_frame)
    | ((with_reducible change wpList _ _ _ (Oper.mk (some 6) _ _ _ _ _ :: _) _ _); refine mAlloc hM2 rfl rfl ?_; intro w3 hM3; clear hM2; go_frame)
    | ((with_reducible change wpList _ _ _ (Oper.mk (some 8) _ _ _ _ _ :: _) _ _); refine mLoad hM3 2 _ _ _ rfl rfl rfl rfl ?_; go_frame)
    | ((with_reducible change wpList _ _ _ (Oper.mk (some 9) _ _ _ _ _ :: _) _ _); refine mLoad hM3 1 _ _ _ rfl rfl rfl rfl ?_; go_frame)
    | (go_at_call 96; (with_reducible change Calls _ _ #[Value.agg (wcells a), Value.agg (wcells b)] _ _); refine (wMul_parts a b p q ma mb Hp.out Hq.out _).mono ?_; rintro e w4 ⟨rfl, hB4⟩; have hM4 := hM3.on hB4; clear hB4 hM3; (try unfold WV); go_frame)
    | (go_at_call 90; (with_reducible change Calls _ _ #[Value.pointer (some ⟨g, 0, none⟩), Value.agg (wcells p), Value.agg (wcells q)] _ _); refine (fFold_as hm g mp mq HF.out _ (hr.below hM4.below hr.lt)).mono ?_; rintro e w5 ⟨rfl, hB5⟩; have hM5 := hM4.on hB5; clear hB5 hM4; (try unfold WV); go_frame)
    | ((with_reducible change wpList _ _ _ (Oper.mk none (Op.store _ (Operand.tmp 6) (Operand.tmp 13)) _ _ _ _ :: _) _ _); refine mStoreAt hM5 0 _ _ _ _ (x) rfl rfl rfl rfl rfl ?_; intro w6 hM6; dsimp only [List.set] at hM6; clear hM5; go_frame))
  exact result_row Tryz.results77 rfl (hM6.get 0 rfl) Tryz.underlying81 rfl (info_WideC _) rfl ⟨rfl, hM6.below⟩
set_option maxRecDepth 100000 in
set_option maxHeartbeats 4000000 in
theorem fIn_any {m : Nat} (hm : Modu m) (a : Nat) (g : Nat) (ma : a < M256) (w : World) (hr : Row w g 110 (wcells m)) :
    Calls Tryz.prog 61 #[.pointer (some ⟨g, 0, none⟩), WV a] w fun e w' => e = .returned (.bool (decide (a < m))) ∧ Below w.heap.size w w' := by
  have hM0 := mem_nil w
  unfold WV
  go_enter Tryz.func61, Tryz.ntmps61
  go_wp2_with (first
    | ((with_reducible change wpList _ _ _ (Oper.mk (some 3) _ _ _ _ _ :: _) _ _); refine mBox hM0 _ _ rfl rfl rfl ?_; intro w1 hM1; clear hM0; go_frame))
  refine region_sym (fun _ => 0) [.val (.agg (wcells a)), .val (.pointer (some ⟨g, 0, none⟩)), .val (.pointer (some ⟨g, 0, none⟩)), .val (.pointer (some ⟨g, 0, none⟩)), .val (.agg (wcells m)), .val (.bool (decide (a < m))), .val (.bool (decide (a < m)))] [.val (.agg (wcells a)), .val (.pointer (some ⟨g, 0, none⟩)), .val (.pointer (some ⟨g, 0, none⟩)), .val (.pointer (some ⟨g, 0, none⟩)), .val (.agg (wcells m)), .val (.bool (decide (a < m))), .val (.bool (decide (a < m)))] (by kernel_rfl) (by kernel_rfl) rfl rfl (steps_all ⟨?_, ?_, ?_, ?_, ?_, ?_, ?_, trivial⟩) ?_
  · intro A W hsz hoth hbel hdep
    exact kLoadRow _ _ _ _ _ _ rfl rfl ((hoth 3 (free2_of (by kernel_rfl))).trans rfl) ((hM1.get 0 rfl).below hbel (hM1.get 0 rfl).lt) Tryz.underlying81 rfl (info_WideC _) (symV hbel hsz rfl rfl (show 5 < 11 by decide) (Below.refl _ _) rfl)
  · intro A W hsz hoth hbel hdep
    exact kMoveV _ (.pointer (some ⟨g, 0, none⟩)) rfl rfl ((hoth 0 (free2_of (by kernel_rfl))).trans rfl) (symV hbel hsz rfl rfl (show 6 < 11 by decide) (Below.refl _ _) rfl)
  · intro A W hsz hoth hbel hdep
    exact kNilCheck _ _ rfl rfl (by have h := hdep ⟨1, .data⟩ (by simp) rfl; exact h) (symV hbel hsz rfl rfl (show 7 < 11 by decide) (Below.refl _ _) rfl)
  · intro A W hsz hoth hbel hdep
    exact kFieldRing _ _ rfl rfl (by have h := hdep ⟨2, .data⟩ (by simp) rfl; exact h) (symV hbel hsz rfl rfl (show 8 < 11 by decide) (Below.refl _ _) rfl)
  · intro A W hsz hoth hbel hdep
    exact kLoadRow _ _ _ _ _ _ rfl rfl (by have h := hdep ⟨3, .data⟩ (by simp) rfl; exact h) ((hr.below hM1.below hr.lt).below hbel (hr.below hM1.below hr.lt).lt) Tryz.underlying81 rfl (info_WideC _) (symV hbel hsz rfl rfl (show 9 < 11 by decide) (Below.refl _ _) rfl)
  · intro A W hsz hoth hbel hdep
    refine kCall2 81 _ _ _ _ _ rfl rfl (by kernel_rfl) (by have h := hdep ⟨0, .data⟩ (by simp) rfl; exact h) (by have h := hdep ⟨4, .data⟩ (by simp) rfl; exact h) ?_
    refine (wLess_any a m ma hm.lt W).mono ?_
    rintro e r ⟨rfl, hBc⟩
    exact ⟨_, rfl, (symV hbel hsz rfl rfl (show 10 < 11 by decide) hBc rfl)⟩
  · intro A W hsz hoth hbel hdep
    exact kAssignV _ (.bool (decide (a < m))) rfl rfl (by have h := hdep ⟨5, .data⟩ (by simp) rfl; exact h) (symV hbel hsz rfl rfl (show 4 < 11 by decide) (Below.refl _ _) rfl)
  intro w2 hB2
  dsimp only [AllV]
  dsimp only [putAll]
  go_frame
  have hM2 := hM1.on hB2; clear hB2 hM1
  go_wp2_with fail
  go_ret
  exact ⟨rfl, hM2.below⟩
set_option maxRecDepth 100000 in
set_option maxHeartbeats 4000000 in
theorem fModulus_any {m : Nat} (_hm : Modu m) (g : Nat) (w : World) (hr : Row w g 110 (wcells m)) :
    Calls Tryz.prog 83 #[.pointer (some ⟨g, 0, none⟩)] w fun e w' => e = .returned (WV m) ∧ Below w.heap.size w w' := by
  have hM0 := mem_nil w
  unfold WV
  go_enter Tryz.func83, Tryz.ntmps83
  go_wp2_with (first
    | ((with_reducible change wpList _ _ _ (Oper.mk (some 2) _ _ _ _ _ :: _) _ _); refine mAlloc hM0 rfl rfl ?_; intro w1 hM1; clear hM0; go_frame)
    | ((with_reducible change wpList _ _ _ (Oper.mk (some 5) _ _ _ _ _ :: _) _ _); refine kFieldRing _ _ rfl rfl rfl ?_; go_frame)
    | ((with_reducible change wpList _ _ _ (Oper.mk (some 6) _ _ _ _ _ :: _) _ _); refine kLoadRow _ _ _ _ _ _ rfl rfl rfl (hr.below hM1.below hr.lt) Tryz.underlying81 rfl (info_WideC _) ?_; go_frame)
    | ((with_reducible change wpList _ _ _ (Oper.mk none (Op.store _ (Operand.tmp 2) (Operand.tmp 6)) _ _ _ _ :: _) _ _); refine mStoreAt hM1 0 _ _ _ _ (m) rfl rfl rfl rfl rfl ?_; intro w2 hM2; dsimp only [List.set] at hM2; clear hM1; go_frame))
  exact result_row Tryz.results83 rfl (hM2.get 0 rfl) Tryz.underlying81 rfl (info_WideC _) rfl ⟨rfl, hM2.below⟩
end Go.Proofs.YtnaclalbeocpkaaGreatDoor

/-
  The walk of field's Pow: a number to any power.
-/
namespace Go.Proofs.YtnaclalbeocpkaaGreatDoor
open Go Go.RowKit

theorem fMul_as {m a b x : Nat} (hm : Modu m) (g : Nat) (ma : a < M256) (mb : b < M256) (h : a * b % m = x) (w : World) (hr : Row w g 110 (wcells m)) :
    Calls Tryz.prog 77 #[.pointer (some ⟨g, 0, none⟩), WV a, WV b] w fun e w' => e = .returned (WV x) ∧ Below w.heap.size w w' := by
  have h' := fMul_any hm a b g ma mb w hr
  rwa [h] at h'
theorem limb_shr1 (n N : Nat) : limb n (N / 64) / 2 ^ (N % 64) % 2 = n / 2 ^ N % 2 := by
  unfold limb P64
  rw [show (18446744073709551616 : Nat) = 2 ^ 64 by decide, ← Nat.pow_mul]
  generalize hx : n / 2 ^ (64 * (N / 64)) = x
  have e1 : x % 2 ^ 64 / 2 ^ (N % 64) % 2 = x / 2 ^ (N % 64) % 2 := by
    have hr : N % 64 < 64 := Nat.mod_lt _ (by decide)
    generalize N % 64 = r at hr
    have e2 : (2 : Nat) ^ 64 = 2 ^ r * (2 * 2 ^ (63 - r)) := by rw [← Nat.pow_succ', ← Nat.pow_add]; congr 1; omega
    rw [e2, Nat.mod_mul_right_div_self, Nat.mod_mul_right_mod]
  rw [e1, ← hx, Nat.div_div_eq_div_mul, ← Nat.pow_add, Nat.div_add_mod]
theorem bit_and (n N : Nat) (b : Nat) (h : n / 2 ^ N % 2 = b) : bits BinOp.and IntKind.u64 ((limb n (N / 64) : Int) / 2 ^ (N % 64)) 1 = (b : Int) := by
  have e : ((limb n (N / 64) : Int) / 2 ^ (N % 64)) = ((limb n (N / 64) / 2 ^ (N % 64) : Nat) : Int) := by push_cast; rfl
  have hl := limb_lt n (N / 64)
  have hd : limb n (N / 64) / 2 ^ (N % 64) ≤ limb n (N / 64) := Nat.div_le_self _ _
  rw [← h, ← limb_shr1, e]
  generalize limb n (N / 64) / 2 ^ (N % 64) = x at hd
  rw [and_one_u64 _ (by omega) (by omega)]
  push_cast; rfl
/-- the power's next round -/
theorem pow_even {a n k m p : Nat} (h : p % m = a ^ (n / 2 ^ (k + 1)) % m) (hb : n / 2 ^ k % 2 = 0) : p * p % m = a ^ (n / 2 ^ k) % m := by
  have e : n / 2 ^ k = n / 2 ^ (k + 1) + n / 2 ^ (k + 1) := by rw [Nat.pow_succ, ← Nat.div_div_eq_div_mul]; omega
  rw [e, Nat.pow_add, Nat.mul_mod, h, ← Nat.mul_mod]
theorem pow_odd {a n k m p q : Nat} (h : p % m = a ^ (n / 2 ^ (k + 1)) % m) (hq : p * p % m = q) (hb : n / 2 ^ k % 2 = 1) : q * a % m = a ^ (n / 2 ^ k) % m := by
  have e : n / 2 ^ k = n / 2 ^ (k + 1) + n / 2 ^ (k + 1) + 1 := by rw [Nat.pow_succ, ← Nat.div_div_eq_div_mul]; omega
  rw [e, Nat.pow_succ, Nat.pow_add, ← hq, Nat.mod_mul_mod, Nat.mul_mod (p * p) a, Nat.mul_mod p p, h, ← Nat.mul_mod (a ^ _) (a ^ _), ← Nat.mul_mod]
set_option maxRecDepth 100000 in
set_option maxHeartbeats 4000000 in
theorem fPow_any {m : Nat} (hm : Modu m) (a : Nat) (n : Nat) (g : Nat) (ma : a < M256) (mn : n < M256) (w : World) (hr : Row w g 110 (wcells m)) :
    Calls Tryz.prog 75 #[.pointer (some ⟨g, 0, none⟩), WV a, WV n] w fun e w' => e = .returned (WV (a ^ n % m)) ∧ Below w.heap.size w w' := by
  obtain ⟨n1, H1⟩ : ∃ n, Hid (n = 1) := ⟨1, Lib.hid rfl⟩
  have h1 : n1 < 18446744073709551616 := by rw [H1.out]; decide
  have mn1 : n1 < M256 := by rw [H1.out]; decide
  have E1 : (1 : Int) = (n1 : Int) := by rw [H1.out]; rfl
  replace E1 := Lib.hid E1
  have hbl : blen n ≤ 256 := (blen_le n 256).2 mn
  have hM0 := mem_nil w
  unfold WV
  go_enter Tryz.func75, Tryz.ntmps75
  go_wp2_with (first
    | ((with_reducible change wpList _ _ _ (Oper.mk (some 4) _ _ _ _ _ :: _) _ _); refine mBox hM0 _ _ rfl rfl rfl ?_; intro w1 hM1; clear hM0; go_frame)
    | ((with_reducible change wpList _ _ _ (Oper.mk (some 5) _ _ _ _ _ :: _) _ _); refine mBox hM1 _ _ rfl rfl rfl ?_; intro w2 hM2; clear hM1; go_frame)
    | ((with_reducible change wpList _ _ _ (Oper.mk (some 6) _ _ _ _ _ :: _) _ _); refine mAlloc hM2 rfl rfl ?_; intro w3 hM3; clear hM2; go_frame)
    | (go_at_call 74; (with_reducible change Calls _ _ #[Value.int .u64 (1)] _ _); refine (wOf_lit n1 1 h1 E1.out _).mono ?_; rintro e w4 ⟨rfl, hB4⟩; have hM4 := hM3.on hB4; clear hB4 hM3; (try unfold WV); go_frame)
    | ((with_reducible change wpList _ _ _ (Oper.mk (some 7) _ _ _ _ _ :: _) _ _); refine mAlloc hM4 rfl rfl ?_; intro w5 hM5; clear hM4; go_frame)
    | ((with_reducible change wpList _ _ _ (Oper.mk none (Op.store _ (Operand.tmp 7) (Operand.tmp 9)) _ _ _ _ :: _) _ _); refine mStoreAt hM5 0 _ _ _ _ (n1) rfl rfl rfl rfl rfl ?_; intro w6 hM6; dsimp only [List.set] at hM6; clear hM5; go_frame)
    | ((with_reducible change wpList _ _ _ (Oper.mk (some 10) _ _ _ _ _ :: _) _ _); refine mLoad hM6 2 _ _ _ rfl rfl rfl rfl ?_; go_frame)
    | (go_at_call 84; (with_reducible change Calls _ _ #[Value.agg (wcells n)] _ _); refine (wBits_any n mn _).mono ?_; rintro e w7 ⟨rfl, hB7⟩; have hM7 := hM6.on hB7; clear hB7 hM6; (try unfold WV); go_frame))
  have hm1 : n1 < m := by rw [H1.out]; have := hm.gt; have : 2 < M256 := by decide
                          omega
  go_loopw [8] (fun i wr => ∃ (z : Int) (p : Nat), i = .int .i64 z ∧ -1 ≤ z ∧ z ≤ 255 ∧ p < m ∧ Hid (p % m = a ^ (n / 2 ^ (z + 1).toNat) % m) ∧ Mem w wr [(w4.heap.size, p), (w2.heap.size, 0), (w1.heap.size, n), (w.heap.size, a)]) (fun i _ => (intOf i + 1).toNat)
  case atStart => exact ⟨_, n1, rfl, by omega, by omega, hm1, Lib.hid (by rw [show ((blen n : Int) - 1 + 1).toNat = blen n by omega, Nat.div_eq_of_lt (blen_lt n), H1.out, Nat.pow_zero]), hM7⟩
  case round =>
    obtain ⟨z, p, rfl, hz1, hz2, hp, HI, hM0⟩ := hrel
    clear hM7
    have mp : p < M256 := Nat.lt_trans hp hm.lt
    by_cases hz : 0 ≤ z
    · obtain ⟨N, rfl⟩ := Int.eq_ofNat_of_zero_le hz
      have hd : decide ((N : Int) ≥ 0) = true := by simp
      have hI := HI.out
      rw [show ((N : Int) + 1).toNat = N + 1 by omega] at hI
      obtain ⟨q, Hq⟩ : ∃ q, Hid (p * p % m = q) := ⟨_, Lib.hid rfl⟩
      have hq : q < m := by rw [← Hq.out]; exact Nat.mod_lt _ hm.pos
      have mq : q < M256 := Nat.lt_trans hq hm.lt
      have Hbit := Lib.hid (show limb n (N / 64) / 2 ^ (N % 64) % 2 = n / 2 ^ N % 2 from limb_shr1 n N)
      by_cases hbit : n / 2 ^ N % 2 = 1
      · have hb : bits BinOp.and IntKind.u64 ((limb n (N / 64) : Int) / 2 ^ (N % 64)) 1 = 1 := bit_and n N 1 hbit
        obtain ⟨r, Hr⟩ : ∃ r, Hid (q * a % m = r) := ⟨_, Lib.hid rfl⟩
        have hr' : r < m := by rw [← Hr.out]; exact Nat.mod_lt _ hm.pos
        have mr : r < M256 := Nat.lt_trans hr' hm.lt
        have HN := Lib.hid (pow_odd hI Hq.out hbit)
        rw [Hr.out] at HN
        clear hbit hI HI
        go_wp2_with (first
          | ((with_reducible change wpList _ _ _ (Oper.mk (some 18) _ _ _ _ _ :: _) _ _); refine mLoad hM0 0 _ _ _ rfl rfl rfl rfl ?_; go_frame)
          | ((with_reducible change wpList _ _ _ (Oper.mk (some 19) _ _ _ _ _ :: _) _ _); refine mLoad hM0 0 _ _ _ rfl rfl rfl rfl ?_; go_frame)
          | (go_at_call 77; (with_reducible change Calls _ _ #[Value.pointer (some ⟨g, 0, none⟩), Value.agg (wcells p), Value.agg (wcells p)] _ _); refine (fMul_as hm g mp mp Hq.out _ (hr.below hM0.below hr.lt)).mono ?_; rintro e w101 ⟨rfl, hB101⟩; have hM101 := hM0.on hB101; clear hB101 hM0; (try unfold WV); go_frame)
          | ((with_reducible change wpList _ _ _ (Oper.mk none (Op.store _ (Operand.tmp 7) (Operand.tmp 20)) _ _ _ _ :: _) _ _); refine mStoreAt hM101 0 _ _ _ _ (q) rfl rfl rfl rfl rfl ?_; intro w102 hM102; dsimp only [List.set] at hM102; clear hM101; go_frame)
          | ((with_reducible change wpList _ _ _ (Oper.mk (some 23) _ _ _ _ _ :: _) _ _); refine kIndexAddr1 _ _ _ _ _ _ _ (N / 64) _ rfl rfl rfl rfl Tryz.underlying81 info_w64 (by omega) (by omega) ?_; go_frame)
          | ((with_reducible change wpList _ _ _ (Oper.mk (some 24) _ _ _ _ _ :: _) _ _); refine kLoad1 _ _ _ _ _ _ _ _ rfl rfl rfl (hM102.get 2 rfl) Tryz.underlying79 rfl (wcells_get n (N / 64) (by omega)) ?_; go_frame)
          | ((with_reducible change wpList _ _ _ (Oper.mk (some 31) _ _ _ _ _ :: _) _ _); refine mLoad hM102 0 _ _ _ rfl rfl rfl rfl ?_; go_frame)
          | ((with_reducible change wpList _ _ _ (Oper.mk (some 32) _ _ _ _ _ :: _) _ _); refine mLoad hM102 3 _ _ _ rfl rfl rfl rfl ?_; go_frame)
          | (go_at_call 77; (with_reducible change Calls _ _ #[Value.pointer (some ⟨g, 0, none⟩), Value.agg (wcells q), Value.agg (wcells a)] _ _); refine (fMul_as hm g mq ma Hr.out _ (hr.below hM102.below hr.lt)).mono ?_; rintro e w103 ⟨rfl, hB103⟩; have hM103 := hM102.on hB103; clear hB103 hM102; (try unfold WV); go_frame)
          | ((with_reducible change wpList _ _ _ (Oper.mk none (Op.store _ (Operand.tmp 7) (Operand.tmp 33)) _ _ _ _ :: _) _ _); refine mStoreAt hM103 0 _ _ _ _ (r) rfl rfl rfl rfl rfl ?_; intro w104 hM104; dsimp only [List.set] at hM104; clear hM103; go_frame))
        go_roundw
        case rel => exact ⟨(N : Int) - 1, r, by go_num, by omega, by omega, hr', Lib.hid (by rw [show ((N : Int) - 1 + 1).toNat = N by omega, Nat.mod_eq_of_lt hr']; exact HN.out), hM104⟩
        case measure => simp [intOf]; try omega
      · have hb : bits BinOp.and IntKind.u64 ((limb n (N / 64) : Int) / 2 ^ (N % 64)) 1 = 0 := bit_and n N 0 (by omega)
        have HN := Lib.hid (pow_even hI (show n / 2 ^ N % 2 = 0 by omega))
        rw [Hq.out] at HN
        clear hbit hI HI
        go_wp2_with (first
          | ((with_reducible change wpList _ _ _ (Oper.mk (some 18) _ _ _ _ _ :: _) _ _); refine mLoad hM0 0 _ _ _ rfl rfl rfl rfl ?_; go_frame)
          | ((with_reducible change wpList _ _ _ (Oper.mk (some 19) _ _ _ _ _ :: _) _ _); refine mLoad hM0 0 _ _ _ rfl rfl rfl rfl ?_; go_frame)
          | (go_at_call 77; (with_reducible change Calls _ _ #[Value.pointer (some ⟨g, 0, none⟩), Value.agg (wcells p), Value.agg (wcells p)] _ _); refine (fMul_as hm g mp mp Hq.out _ (hr.below hM0.below hr.lt)).mono ?_; rintro e w101 ⟨rfl, hB101⟩; have hM101 := hM0.on hB101; clear hB101 hM0; (try unfold WV); go_frame)
          | ((with_reducible change wpList _ _ _ (Oper.mk none (Op.store _ (Operand.tmp 7) (Operand.tmp 20)) _ _ _ _ :: _) _ _); refine mStoreAt hM101 0 _ _ _ _ (q) rfl rfl rfl rfl rfl ?_; intro w102 hM102; dsimp only [List.set] at hM102; clear hM101; go_frame)
          | ((with_reducible change wpList _ _ _ (Oper.mk (some 23) _ _ _ _ _ :: _) _ _); refine kIndexAddr1 _ _ _ _ _ _ _ (N / 64) _ rfl rfl rfl rfl Tryz.underlying81 info_w64 (by omega) (by omega) ?_; go_frame)
          | ((with_reducible change wpList _ _ _ (Oper.mk (some 24) _ _ _ _ _ :: _) _ _); refine kLoad1 _ _ _ _ _ _ _ _ rfl rfl rfl (hM102.get 2 rfl) Tryz.underlying79 rfl (wcells_get n (N / 64) (by omega)) ?_; go_frame))
        go_roundw
        case rel => exact ⟨(N : Int) - 1, q, by go_num, by omega, by omega, hq, Lib.hid (by rw [show ((N : Int) - 1 + 1).toNat = N by omega, Nat.mod_eq_of_lt hq]; exact HN.out), hM102⟩
        case measure => simp [intOf]; try omega
    · have hd : decide (z ≥ 0) = false := by simp; omega
      have HE := Lib.hid (show wcells p = wcells (a ^ n % m) by have h := HI.out; rw [show (z + 1).toNat = 0 by omega, Nat.pow_zero, Nat.div_one, Nat.mod_eq_of_lt hp] at h; rw [h])
      go_wp2_with (first
        | ((with_reducible change wpList _ _ _ (Oper.mk (some 34) _ _ _ _ _ :: _) _ _); refine mLoad hM0 0 _ _ _ rfl rfl rfl rfl ?_; go_frame)
        | ((with_reducible change wpList _ _ _ (Oper.mk none (Op.store _ (Operand.tmp 6) (Operand.tmp 34)) _ _ _ _ :: _) _ _); refine mStoreAt hM0 1 _ _ _ _ (p) rfl rfl rfl rfl rfl ?_; intro w101 hM101; dsimp only [List.set] at hM101; clear hM0; go_frame))
      exact result_row Tryz.results75 rfl (hM101.get 1 rfl) Tryz.underlying81 rfl (info_WideC _) rfl ⟨by rw [HE.out], hM101.below⟩

end Go.Proofs.YtnaclalbeocpkaaGreatDoor

/-
  The walks of field's P, N, Inv and Root, and of the statements' own 'ring'.
-/
namespace Go.Proofs.YtnaclalbeocpkaaGreatDoor
open Go Go.RowKit

/-- the program's variable k holds the number m -/
def Glob (k m : Nat) (w : World) : Prop := ∀ j, j < 4 → w.cell? ⟨k, j, none⟩ = some (.int .u64 (limb m j : Int))
theorem Glob.below {k m : Nat} {w w' : World} (h : Glob k m w) (hb : Below w.heap.size w w') : Glob k m w' := fun j hj => by
  have := h j hj
  rw [hb.cell (block_lt_of_cell this)]; exact this
theorem Glob.mem {k m : Nat} {w0 w : World} {l : List (Nat × Nat)} (h : Glob k m w0) (hM : Mem w0 w l) : Glob k m w := h.below hM.below
section
variable {ops : Array Oper} {Q : Exit → Act → World → Prop} {rest : List Oper} {o : Oper} {a : Act} {w : World}
theorem run_loadG {k m : Nat} (hG : Glob k m w) : (loadVar 81 ⟨k, 0, none⟩).run Tryz.prog w = .ok (.agg (wcells m)) w := by
  have hl : (loadCells ⟨k, 0, none⟩ (wcells m).toList.length).run Tryz.prog w = .ok (wcells m).toList.toArray w :=
    run_loadCells_list (P := Tryz.prog) w ⟨k, 0, none⟩ (wcells m).toList (fun j v hv => by
      rw [add_none, Nat.zero_add]
      have hv' : (wcells m)[j]? = some v := by rw [← Array.getElem?_toList]; exact hv
      have hj : j < 4 := by
        rcases Nat.lt_or_ge j 4 with h | h
        · exact h
        · rw [Array.getElem?_eq_none (by rw [wcells_size]; exact h)] at hv'; cases hv'
      rw [wcells_get m j hj] at hv'
      rw [hG j hj]; exact hv')
  have hi := info_Wide
  cases hq : Tryz.prog.info? 81 with
  | none => rw [hq] at hi; cases hi
  | some i =>
    have hs : i.size = 4 := by simpa [hq] using hi
    rw [Array.length_toList, wcells_size, Array.toArray_toList] at hl
    simp [loadVar, Sem.run_bind, run_isAgg Tryz.underlying81, aggDesc, sizeOf, typeInfo, hq, hs, hl]
theorem kLoadG (x : Operand) (k m : Nat) (ho : o.op = .load 81 x) (hg : Region.wanted o (yielded ops a.tmps) = true) (hx : a.eval x = .pointer (some ⟨k, 0, none⟩)) (hG : Glob k m w)
    (h : wpList Tryz.prog ops Q rest (a.put o.dst (.agg (wcells m))) w) : wpList Tryz.prog ops Q (o :: rest) a w :=
  kPure _ hg (by unfold execOp; simp only [ho, hx, Instr.loadAt, Instr.sureAddr, Sem.run_bind, Sem.run_pure, Result.andThen_ok, run_loadG hG]) h
theorem built_ring (v0 v1 v2 v3 : Value) : Tryz.prog.built 110 [(0, .agg #[v0, v1, v2, v3])] = some #[v0, v1, v2, v3] := by kernel_rfl
theorem wcells_lit (n : Nat) : wcells n = #[.int .u64 (limb n 0 : Int), .int .u64 (limb n 1 : Int), .int .u64 (limb n 2 : Int), .int .u64 (limb n 3 : Int)] := rfl
theorem kBuildRing (x : Operand) (n : Nat) (ho : o.op = .build 110 #[(0, x)]) (hg : Region.wanted o (yielded ops a.tmps) = true) (hx : a.eval x = .agg (wcells n))
    (h : wpList Tryz.prog ops Q rest (a.put o.dst (.agg (wcells n))) w) : wpList Tryz.prog ops Q (o :: rest) a w := by
  refine kPure _ hg ?_ h
  unfold execOp
  simp only [ho, Sem.run_bind]
  have := run_build w 110 #[(0, .agg (wcells n))] (wcells n) (by rw [wcells_lit]; exact built_ring _ _ _ _)
  simp [hx, this]
end
theorem modu_P : Modu PP := ⟨by decide, by decide⟩
theorem modu_N : Modu NN := ⟨by decide, by decide⟩
set_option maxRecDepth 100000 in
set_option maxHeartbeats 4000000 in
theorem fP_any (m : Nat) (w : World) (hG : Glob 2 m w) :
    Calls Tryz.prog 58 #[] w fun e w' => e = .returned (.pointer (some ⟨w.heap.size, 0, none⟩)) ∧ Row w' w.heap.size 110 (wcells m) ∧ Below w.heap.size w w' := by
  go_enter Tryz.func58, Tryz.ntmps58
  go_wp2_with (first
    | ((with_reducible change wpList _ _ _ (Oper.mk (some 1) _ _ _ _ _ :: _) _ _); refine kLoadG _ _ _ rfl rfl rfl hG ?_; go_frame)
    | ((with_reducible change wpList _ _ _ (Oper.mk (some 2) _ _ _ _ _ :: _) _ _); refine kBuildRing _ m rfl rfl rfl ?_; go_frame)
    | ((with_reducible change wpList _ _ _ (Oper.mk (some 3) _ _ _ _ _ :: _) _ _); refine kBoxL _ _ _ rfl rfl rfl ?_; intro w1 hR1 hl1 hB1; go_frame))
  go_ret
  exact ⟨rfl, hR1, hB1⟩
set_option maxRecDepth 100000 in
set_option maxHeartbeats 4000000 in
theorem fN_any (m : Nat) (w : World) (hG : Glob 4 m w) :
    Calls Tryz.prog 82 #[] w fun e w' => e = .returned (.pointer (some ⟨w.heap.size, 0, none⟩)) ∧ Row w' w.heap.size 110 (wcells m) ∧ Below w.heap.size w w' := by
  go_enter Tryz.func82, Tryz.ntmps82
  go_wp2_with (first
    | ((with_reducible change wpList _ _ _ (Oper.mk (some 1) _ _ _ _ _ :: _) _ _); refine kLoadG _ _ _ rfl rfl rfl hG ?_; go_frame)
    | ((with_reducible change wpList _ _ _ (Oper.mk (some 2) _ _ _ _ _ :: _) _ _); refine kBuildRing _ m rfl rfl rfl ?_; go_frame)
    | ((with_reducible change wpList _ _ _ (Oper.mk (some 3) _ _ _ _ _ :: _) _ _); refine kBoxL _ _ _ rfl rfl rfl ?_; intro w1 hR1 hl1 hB1; go_frame))
  go_ret
  exact ⟨rfl, hR1, hB1⟩
set_option maxRecDepth 100000 in
set_option maxHeartbeats 4000000 in
theorem fInv_zero {m : Nat} (hm : Modu m) (a : Nat) (g : Nat) (ma : a < M256) (h0 : a % m = 0) (w : World) (hr : Row w g 110 (wcells m)) :
    Calls Tryz.prog 89 #[.pointer (some ⟨g, 0, none⟩), WV a] w fun e w' => e = .returned (.tuple #[WV 0, .int .i64 31]) ∧ Below w.heap.size w w' := by
  have hM0 := mem_nil w
  unfold WV
  go_enter Tryz.func89, Tryz.ntmps89
  go_wp2_with (first
    | ((with_reducible change wpList _ _ _ (Oper.mk (some 3) _ _ _ _ _ :: _) _ _); refine mBox hM0 _ _ rfl rfl rfl ?_; intro w1 hM1; clear hM0; go_frame)
    | ((with_reducible change wpList _ _ _ (Oper.mk (some 4) _ _ _ _ _ :: _) _ _); refine mAlloc hM1 rfl rfl ?_; intro w2 hM2; clear hM1; go_frame)
    | ((with_reducible change wpList _ _ _ (Oper.mk (some 9) _ _ _ _ _ :: _) _ _); refine mLoad hM2 1 _ _ _ rfl rfl rfl rfl ?_; go_frame)
    | (go_at_call 78; (with_reducible change Calls _ _ #[Value.pointer (some ⟨g, 0, none⟩), Value.agg (wcells a)] _ _); refine (fonce_as hm g ma h0 _ (hr.below hM2.below hr.lt)).mono ?_; rintro e w3 ⟨rfl, hB3⟩; have hM3 := hM2.on hB3; clear hB3 hM2; (try unfold WV); go_frame)
    | ((with_reducible change wpList _ _ _ (Oper.mk (some 11) _ _ _ _ _ :: _) _ _); refine kBuildW0 rfl rfl ?_; go_frame)
    | ((with_reducible change wpList _ _ _ (Oper.mk (some 12) _ _ _ _ _ :: _) _ _); refine kEqlW _ _ _ (0) (0) true rfl rfl rfl rfl (by simp) ?_; go_frame)
    | ((with_reducible change wpList _ _ _ (Oper.mk (some 13) _ _ _ _ _ :: _) _ _); refine kBuildW0 rfl rfl ?_; go_frame)
    | ((with_reducible change wpList _ _ _ (Oper.mk none (Op.store _ (Operand.tmp 4) (Operand.tmp 13)) _ _ _ _ :: _) _ _); refine mStoreAt hM3 0 _ _ _ _ (0) rfl rfl rfl rfl rfl ?_; intro w4 hM4; dsimp only [List.set] at hM4; clear hM3; go_frame))
  exact result_row_tmp Tryz.results89 rfl rfl (hM4.get 0 rfl) Tryz.underlying81 rfl (info_WideC _) rfl ⟨rfl, hM4.below⟩
set_option maxRecDepth 100000 in
set_option maxHeartbeats 4000000 in
theorem fInv_pos {m : Nat} (hm : Modu m) (a : Nat) (g : Nat) (ma : a < M256) (h0 : a % m ≠ 0) (w : World) (hr : Row w g 110 (wcells m)) :
    Calls Tryz.prog 89 #[.pointer (some ⟨g, 0, none⟩), WV a] w fun e w' => e = .returned (.tuple #[WV (a ^ (m - 2) % m), .int .i64 0]) ∧ Below w.heap.size w w' := by
  obtain ⟨n2, H2⟩ : ∃ n, Hid (n = 2) := ⟨2, Lib.hid rfl⟩
  have h2 : n2 < 18446744073709551616 := by rw [H2.out]; decide
  have mn2 : n2 < M256 := by rw [H2.out]; decide
  have E2 : (2 : Int) = (n2 : Int) := by rw [H2.out]; rfl
  replace E2 := Lib.hid E2
  obtain ⟨x, Hx⟩ : ∃ x, Hid (a % m = x) := ⟨_, Lib.hid rfl⟩
  have mx : x < M256 := by rw [← Hx.out]; exact hm.mod _
  have D := Lib.hid (show decide (x % M256 = 0 % M256) = false by rw [Nat.mod_eq_of_lt mx, ← Hx.out, Nat.zero_mod]; exact decide_eq_false h0)
  obtain ⟨k, Hk⟩ : ∃ k, Hid (k = m - 2) := ⟨_, Lib.hid rfl⟩
  have hs : m = k + n2 := by rw [Hk.out, H2.out]; have := hm.gt; have : 4 < M256 := by decide
                             omega
  replace hs := Lib.hid hs
  have mk : k < M256 := by rw [Hk.out]; have := hm.lt; omega
  rw [← Hk.out]
  clear h0
  have hM0 := mem_nil w
  unfold WV
  go_enter Tryz.func89, Tryz.ntmps89
  go_wp2_with (first
    | ((with_reducible change wpList _ _ _ (Oper.mk (some 3) _ _ _ _ _ :: _) _ _); refine mBox hM0 _ _ rfl rfl rfl ?_; intro w1 hM1; clear hM0; go_frame)
    | ((with_reducible change wpList _ _ _ (Oper.mk (some 4) _ _ _ _ _ :: _) _ _); refine mAlloc hM1 rfl rfl ?_; intro w2 hM2; clear hM1; go_frame)
    | ((with_reducible change wpList _ _ _ (Oper.mk (some 9) _ _ _ _ _ :: _) _ _); refine mLoad hM2 1 _ _ _ rfl rfl rfl rfl ?_; go_frame)
    | (go_at_call 78; (with_reducible change Calls _ _ #[Value.pointer (some ⟨g, 0, none⟩), Value.agg (wcells a)] _ _); refine (fonce_as hm g ma Hx.out _ (hr.below hM2.below hr.lt)).mono ?_; rintro e w3 ⟨rfl, hB3⟩; have hM3 := hM2.on hB3; clear hB3 hM2; (try unfold WV); go_frame)
    | ((with_reducible change wpList _ _ _ (Oper.mk (some 11) _ _ _ _ _ :: _) _ _); refine kBuildW0 rfl rfl ?_; go_frame)
    | ((with_reducible change wpList _ _ _ (Oper.mk (some 12) _ _ _ _ _ :: _) _ _); refine kEqlW _ _ _ (x) (0) false rfl rfl rfl rfl (D.out) ?_; go_frame))
  refine region_sym (fun _ => 9) [.val (.pointer (some ⟨g, 0, none⟩)), .val (.pointer (some ⟨g, 0, none⟩)), .val (.pointer (some ⟨g, 0, none⟩)), .val (.agg (wcells m)), .val (.agg (wcells n2)), .val (.tuple #[.agg (wcells k), .bool false]), .val (.tuple #[.agg (wcells k), .bool false]), .val (.agg (wcells k)), .val (.bool false), .fresh w3.heap.size 81 4, .hold w3.heap.size 81 (wcells (k)), .val (.bool false)] [.val (.pointer (some ⟨g, 0, none⟩)), .val (.pointer (some ⟨g, 0, none⟩)), .val (.pointer (some ⟨g, 0, none⟩)), .val (.agg (wcells m)), .val (.agg (wcells n2)), .val (.tuple #[.agg (wcells k), .bool false]), .val (.tuple #[.agg (wcells k), .bool false]), .val (.agg (wcells k)), .val (.bool false), .hold w3.heap.size 81 (wcells (k)), .val undef, .val (.bool false)] (by kernel_rfl) (by kernel_rfl) rfl rfl (steps_all ⟨?_, ?_, ?_, ?_, ?_, ?_, ?_, ?_, ?_, ?_, ?_, ?_, trivial⟩) ?_
  · intro A W hsz hoth hbel hdep
    exact kMoveV _ (.pointer (some ⟨g, 0, none⟩)) rfl rfl ((hoth 0 (free2_of (by kernel_rfl))).trans rfl) (symV hbel hsz rfl rfl (show 15 < 27 by decide) (Below.refl _ _) rfl)
  · intro A W hsz hoth hbel hdep
    exact kNilCheck _ _ rfl rfl (by have h := hdep ⟨0, .data⟩ (by simp) rfl; exact h) (symV hbel hsz rfl rfl (show 16 < 27 by decide) (Below.refl _ _) rfl)
  · intro A W hsz hoth hbel hdep
    exact kFieldRing _ _ rfl rfl (by have h := hdep ⟨1, .data⟩ (by simp) rfl; exact h) (symV hbel hsz rfl rfl (show 17 < 27 by decide) (Below.refl _ _) rfl)
  · intro A W hsz hoth hbel hdep
    exact kLoadRow _ _ _ _ _ _ rfl rfl (by have h := hdep ⟨2, .data⟩ (by simp) rfl; exact h) ((hr.below hM3.below hr.lt).below hbel (hr.below hM3.below hr.lt).lt) Tryz.underlying81 rfl (info_WideC _) (symV hbel hsz rfl rfl (show 18 < 27 by decide) (Below.refl _ _) rfl)
  · intro A W hsz hoth hbel hdep
    refine kCall1 74 _ _ _ rfl rfl (by kernel_rfl) rfl ?_
    refine (wOf_lit n2 2 h2 E2.out W).mono ?_
    rintro e r ⟨rfl, hBc⟩
    exact ⟨_, rfl, (symV hbel hsz rfl rfl (show 19 < 27 by decide) hBc rfl)⟩
  · intro A W hsz hoth hbel hdep
    refine kCall2 97 _ _ _ _ _ rfl rfl (by kernel_rfl) (by have h := hdep ⟨3, .data⟩ (by simp) rfl; exact h) (by have h := hdep ⟨4, .data⟩ (by simp) rfl; exact h) ?_
    refine (wSub_fits hm.lt mn2 hs.out W).mono ?_
    rintro e r ⟨rfl, hBc⟩
    exact ⟨_, rfl, (symV hbel hsz rfl rfl (show 20 < 27 by decide) hBc rfl)⟩
  · intro A W hsz hoth hbel hdep
    exact kMoveV _ (.tuple #[.agg (wcells k), .bool false]) rfl rfl (by have h := hdep ⟨5, .data⟩ (by simp) rfl; exact h) (symV hbel hsz rfl rfl (show 14 < 27 by decide) (Below.refl _ _) rfl)
  · intro A W hsz hoth hbel hdep
    exact kExtract _ _ _ (.agg (wcells k)) rfl rfl (by have h := hdep ⟨6, .data⟩ (by simp) rfl; exact h) rfl (symV hbel hsz rfl rfl (show 21 < 27 by decide) (Below.refl _ _) rfl)
  · intro A W hsz hoth hbel hdep
    exact kExtract _ _ _ (.bool false) rfl rfl (by have h := hdep ⟨6, .data⟩ (by simp) rfl; exact h) rfl (symV hbel hsz rfl rfl (show 22 < 27 by decide) (Below.refl _ _) rfl)
  · intro A W hsz hoth hbel hdep
    refine kAllocL _ _ rfl rfl zero_Wide ?_
    intro r hR hl hBc
    exact (symV hbel hsz rfl rfl (show 6 < 27 by decide) hBc ⟨_, _, rfl, hbel.size, wcells_size _, hR⟩)
  · intro A W hsz hoth hbel hdep
    obtain ⟨g, cs, d8, hg, hcs, hR⟩ : ∃ g cs, A.tmps.getD 6 undef = .pointer (some ⟨g, 0, none⟩) ∧ w3.heap.size ≤ g ∧ cs.size = 4 ∧ Row W g 81 cs := (by have h := hdep ⟨9, .data⟩ (by simp) rfl; exact h)
    refine kStoreRow _ _ _ _ _ _ (wcells (k)) rfl rfl d8 (by have h := hdep ⟨7, .data⟩ (by simp) rfl; exact h) hR (info_WideC _) (by rw [wcells_size, hcs]) (wcells_one _) ?_
    intro r hR2 hW
    exact symW hbel rfl hW hg hR2 (by simp only [Singles, and_self, wcells_size]) ⟨g, d8, hg, hR2⟩
  · intro A W hsz hoth hbel hdep
    exact kAssignV _ (.bool false) rfl rfl (by have h := hdep ⟨8, .data⟩ (by simp) rfl; exact h) (symV hbel hsz rfl rfl (show 7 < 27 by decide) (Below.refl _ _) rfl)
  intro w4 hB4
  dsimp only [AllV]
  intro g4 hg4 hR4
  dsimp only [putAll]
  go_frame
  have hM4 := hM3.add hB4 hg4 hR4; clear hB4 hg4 hR4 hM3
  go_wp2_with (first
    | ((with_reducible change wpList _ _ _ (Oper.mk (some 24) _ _ _ _ _ :: _) _ _); refine mLoad hM4 2 _ _ _ rfl rfl rfl rfl ?_; go_frame)
    | ((with_reducible change wpList _ _ _ (Oper.mk (some 25) _ _ _ _ _ :: _) _ _); refine mLoad hM4 0 _ _ _ rfl rfl rfl rfl ?_; go_frame)
    | (go_at_call 75; (with_reducible change Calls _ _ #[Value.pointer (some ⟨g, 0, none⟩), Value.agg (wcells a), Value.agg (wcells k)] _ _); refine (fPow_any hm a k g ma mk _ (hr.below hM4.below hr.lt)).mono ?_; rintro e w5 ⟨rfl, hB5⟩; have hM5 := hM4.on hB5; clear hB5 hM4; (try unfold WV); go_frame)
    | ((with_reducible change wpList _ _ _ (Oper.mk none (Op.store _ (Operand.tmp 4) (Operand.tmp 26)) _ _ _ _ :: _) _ _); refine mStoreAt hM5 1 _ _ _ _ (a ^ k % m) rfl rfl rfl rfl rfl ?_; intro w6 hM6; dsimp only [List.set] at hM6; clear hM5; go_frame))
  exact result_row_tmp Tryz.results89 rfl rfl (hM6.get 1 rfl) Tryz.underlying81 rfl (info_WideC _) rfl ⟨rfl, hM6.below⟩
set_option maxRecDepth 100000 in
set_option maxHeartbeats 4000000 in
theorem fRoot_other {m : Nat} (hm : Modu m) (a : Nat) (pp : Nat) (g : Nat) (_ma : a < M256) (mpp : pp < M256) (w : World) (hr : Row w g 110 (wcells m)) (hG : Glob 2 pp w) (hne : m ≠ pp) :
    Calls Tryz.prog 59 #[.pointer (some ⟨g, 0, none⟩), WV a] w fun e w' => e = .returned (.tuple #[WV 0, .int .i64 31]) ∧ Below w.heap.size w w' := by
  have D := Lib.hid (show (!decide (m % M256 = pp % M256)) = true by rw [Nat.mod_eq_of_lt hm.lt, Nat.mod_eq_of_lt mpp]; simpa using hne)
  clear hne
  have hM0 := mem_nil w
  unfold WV
  go_enter Tryz.func59, Tryz.ntmps59
  go_wp2_with (first
    | ((with_reducible change wpList _ _ _ (Oper.mk (some 3) _ _ _ _ _ :: _) _ _); refine mBox hM0 _ _ rfl rfl rfl ?_; intro w1 hM1; clear hM0; go_frame)
    | ((with_reducible change wpList _ _ _ (Oper.mk (some 4) _ _ _ _ _ :: _) _ _); refine mAlloc hM1 rfl rfl ?_; intro w2 hM2; clear hM1; go_frame))
  refine region_sym (fun _ => 0) [.val (.pointer (some ⟨g, 0, none⟩)), .val (.pointer (some ⟨g, 0, none⟩)), .val (.pointer (some ⟨g, 0, none⟩)), .val (.agg (wcells m)), .val (.agg (wcells pp)), .val (.bool true)] [.val (.pointer (some ⟨g, 0, none⟩)), .val (.pointer (some ⟨g, 0, none⟩)), .val (.pointer (some ⟨g, 0, none⟩)), .val (.agg (wcells m)), .val (.agg (wcells pp)), .val (.bool true)] (by kernel_rfl) (by kernel_rfl) rfl rfl (steps_all ⟨?_, ?_, ?_, ?_, ?_, ?_, trivial⟩) ?_
  · intro A W hsz hoth hbel hdep
    exact kMoveV _ (.pointer (some ⟨g, 0, none⟩)) rfl rfl ((hoth 0 (free2_of (by kernel_rfl))).trans rfl) (symV hbel hsz rfl rfl (show 9 < 48 by decide) (Below.refl _ _) rfl)
  · intro A W hsz hoth hbel hdep
    exact kNilCheck _ _ rfl rfl (by have h := hdep ⟨0, .data⟩ (by simp) rfl; exact h) (symV hbel hsz rfl rfl (show 10 < 48 by decide) (Below.refl _ _) rfl)
  · intro A W hsz hoth hbel hdep
    exact kFieldRing _ _ rfl rfl (by have h := hdep ⟨1, .data⟩ (by simp) rfl; exact h) (symV hbel hsz rfl rfl (show 11 < 48 by decide) (Below.refl _ _) rfl)
  · intro A W hsz hoth hbel hdep
    exact kLoadRow _ _ _ _ _ _ rfl rfl (by have h := hdep ⟨2, .data⟩ (by simp) rfl; exact h) ((hr.below hM2.below hr.lt).below hbel (hr.below hM2.below hr.lt).lt) Tryz.underlying81 rfl (info_WideC _) (symV hbel hsz rfl rfl (show 12 < 48 by decide) (Below.refl _ _) rfl)
  · intro A W hsz hoth hbel hdep
    exact kLoadG _ _ _ rfl rfl rfl ((hG.mem hM2).below hbel) (symV hbel hsz rfl rfl (show 13 < 48 by decide) (Below.refl _ _) rfl)
  · intro A W hsz hoth hbel hdep
    exact kNeqW _ _ _ (m) (pp) true rfl rfl (by have h := hdep ⟨3, .data⟩ (by simp) rfl; exact h) (by have h := hdep ⟨4, .data⟩ (by simp) rfl; exact h) (D.out) (symV hbel hsz rfl rfl (show 14 < 48 by decide) (Below.refl _ _) rfl)
  intro w3 hB3
  dsimp only [AllV]
  dsimp only [putAll]
  go_frame
  have hM3 := hM2.on hB3; clear hB3 hM2
  go_wp2_with (first
    | ((with_reducible change wpList _ _ _ (Oper.mk (some 15) _ _ _ _ _ :: _) _ _); refine kBuildW0 rfl rfl ?_; go_frame)
    | ((with_reducible change wpList _ _ _ (Oper.mk none (Op.store _ (Operand.tmp 4) (Operand.tmp 15)) _ _ _ _ :: _) _ _); refine mStoreAt hM3 0 _ _ _ _ (0) rfl rfl rfl rfl rfl ?_; intro w4 hM4; dsimp only [List.set] at hM4; clear hM3; go_frame))
  exact result_row_tmp Tryz.results59 rfl rfl (hM4.get 0 rfl) Tryz.underlying81 rfl (info_WideC _) rfl ⟨rfl, hM4.below⟩
theorem fPow_as {m a n x : Nat} (hm : Modu m) (g : Nat) (ma : a < M256) (mn : n < M256) (h : a ^ n % m = x) (w : World) (hr : Row w g 110 (wcells m)) :
    Calls Tryz.prog 75 #[.pointer (some ⟨g, 0, none⟩), WV a, WV n] w fun e w' => e = .returned (WV x) ∧ Below w.heap.size w w' := by
  have h' := fPow_any hm a n g ma mn w hr
  rwa [h] at h'
theorem fSub_as {m a b x : Nat} (hm : Modu m) (g : Nat) (ma : a < M256) (mb : b < M256) (h : (a % m + m - b % m) % m = x) (w : World) (hr : Row w g 110 (wcells m)) :
    Calls Tryz.prog 79 #[.pointer (some ⟨g, 0, none⟩), WV a, WV b] w fun e w' => e = .returned (WV x) ∧ Below w.heap.size w w' := by
  have h' := fSub_any hm a b g ma mb w hr
  rwa [h] at h'
theorem wRight_as (a k c : Nat) (ma : a < M256) {z : Int} (h : a / 2 ^ c = k) (w : World) (hz : z = (c : Int) := by rfl) (hc : c < 9223372036854775808 := by decide) :
    Calls Tryz.prog 76 #[WV a, .int .i64 z] w fun e w' => e = .returned (WV k) ∧ Below w.heap.size w w' := by
  subst hz
  have h' := wRight_any a (c : Int) ma (by omega) w
  rwa [Int.toNat_natCast, h] at h'
theorem limb0_rem (r : Nat) : (limb r 0 : Int) % 2 = ((r % 2 : Nat) : Int) := by
  unfold limb; rw [P64_zero, Nat.div_one]; omega
set_option maxRecDepth 100000 in
set_option maxHeartbeats 4000000 in
theorem fRoot_none {m : Nat} (hm : Modu m) (a : Nat) (g : Nat) (ma : a < M256) (w : World) (hr : Row w g 110 (wcells m)) (hG : Glob 2 m w) (hm1 : m + 1 < M256) {r : Nat} (hroot : a ^ ((m + 1) / 4) % m = r) (hno : r * r % m ≠ a % m) :
    Calls Tryz.prog 59 #[.pointer (some ⟨g, 0, none⟩), WV a] w fun e w' => e = .returned (.tuple #[WV 0, .int .i64 31]) ∧ Below w.heap.size w w' := by
  obtain ⟨n1, H1⟩ : ∃ n, Hid (n = 1) := ⟨1, Lib.hid rfl⟩
  have h1 : n1 < 18446744073709551616 := by rw [H1.out]; decide
  have mn1 : n1 < M256 := by rw [H1.out]; decide
  have E1 : (1 : Int) = (n1 : Int) := by rw [H1.out]; rfl
  replace E1 := Lib.hid E1
  obtain ⟨t, ht⟩ : ∃ t, Hid (m + n1 = t) := ⟨_, Lib.hid rfl⟩
  have mt : t < M256 := by rw [← ht.out, H1.out]; exact hm1
  obtain ⟨k, Hk⟩ : ∃ k, Hid (t / 2 ^ 2 = k) := ⟨_, Lib.hid rfl⟩
  have mk : k < M256 := by rw [← Hk.out]; exact Nat.lt_of_le_of_lt (Nat.div_le_self _ _) mt
  have Hkk := Lib.hid (show (m + 1) / 4 = k by rw [← Hk.out, ← ht.out, H1.out])
  rw [Hkk.out] at hroot
  obtain ⟨x, Hx⟩ : ∃ x, Hid (a % m = x) := ⟨_, Lib.hid rfl⟩
  have mx : x < M256 := by rw [← Hx.out]; exact hm.mod _
  obtain ⟨s, Hs⟩ : ∃ s, Hid (r * r % m = s) := ⟨_, Lib.hid rfl⟩
  have ms : s < M256 := by rw [← Hs.out]; exact hm.mod _
  have mr : r < M256 := by rw [← hroot]; exact hm.mod _
  have Hr := Lib.hid hroot
  clear hroot
  have D := Lib.hid (show (!decide (s % M256 = x % M256)) = true by rw [Nat.mod_eq_of_lt ms, Nat.mod_eq_of_lt mx, ← Hs.out, ← Hx.out]; simpa using hno)
  clear hno
  have hM0 := mem_nil w
  unfold WV
  go_enter Tryz.func59, Tryz.ntmps59
  go_wp2_with (first
    | ((with_reducible change wpList _ _ _ (Oper.mk (some 3) _ _ _ _ _ :: _) _ _); refine mBox hM0 _ _ rfl rfl rfl ?_; intro w1 hM1; clear hM0; go_frame)
    | ((with_reducible change wpList _ _ _ (Oper.mk (some 4) _ _ _ _ _ :: _) _ _); refine mAlloc hM1 rfl rfl ?_; intro w2 hM2; clear hM1; go_frame))
  refine region_sym (fun _ => 0) [.val (.pointer (some ⟨g, 0, none⟩)), .val (.pointer (some ⟨g, 0, none⟩)), .val (.pointer (some ⟨g, 0, none⟩)), .val (.agg (wcells m)), .val (.agg (wcells m)), .val (.bool false)] [.val (.pointer (some ⟨g, 0, none⟩)), .val (.pointer (some ⟨g, 0, none⟩)), .val (.pointer (some ⟨g, 0, none⟩)), .val (.agg (wcells m)), .val (.agg (wcells m)), .val (.bool false)] (by kernel_rfl) (by kernel_rfl) rfl rfl (steps_all ⟨?_, ?_, ?_, ?_, ?_, ?_, trivial⟩) ?_
  · intro A W hsz hoth hbel hdep
    exact kMoveV _ (.pointer (some ⟨g, 0, none⟩)) rfl rfl ((hoth 0 (free2_of (by kernel_rfl))).trans rfl) (symV hbel hsz rfl rfl (show 9 < 48 by decide) (Below.refl _ _) rfl)
  · intro A W hsz hoth hbel hdep
    exact kNilCheck _ _ rfl rfl (by have h := hdep ⟨0, .data⟩ (by simp) rfl; exact h) (symV hbel hsz rfl rfl (show 10 < 48 by decide) (Below.refl _ _) rfl)
  · intro A W hsz hoth hbel hdep
    exact kFieldRing _ _ rfl rfl (by have h := hdep ⟨1, .data⟩ (by simp) rfl; exact h) (symV hbel hsz rfl rfl (show 11 < 48 by decide) (Below.refl _ _) rfl)
  · intro A W hsz hoth hbel hdep
    exact kLoadRow _ _ _ _ _ _ rfl rfl (by have h := hdep ⟨2, .data⟩ (by simp) rfl; exact h) ((hr.below hM2.below hr.lt).below hbel (hr.below hM2.below hr.lt).lt) Tryz.underlying81 rfl (info_WideC _) (symV hbel hsz rfl rfl (show 12 < 48 by decide) (Below.refl _ _) rfl)
  · intro A W hsz hoth hbel hdep
    exact kLoadG _ _ _ rfl rfl rfl ((hG.mem hM2).below hbel) (symV hbel hsz rfl rfl (show 13 < 48 by decide) (Below.refl _ _) rfl)
  · intro A W hsz hoth hbel hdep
    exact kNeqW _ _ _ (m) (m) false rfl rfl (by have h := hdep ⟨3, .data⟩ (by simp) rfl; exact h) (by have h := hdep ⟨4, .data⟩ (by simp) rfl; exact h) (by simp) (symV hbel hsz rfl rfl (show 14 < 48 by decide) (Below.refl _ _) rfl)
  intro w3 hB3
  dsimp only [AllV]
  dsimp only [putAll]
  go_frame
  have hM3 := hM2.on hB3; clear hB3 hM2
  go_wp2_with fail
  refine region_sym (fun _ => 9) [.val (.pointer (some ⟨g, 0, none⟩)), .val (.pointer (some ⟨g, 0, none⟩)), .val (.pointer (some ⟨g, 0, none⟩)), .val (.agg (wcells m)), .val (.agg (wcells n1)), .val (.tuple #[.agg (wcells t), .bool false]), .val (.tuple #[.agg (wcells t), .bool false]), .val (.agg (wcells t)), .val (.bool false), .fresh w3.heap.size 81 4, .hold w3.heap.size 81 (wcells (t)), .val (.bool false)] [.val (.pointer (some ⟨g, 0, none⟩)), .val (.pointer (some ⟨g, 0, none⟩)), .val (.pointer (some ⟨g, 0, none⟩)), .val (.agg (wcells m)), .val (.agg (wcells n1)), .val (.tuple #[.agg (wcells t), .bool false]), .val (.tuple #[.agg (wcells t), .bool false]), .val (.agg (wcells t)), .val (.bool false), .hold w3.heap.size 81 (wcells (t)), .val undef, .val (.bool false)] (by kernel_rfl) (by kernel_rfl) rfl rfl (steps_all ⟨?_, ?_, ?_, ?_, ?_, ?_, ?_, ?_, ?_, ?_, ?_, ?_, trivial⟩) ?_
  · intro A W hsz hoth hbel hdep
    exact kMoveV _ (.pointer (some ⟨g, 0, none⟩)) rfl rfl ((hoth 0 (free2_of (by kernel_rfl))).trans rfl) (symV hbel hsz rfl rfl (show 17 < 48 by decide) (Below.refl _ _) rfl)
  · intro A W hsz hoth hbel hdep
    exact kNilCheck _ _ rfl rfl (by have h := hdep ⟨0, .data⟩ (by simp) rfl; exact h) (symV hbel hsz rfl rfl (show 18 < 48 by decide) (Below.refl _ _) rfl)
  · intro A W hsz hoth hbel hdep
    exact kFieldRing _ _ rfl rfl (by have h := hdep ⟨1, .data⟩ (by simp) rfl; exact h) (symV hbel hsz rfl rfl (show 19 < 48 by decide) (Below.refl _ _) rfl)
  · intro A W hsz hoth hbel hdep
    exact kLoadRow _ _ _ _ _ _ rfl rfl (by have h := hdep ⟨2, .data⟩ (by simp) rfl; exact h) ((hr.below hM3.below hr.lt).below hbel (hr.below hM3.below hr.lt).lt) Tryz.underlying81 rfl (info_WideC _) (symV hbel hsz rfl rfl (show 20 < 48 by decide) (Below.refl _ _) rfl)
  · intro A W hsz hoth hbel hdep
    refine kCall1 74 _ _ _ rfl rfl (by kernel_rfl) rfl ?_
    refine (wOf_lit n1 1 h1 E1.out W).mono ?_
    rintro e r ⟨rfl, hBc⟩
    exact ⟨_, rfl, (symV hbel hsz rfl rfl (show 21 < 48 by decide) hBc rfl)⟩
  · intro A W hsz hoth hbel hdep
    refine kCall2 73 _ _ _ _ _ rfl rfl (by kernel_rfl) (by have h := hdep ⟨3, .data⟩ (by simp) rfl; exact h) (by have h := hdep ⟨4, .data⟩ (by simp) rfl; exact h) ?_
    refine (wAdd_fits hm.lt mn1 ht.out mt W).mono ?_
    rintro e r ⟨rfl, hBc⟩
    exact ⟨_, rfl, (symV hbel hsz rfl rfl (show 22 < 48 by decide) hBc rfl)⟩
  · intro A W hsz hoth hbel hdep
    exact kMoveV _ (.tuple #[.agg (wcells t), .bool false]) rfl rfl (by have h := hdep ⟨5, .data⟩ (by simp) rfl; exact h) (symV hbel hsz rfl rfl (show 16 < 48 by decide) (Below.refl _ _) rfl)
  · intro A W hsz hoth hbel hdep
    exact kExtract _ _ _ (.agg (wcells t)) rfl rfl (by have h := hdep ⟨6, .data⟩ (by simp) rfl; exact h) rfl (symV hbel hsz rfl rfl (show 23 < 48 by decide) (Below.refl _ _) rfl)
  · intro A W hsz hoth hbel hdep
    exact kExtract _ _ _ (.bool false) rfl rfl (by have h := hdep ⟨6, .data⟩ (by simp) rfl; exact h) rfl (symV hbel hsz rfl rfl (show 24 < 48 by decide) (Below.refl _ _) rfl)
  · intro A W hsz hoth hbel hdep
    refine kAllocL _ _ rfl rfl zero_Wide ?_
    intro r hR hl hBc
    exact (symV hbel hsz rfl rfl (show 6 < 48 by decide) hBc ⟨_, _, rfl, hbel.size, wcells_size _, hR⟩)
  · intro A W hsz hoth hbel hdep
    obtain ⟨g, cs, d8, hg, hcs, hR⟩ : ∃ g cs, A.tmps.getD 6 undef = .pointer (some ⟨g, 0, none⟩) ∧ w3.heap.size ≤ g ∧ cs.size = 4 ∧ Row W g 81 cs := (by have h := hdep ⟨9, .data⟩ (by simp) rfl; exact h)
    refine kStoreRow _ _ _ _ _ _ (wcells (t)) rfl rfl d8 (by have h := hdep ⟨7, .data⟩ (by simp) rfl; exact h) hR (info_WideC _) (by rw [wcells_size, hcs]) (wcells_one _) ?_
    intro r hR2 hW
    exact symW hbel rfl hW hg hR2 (by simp only [Singles, and_self, wcells_size]) ⟨g, d8, hg, hR2⟩
  · intro A W hsz hoth hbel hdep
    exact kAssignV _ (.bool false) rfl rfl (by have h := hdep ⟨8, .data⟩ (by simp) rfl; exact h) (symV hbel hsz rfl rfl (show 7 < 48 by decide) (Below.refl _ _) rfl)
  intro w4 hB4
  dsimp only [AllV]
  intro g4 hg4 hR4
  dsimp only [putAll]
  go_frame
  have hM4 := hM3.add hB4 hg4 hR4; clear hB4 hg4 hR4 hM3
  go_wp2_with fail
  refine region_sym (fun _ => 5) [.val (.pointer (some ⟨g, 0, none⟩)), .val (.agg (wcells a)), .val (.agg (wcells t)), .val (.agg (wcells k)), .val (.agg (wcells r)), .fresh w4.heap.size 81 4, .hold w4.heap.size 81 (wcells (r))] [.val (.pointer (some ⟨g, 0, none⟩)), .val (.agg (wcells a)), .val (.agg (wcells t)), .val (.agg (wcells k)), .val (.agg (wcells r)), .hold w4.heap.size 81 (wcells (r)), .val undef] (by kernel_rfl) (by kernel_rfl) rfl rfl (steps_all ⟨?_, ?_, ?_, ?_, ?_, ?_, ?_, trivial⟩) ?_
  · intro A W hsz hoth hbel hdep
    exact kMoveV _ (.pointer (some ⟨g, 0, none⟩)) rfl rfl ((hoth 0 (free2_of (by kernel_rfl))).trans rfl) (symV hbel hsz rfl rfl (show 25 < 48 by decide) (Below.refl _ _) rfl)
  · intro A W hsz hoth hbel hdep
    exact kLoadRow _ _ _ _ _ _ rfl rfl ((hoth 3 (free2_of (by kernel_rfl))).trans rfl) ((hM4.get 2 rfl).below hbel (hM4.get 2 rfl).lt) Tryz.underlying81 rfl (info_WideC _) (symV hbel hsz rfl rfl (show 26 < 48 by decide) (Below.refl _ _) rfl)
  · intro A W hsz hoth hbel hdep
    exact kLoadRow _ _ _ _ _ _ rfl rfl ((hoth 6 (free2_of (by kernel_rfl))).trans rfl) ((hM4.get 0 rfl).below hbel (hM4.get 0 rfl).lt) Tryz.underlying81 rfl (info_WideC _) (symV hbel hsz rfl rfl (show 27 < 48 by decide) (Below.refl _ _) rfl)
  · intro A W hsz hoth hbel hdep
    refine kCall2 76 _ _ _ _ _ rfl rfl (by kernel_rfl) (by have h := hdep ⟨2, .data⟩ (by simp) rfl; exact h) rfl ?_
    refine (wRight_as t k 2 mt Hk.out W).mono ?_
    rintro e r ⟨rfl, hBc⟩
    exact ⟨_, rfl, (symV hbel hsz rfl rfl (show 28 < 48 by decide) hBc rfl)⟩
  · intro A W hsz hoth hbel hdep
    refine kCall3 75 _ _ _ _ _ _ _ rfl rfl (by kernel_rfl) (by have h := hdep ⟨0, .data⟩ (by simp) rfl; exact h) (by have h := hdep ⟨1, .data⟩ (by simp) rfl; exact h) (by have h := hdep ⟨3, .data⟩ (by simp) rfl; exact h) ?_
    refine (fPow_as hm g ma mk Hr.out W ((hr.below hM4.below hr.lt).below hbel (hr.below hM4.below hr.lt).lt)).mono ?_
    rintro e r ⟨rfl, hBc⟩
    exact ⟨_, rfl, (symV hbel hsz rfl rfl (show 29 < 48 by decide) hBc rfl)⟩
  · intro A W hsz hoth hbel hdep
    refine kAllocL _ _ rfl rfl zero_Wide ?_
    intro r hR hl hBc
    exact (symV hbel hsz rfl rfl (show 8 < 48 by decide) hBc ⟨_, _, rfl, hbel.size, wcells_size _, hR⟩)
  · intro A W hsz hoth hbel hdep
    obtain ⟨g, cs, d8, hg, hcs, hR⟩ : ∃ g cs, A.tmps.getD 8 undef = .pointer (some ⟨g, 0, none⟩) ∧ w4.heap.size ≤ g ∧ cs.size = 4 ∧ Row W g 81 cs := (by have h := hdep ⟨5, .data⟩ (by simp) rfl; exact h)
    refine kStoreRow _ _ _ _ _ _ (wcells (r)) rfl rfl d8 (by have h := hdep ⟨4, .data⟩ (by simp) rfl; exact h) hR (info_WideC _) (by rw [wcells_size, hcs]) (wcells_one _) ?_
    intro r hR2 hW
    exact symW hbel rfl hW hg hR2 (by simp only [Singles, and_self, wcells_size]) ⟨g, d8, hg, hR2⟩
  intro w5 hB5
  dsimp only [AllV]
  intro g5 hg5 hR5
  dsimp only [putAll]
  go_frame
  have hM5 := hM4.add hB5 hg5 hR5; clear hB5 hg5 hR5 hM4
  go_wp2_with fail
  refine region_sym (fun _ => 0) [.val (.pointer (some ⟨g, 0, none⟩)), .val (.agg (wcells r)), .val (.agg (wcells r)), .val (.agg (wcells s)), .val (.pointer (some ⟨g, 0, none⟩)), .val (.agg (wcells a)), .val (.agg (wcells x)), .val (.bool true)] [.val (.pointer (some ⟨g, 0, none⟩)), .val (.agg (wcells r)), .val (.agg (wcells r)), .val (.agg (wcells s)), .val (.pointer (some ⟨g, 0, none⟩)), .val (.agg (wcells a)), .val (.agg (wcells x)), .val (.bool true)] (by kernel_rfl) (by kernel_rfl) rfl rfl (steps_all ⟨?_, ?_, ?_, ?_, ?_, ?_, ?_, ?_, trivial⟩) ?_
  · intro A W hsz hoth hbel hdep
    exact kMoveV _ (.pointer (some ⟨g, 0, none⟩)) rfl rfl ((hoth 0 (free2_of (by kernel_rfl))).trans rfl) (symV hbel hsz rfl rfl (show 30 < 48 by decide) (Below.refl _ _) rfl)
  · intro A W hsz hoth hbel hdep
    exact kLoadRow _ _ _ _ _ _ rfl rfl ((hoth 8 (free2_of (by kernel_rfl))).trans rfl) ((hM5.get 0 rfl).below hbel (hM5.get 0 rfl).lt) Tryz.underlying81 rfl (info_WideC _) (symV hbel hsz rfl rfl (show 31 < 48 by decide) (Below.refl _ _) rfl)
  · intro A W hsz hoth hbel hdep
    exact kLoadRow _ _ _ _ _ _ rfl rfl ((hoth 8 (free2_of (by kernel_rfl))).trans rfl) ((hM5.get 0 rfl).below hbel (hM5.get 0 rfl).lt) Tryz.underlying81 rfl (info_WideC _) (symV hbel hsz rfl rfl (show 32 < 48 by decide) (Below.refl _ _) rfl)
  · intro A W hsz hoth hbel hdep
    refine kCall3 77 _ _ _ _ _ _ _ rfl rfl (by kernel_rfl) (by have h := hdep ⟨0, .data⟩ (by simp) rfl; exact h) (by have h := hdep ⟨1, .data⟩ (by simp) rfl; exact h) (by have h := hdep ⟨2, .data⟩ (by simp) rfl; exact h) ?_
    refine (fMul_as hm g mr mr Hs.out W ((hr.below hM5.below hr.lt).below hbel (hr.below hM5.below hr.lt).lt)).mono ?_
    rintro e r ⟨rfl, hBc⟩
    exact ⟨_, rfl, (symV hbel hsz rfl rfl (show 33 < 48 by decide) hBc rfl)⟩
  · intro A W hsz hoth hbel hdep
    exact kMoveV _ (.pointer (some ⟨g, 0, none⟩)) rfl rfl ((hoth 0 (free2_of (by kernel_rfl))).trans rfl) (symV hbel hsz rfl rfl (show 34 < 48 by decide) (Below.refl _ _) rfl)
  · intro A W hsz hoth hbel hdep
    exact kLoadRow _ _ _ _ _ _ rfl rfl ((hoth 3 (free2_of (by kernel_rfl))).trans rfl) ((hM5.get 3 rfl).below hbel (hM5.get 3 rfl).lt) Tryz.underlying81 rfl (info_WideC _) (symV hbel hsz rfl rfl (show 35 < 48 by decide) (Below.refl _ _) rfl)
  · intro A W hsz hoth hbel hdep
    refine kCall2 78 _ _ _ _ _ rfl rfl (by kernel_rfl) (by have h := hdep ⟨4, .data⟩ (by simp) rfl; exact h) (by have h := hdep ⟨5, .data⟩ (by simp) rfl; exact h) ?_
    refine (fonce_as hm g ma Hx.out W ((hr.below hM5.below hr.lt).below hbel (hr.below hM5.below hr.lt).lt)).mono ?_
    rintro e r ⟨rfl, hBc⟩
    exact ⟨_, rfl, (symV hbel hsz rfl rfl (show 36 < 48 by decide) hBc rfl)⟩
  · intro A W hsz hoth hbel hdep
    exact kNeqW _ _ _ (s) (x) true rfl rfl (by have h := hdep ⟨3, .data⟩ (by simp) rfl; exact h) (by have h := hdep ⟨6, .data⟩ (by simp) rfl; exact h) (D.out) (symV hbel hsz rfl rfl (show 37 < 48 by decide) (Below.refl _ _) rfl)
  intro w6 hB6
  dsimp only [AllV]
  dsimp only [putAll]
  go_frame
  have hM6 := hM5.on hB6; clear hB6 hM5
  go_wp2_with (first
    | ((with_reducible change wpList _ _ _ (Oper.mk (some 38) _ _ _ _ _ :: _) _ _); refine kBuildW0 rfl rfl ?_; go_frame)
    | ((with_reducible change wpList _ _ _ (Oper.mk none (Op.store _ (Operand.tmp 4) (Operand.tmp 38)) _ _ _ _ :: _) _ _); refine mStoreAt hM6 2 _ _ _ _ (0) rfl rfl rfl rfl rfl ?_; intro w7 hM7; dsimp only [List.set] at hM7; clear hM6; go_frame))
  exact result_row_tmp Tryz.results59 rfl rfl (hM7.get 2 rfl) Tryz.underlying81 rfl (info_WideC _) rfl ⟨rfl, hM7.below⟩
set_option maxRecDepth 100000 in
set_option maxHeartbeats 4000000 in
theorem fRoot_even {m : Nat} (hm : Modu m) (a : Nat) (g : Nat) (ma : a < M256) (w : World) (hr : Row w g 110 (wcells m)) (hG : Glob 2 m w) (hm1 : m + 1 < M256) {r : Nat} (hroot : a ^ ((m + 1) / 4) % m = r) (hyes : r * r % m = a % m) (hpar : r % 2 = 0) :
    Calls Tryz.prog 59 #[.pointer (some ⟨g, 0, none⟩), WV a] w fun e w' => e = .returned (.tuple #[WV r, .int .i64 0]) ∧ Below w.heap.size w w' := by
  obtain ⟨n1, H1⟩ : ∃ n, Hid (n = 1) := ⟨1, Lib.hid rfl⟩
  have h1 : n1 < 18446744073709551616 := by rw [H1.out]; decide
  have mn1 : n1 < M256 := by rw [H1.out]; decide
  have E1 : (1 : Int) = (n1 : Int) := by rw [H1.out]; rfl
  replace E1 := Lib.hid E1
  obtain ⟨t, ht⟩ : ∃ t, Hid (m + n1 = t) := ⟨_, Lib.hid rfl⟩
  have mt : t < M256 := by rw [← ht.out, H1.out]; exact hm1
  obtain ⟨k, Hk⟩ : ∃ k, Hid (t / 2 ^ 2 = k) := ⟨_, Lib.hid rfl⟩
  have mk : k < M256 := by rw [← Hk.out]; exact Nat.lt_of_le_of_lt (Nat.div_le_self _ _) mt
  have Hkk := Lib.hid (show (m + 1) / 4 = k by rw [← Hk.out, ← ht.out, H1.out])
  rw [Hkk.out] at hroot
  obtain ⟨x, Hx⟩ : ∃ x, Hid (a % m = x) := ⟨_, Lib.hid rfl⟩
  have mx : x < M256 := by rw [← Hx.out]; exact hm.mod _
  obtain ⟨s, Hs⟩ : ∃ s, Hid (r * r % m = s) := ⟨_, Lib.hid rfl⟩
  have ms : s < M256 := by rw [← Hs.out]; exact hm.mod _
  have mr : r < M256 := by rw [← hroot]; exact hm.mod _
  have Hr := Lib.hid hroot
  clear hroot
  have D := Lib.hid (show (!decide (s % M256 = x % M256)) = false by rw [← Hs.out, ← Hx.out, hyes]; simp)
  clear hyes
  have hl : (limb r 0 : Int) % 2 = 0 := by rw [limb0_rem, hpar]; rfl
  clear hpar
  have hM0 := mem_nil w
  unfold WV
  go_enter Tryz.func59, Tryz.ntmps59
  go_wp2_with (first
    | ((with_reducible change wpList _ _ _ (Oper.mk (some 3) _ _ _ _ _ :: _) _ _); refine mBox hM0 _ _ rfl rfl rfl ?_; intro w1 hM1; clear hM0; go_frame)
    | ((with_reducible change wpList _ _ _ (Oper.mk (some 4) _ _ _ _ _ :: _) _ _); refine mAlloc hM1 rfl rfl ?_; intro w2 hM2; clear hM1; go_frame))
  refine region_sym (fun _ => 0) [.val (.pointer (some ⟨g, 0, none⟩)), .val (.pointer (some ⟨g, 0, none⟩)), .val (.pointer (some ⟨g, 0, none⟩)), .val (.agg (wcells m)), .val (.agg (wcells m)), .val (.bool false)] [.val (.pointer (some ⟨g, 0, none⟩)), .val (.pointer (some ⟨g, 0, none⟩)), .val (.pointer (some ⟨g, 0, none⟩)), .val (.agg (wcells m)), .val (.agg (wcells m)), .val (.bool false)] (by kernel_rfl) (by kernel_rfl) rfl rfl (steps_all ⟨?_, ?_, ?_, ?_, ?_, ?_, trivial⟩) ?_
  · intro A W hsz hoth hbel hdep
    exact kMoveV _ (.pointer (some ⟨g, 0, none⟩)) rfl rfl ((hoth 0 (free2_of (by kernel_rfl))).trans rfl) (symV hbel hsz rfl rfl (show 9 < 48 by decide) (Below.refl _ _) rfl)
  · intro A W hsz hoth hbel hdep
    exact kNilCheck _ _ rfl rfl (by have h := hdep ⟨0, .data⟩ (by simp) rfl; exact h) (symV hbel hsz rfl rfl (show 10 < 48 by decide) (Below.refl _ _) rfl)
  · intro A W hsz hoth hbel hdep
    exact kFieldRing _ _ rfl rfl (by have h := hdep ⟨1, .data⟩ (by simp) rfl; exact h) (symV hbel hsz rfl rfl (show 11 < 48 by decide) (Below.refl _ _) rfl)
  · intro A W hsz hoth hbel hdep
    exact kLoadRow _ _ _ _ _ _ rfl rfl (by have h := hdep ⟨2, .data⟩ (by simp) rfl; exact h) ((hr.below hM2.below hr.lt).below hbel (hr.below hM2.below hr.lt).lt) Tryz.underlying81 rfl (info_WideC _) (symV hbel hsz rfl rfl (show 12 < 48 by decide) (Below.refl _ _) rfl)
  · intro A W hsz hoth hbel hdep
    exact kLoadG _ _ _ rfl rfl rfl ((hG.mem hM2).below hbel) (symV hbel hsz rfl rfl (show 13 < 48 by decide) (Below.refl _ _) rfl)
  · intro A W hsz hoth hbel hdep
    exact kNeqW _ _ _ (m) (m) false rfl rfl (by have h := hdep ⟨3, .data⟩ (by simp) rfl; exact h) (by have h := hdep ⟨4, .data⟩ (by simp) rfl; exact h) (by simp) (symV hbel hsz rfl rfl (show 14 < 48 by decide) (Below.refl _ _) rfl)
  intro w3 hB3
  dsimp only [AllV]
  dsimp only [putAll]
  go_frame
  have hM3 := hM2.on hB3; clear hB3 hM2
  go_wp2_with fail
  refine region_sym (fun _ => 9) [.val (.pointer (some ⟨g, 0, none⟩)), .val (.pointer (some ⟨g, 0, none⟩)), .val (.pointer (some ⟨g, 0, none⟩)), .val (.agg (wcells m)), .val (.agg (wcells n1)), .val (.tuple #[.agg (wcells t), .bool false]), .val (.tuple #[.agg (wcells t), .bool false]), .val (.agg (wcells t)), .val (.bool false), .fresh w3.heap.size 81 4, .hold w3.heap.size 81 (wcells (t)), .val (.bool false)] [.val (.pointer (some ⟨g, 0, none⟩)), .val (.pointer (some ⟨g, 0, none⟩)), .val (.pointer (some ⟨g, 0, none⟩)), .val (.agg (wcells m)), .val (.agg (wcells n1)), .val (.tuple #[.agg (wcells t), .bool false]), .val (.tuple #[.agg (wcells t), .bool false]), .val (.agg (wcells t)), .val (.bool false), .hold w3.heap.size 81 (wcells (t)), .val undef, .val (.bool false)] (by kernel_rfl) (by kernel_rfl) rfl rfl (steps_all ⟨?_, ?_, ?_, ?_, ?_, ?_, ?_, ?_, ?_, ?_, ?_, ?_, trivial⟩) ?_
  · intro A W hsz hoth hbel hdep
    exact kMoveV _ (.pointer (some ⟨g, 0, none⟩)) rfl rfl ((hoth 0 (free2_of (by kernel_rfl))).trans rfl) (symV hbel hsz rfl rfl (show 17 < 48 by decide) (Below.refl _ _) rfl)
  · intro A W hsz hoth hbel hdep
    exact kNilCheck _ _ rfl rfl (by have h := hdep ⟨0, .data⟩ (by simp) rfl; exact h) (symV hbel hsz rfl rfl (show 18 < 48 by decide) (Below.refl _ _) rfl)
  · intro A W hsz hoth hbel hdep
    exact kFieldRing _ _ rfl rfl (by have h := hdep ⟨1, .data⟩ (by simp) rfl; exact h) (symV hbel hsz rfl rfl (show 19 < 48 by decide) (Below.refl _ _) rfl)
  · intro A W hsz hoth hbel hdep
    exact kLoadRow _ _ _ _ _ _ rfl rfl (by have h := hdep ⟨2, .data⟩ (by simp) rfl; exact h) ((hr.below hM3.below hr.lt).below hbel (hr.below hM3.below hr.lt).lt) Tryz.underlying81 rfl (info_WideC _) (symV hbel hsz rfl rfl (show 20 < 48 by decide) (Below.refl _ _) rfl)
  · intro A W hsz hoth hbel hdep
    refine kCall1 74 _ _ _ rfl rfl (by kernel_rfl) rfl ?_
    refine (wOf_lit n1 1 h1 E1.out W).mono ?_
    rintro e r ⟨rfl, hBc⟩
    exact ⟨_, rfl, (symV hbel hsz rfl rfl (show 21 < 48 by decide) hBc rfl)⟩
  · intro A W hsz hoth hbel hdep
    refine kCall2 73 _ _ _ _ _ rfl rfl (by kernel_rfl) (by have h := hdep ⟨3, .data⟩ (by simp) rfl; exact h) (by have h := hdep ⟨4, .data⟩ (by simp) rfl; exact h) ?_
    refine (wAdd_fits hm.lt mn1 ht.out mt W).mono ?_
    rintro e r ⟨rfl, hBc⟩
    exact ⟨_, rfl, (symV hbel hsz rfl rfl (show 22 < 48 by decide) hBc rfl)⟩
  · intro A W hsz hoth hbel hdep
    exact kMoveV _ (.tuple #[.agg (wcells t), .bool false]) rfl rfl (by have h := hdep ⟨5, .data⟩ (by simp) rfl; exact h) (symV hbel hsz rfl rfl (show 16 < 48 by decide) (Below.refl _ _) rfl)
  · intro A W hsz hoth hbel hdep
    exact kExtract _ _ _ (.agg (wcells t)) rfl rfl (by have h := hdep ⟨6, .data⟩ (by simp) rfl; exact h) rfl (symV hbel hsz rfl rfl (show 23 < 48 by decide) (Below.refl _ _) rfl)
  · intro A W hsz hoth hbel hdep
    exact kExtract _ _ _ (.bool false) rfl rfl (by have h := hdep ⟨6, .data⟩ (by simp) rfl; exact h) rfl (symV hbel hsz rfl rfl (show 24 < 48 by decide) (Below.refl _ _) rfl)
  · intro A W hsz hoth hbel hdep
    refine kAllocL _ _ rfl rfl zero_Wide ?_
    intro r hR hl hBc
    exact (symV hbel hsz rfl rfl (show 6 < 48 by decide) hBc ⟨_, _, rfl, hbel.size, wcells_size _, hR⟩)
  · intro A W hsz hoth hbel hdep
    obtain ⟨g, cs, d8, hg, hcs, hR⟩ : ∃ g cs, A.tmps.getD 6 undef = .pointer (some ⟨g, 0, none⟩) ∧ w3.heap.size ≤ g ∧ cs.size = 4 ∧ Row W g 81 cs := (by have h := hdep ⟨9, .data⟩ (by simp) rfl; exact h)
    refine kStoreRow _ _ _ _ _ _ (wcells (t)) rfl rfl d8 (by have h := hdep ⟨7, .data⟩ (by simp) rfl; exact h) hR (info_WideC _) (by rw [wcells_size, hcs]) (wcells_one _) ?_
    intro r hR2 hW
    exact symW hbel rfl hW hg hR2 (by simp only [Singles, and_self, wcells_size]) ⟨g, d8, hg, hR2⟩
  · intro A W hsz hoth hbel hdep
    exact kAssignV _ (.bool false) rfl rfl (by have h := hdep ⟨8, .data⟩ (by simp) rfl; exact h) (symV hbel hsz rfl rfl (show 7 < 48 by decide) (Below.refl _ _) rfl)
  intro w4 hB4
  dsimp only [AllV]
  intro g4 hg4 hR4
  dsimp only [putAll]
  go_frame
  have hM4 := hM3.add hB4 hg4 hR4; clear hB4 hg4 hR4 hM3
  go_wp2_with fail
  refine region_sym (fun _ => 5) [.val (.pointer (some ⟨g, 0, none⟩)), .val (.agg (wcells a)), .val (.agg (wcells t)), .val (.agg (wcells k)), .val (.agg (wcells r)), .fresh w4.heap.size 81 4, .hold w4.heap.size 81 (wcells (r))] [.val (.pointer (some ⟨g, 0, none⟩)), .val (.agg (wcells a)), .val (.agg (wcells t)), .val (.agg (wcells k)), .val (.agg (wcells r)), .hold w4.heap.size 81 (wcells (r)), .val undef] (by kernel_rfl) (by kernel_rfl) rfl rfl (steps_all ⟨?_, ?_, ?_, ?_, ?_, ?_, ?_, trivial⟩) ?_
  · intro A W hsz hoth hbel hdep
    exact kMoveV _ (.pointer (some ⟨g, 0, none⟩)) rfl rfl ((hoth 0 (free2_of (by kernel_rfl))).trans rfl) (symV hbel hsz rfl rfl (show 25 < 48 by decide) (Below.refl _ _) rfl)
  · intro A W hsz hoth hbel hdep
    exact kLoadRow _ _ _ _ _ _ rfl rfl ((hoth 3 (free2_of (by kernel_rfl))).trans rfl) ((hM4.get 2 rfl).below hbel (hM4.get 2 rfl).lt) Tryz.underlying81 rfl (info_WideC _) (symV hbel hsz rfl rfl (show 26 < 48 by decide) (Below.refl _ _) rfl)
  · intro A W hsz hoth hbel hdep
    exact kLoadRow _ _ _ _ _ _ rfl rfl ((hoth 6 (free2_of (by kernel_rfl))).trans rfl) ((hM4.get 0 rfl).below hbel (hM4.get 0 rfl).lt) Tryz.underlying81 rfl (info_WideC _) (symV hbel hsz rfl rfl (show 27 < 48 by decide) (Below.refl _ _) rfl)
  · intro A W hsz hoth hbel hdep
    refine kCall2 76 _ _ _ _ _ rfl rfl (by kernel_rfl) (by have h := hdep ⟨2, .data⟩ (by simp) rfl; exact h) rfl ?_
    refine (wRight_as t k 2 mt Hk.out W).mono ?_
    rintro e r ⟨rfl, hBc⟩
    exact ⟨_, rfl, (symV hbel hsz rfl rfl (show 28 < 48 by decide) hBc rfl)⟩
  · intro A W hsz hoth hbel hdep
    refine kCall3 75 _ _ _ _ _ _ _ rfl rfl (by kernel_rfl) (by have h := hdep ⟨0, .data⟩ (by simp) rfl; exact h) (by have h := hdep ⟨1, .data⟩ (by simp) rfl; exact h) (by have h := hdep ⟨3, .data⟩ (by simp) rfl; exact h) ?_
    refine (fPow_as hm g ma mk Hr.out W ((hr.below hM4.below hr.lt).below hbel (hr.below hM4.below hr.lt).lt)).mono ?_
    rintro e r ⟨rfl, hBc⟩
    exact ⟨_, rfl, (symV hbel hsz rfl rfl (show 29 < 48 by decide) hBc rfl)⟩
  · intro A W hsz hoth hbel hdep
    refine kAllocL _ _ rfl rfl zero_Wide ?_
    intro r hR hl hBc
    exact (symV hbel hsz rfl rfl (show 8 < 48 by decide) hBc ⟨_, _, rfl, hbel.size, wcells_size _, hR⟩)
  · intro A W hsz hoth hbel hdep
    obtain ⟨g, cs, d8, hg, hcs, hR⟩ : ∃ g cs, A.tmps.getD 8 undef = .pointer (some ⟨g, 0, none⟩) ∧ w4.heap.size ≤ g ∧ cs.size = 4 ∧ Row W g 81 cs := (by have h := hdep ⟨5, .data⟩ (by simp) rfl; exact h)
    refine kStoreRow _ _ _ _ _ _ (wcells (r)) rfl rfl d8 (by have h := hdep ⟨4, .data⟩ (by simp) rfl; exact h) hR (info_WideC _) (by rw [wcells_size, hcs]) (wcells_one _) ?_
    intro r hR2 hW
    exact symW hbel rfl hW hg hR2 (by simp only [Singles, and_self, wcells_size]) ⟨g, d8, hg, hR2⟩
  intro w5 hB5
  dsimp only [AllV]
  intro g5 hg5 hR5
  dsimp only [putAll]
  go_frame
  have hM5 := hM4.add hB5 hg5 hR5; clear hB5 hg5 hR5 hM4
  go_wp2_with fail
  refine region_sym (fun _ => 0) [.val (.pointer (some ⟨g, 0, none⟩)), .val (.agg (wcells r)), .val (.agg (wcells r)), .val (.agg (wcells s)), .val (.pointer (some ⟨g, 0, none⟩)), .val (.agg (wcells a)), .val (.agg (wcells x)), .val (.bool false)] [.val (.pointer (some ⟨g, 0, none⟩)), .val (.agg (wcells r)), .val (.agg (wcells r)), .val (.agg (wcells s)), .val (.pointer (some ⟨g, 0, none⟩)), .val (.agg (wcells a)), .val (.agg (wcells x)), .val (.bool false)] (by kernel_rfl) (by kernel_rfl) rfl rfl (steps_all ⟨?_, ?_, ?_, ?_, ?_, ?_, ?_, ?_, trivial⟩) ?_
  · intro A W hsz hoth hbel hdep
    exact kMoveV _ (.pointer (some ⟨g, 0, none⟩)) rfl rfl ((hoth 0 (free2_of (by kernel_rfl))).trans rfl) (symV hbel hsz rfl rfl (show 30 < 48 by decide) (Below.refl _ _) rfl)
  · intro A W hsz hoth hbel hdep
    exact kLoadRow _ _ _ _ _ _ rfl rfl ((hoth 8 (free2_of (by kernel_rfl))).trans rfl) ((hM5.get 0 rfl).below hbel (hM5.get 0 rfl).lt) Tryz.underlying81 rfl (info_WideC _) (symV hbel hsz rfl rfl (show 31 < 48 by decide) (Below.refl _ _) rfl)
  · intro A W hsz hoth hbel hdep
    exact kLoadRow _ _ _ _ _ _ rfl rfl ((hoth 8 (free2_of (by kernel_rfl))).trans rfl) ((hM5.get 0 rfl).below hbel (hM5.get 0 rfl).lt) Tryz.underlying81 rfl (info_WideC _) (symV hbel hsz rfl rfl (show 32 < 48 by decide) (Below.refl _ _) rfl)
  · intro A W hsz hoth hbel hdep
    refine kCall3 77 _ _ _ _ _ _ _ rfl rfl (by kernel_rfl) (by have h := hdep ⟨0, .data⟩ (by simp) rfl; exact h) (by have h := hdep ⟨1, .data⟩ (by simp) rfl; exact h) (by have h := hdep ⟨2, .data⟩ (by simp) rfl; exact h) ?_
    refine (fMul_as hm g mr mr Hs.out W ((hr.below hM5.below hr.lt).below hbel (hr.below hM5.below hr.lt).lt)).mono ?_
    rintro e r ⟨rfl, hBc⟩
    exact ⟨_, rfl, (symV hbel hsz rfl rfl (show 33 < 48 by decide) hBc rfl)⟩
  · intro A W hsz hoth hbel hdep
    exact kMoveV _ (.pointer (some ⟨g, 0, none⟩)) rfl rfl ((hoth 0 (free2_of (by kernel_rfl))).trans rfl) (symV hbel hsz rfl rfl (show 34 < 48 by decide) (Below.refl _ _) rfl)
  · intro A W hsz hoth hbel hdep
    exact kLoadRow _ _ _ _ _ _ rfl rfl ((hoth 3 (free2_of (by kernel_rfl))).trans rfl) ((hM5.get 3 rfl).below hbel (hM5.get 3 rfl).lt) Tryz.underlying81 rfl (info_WideC _) (symV hbel hsz rfl rfl (show 35 < 48 by decide) (Below.refl _ _) rfl)
  · intro A W hsz hoth hbel hdep
    refine kCall2 78 _ _ _ _ _ rfl rfl (by kernel_rfl) (by have h := hdep ⟨4, .data⟩ (by simp) rfl; exact h) (by have h := hdep ⟨5, .data⟩ (by simp) rfl; exact h) ?_
    refine (fonce_as hm g ma Hx.out W ((hr.below hM5.below hr.lt).below hbel (hr.below hM5.below hr.lt).lt)).mono ?_
    rintro e r ⟨rfl, hBc⟩
    exact ⟨_, rfl, (symV hbel hsz rfl rfl (show 36 < 48 by decide) hBc rfl)⟩
  · intro A W hsz hoth hbel hdep
    exact kNeqW _ _ _ (s) (x) false rfl rfl (by have h := hdep ⟨3, .data⟩ (by simp) rfl; exact h) (by have h := hdep ⟨6, .data⟩ (by simp) rfl; exact h) (D.out) (symV hbel hsz rfl rfl (show 37 < 48 by decide) (Below.refl _ _) rfl)
  intro w6 hB6
  dsimp only [AllV]
  dsimp only [putAll]
  go_frame
  have hM6 := hM5.on hB6; clear hB6 hM5
  go_wp2_with (first
    | ((with_reducible change wpList _ _ _ (Oper.mk (some 39) _ _ _ _ _ :: _) _ _); refine kIndexAddr1 _ _ _ _ _ _ _ 0 _ rfl rfl rfl rfl Tryz.underlying81 info_w64 rfl (by decide) ?_; go_frame)
    | ((with_reducible change wpList _ _ _ (Oper.mk (some 40) _ _ _ _ _ :: _) _ _); refine kLoad1 _ _ _ _ _ _ _ _ rfl rfl rfl (hM6.get 0 rfl) Tryz.underlying79 rfl (wcells_get r 0 (by decide)) ?_; go_frame)
    | ((with_reducible change wpList _ _ _ (Oper.mk (some 47) _ _ _ _ _ :: _) _ _); refine mLoad hM6 0 _ _ _ rfl rfl rfl rfl ?_; go_frame)
    | ((with_reducible change wpList _ _ _ (Oper.mk none (Op.store _ (Operand.tmp 4) (Operand.tmp 47)) _ _ _ _ :: _) _ _); refine mStoreAt hM6 2 _ _ _ _ (r) rfl rfl rfl rfl rfl ?_; intro w7 hM7; dsimp only [List.set] at hM7; clear hM6; go_frame))
  exact result_row_tmp Tryz.results59 rfl rfl (hM7.get 2 rfl) Tryz.underlying81 rfl (info_WideC _) rfl ⟨rfl, hM7.below⟩
set_option maxRecDepth 100000 in
set_option maxHeartbeats 4000000 in
theorem fRoot_odd {m : Nat} (hm : Modu m) (a : Nat) (g : Nat) (ma : a < M256) (w : World) (hr : Row w g 110 (wcells m)) (hG : Glob 2 m w) (hm1 : m + 1 < M256) {r : Nat} (hroot : a ^ ((m + 1) / 4) % m = r) (hyes : r * r % m = a % m) (hpar : r % 2 = 1) :
    Calls Tryz.prog 59 #[.pointer (some ⟨g, 0, none⟩), WV a] w fun e w' => e = .returned (.tuple #[WV ((m - r) % m), .int .i64 0]) ∧ Below w.heap.size w w' := by
  obtain ⟨n1, H1⟩ : ∃ n, Hid (n = 1) := ⟨1, Lib.hid rfl⟩
  have h1 : n1 < 18446744073709551616 := by rw [H1.out]; decide
  have mn1 : n1 < M256 := by rw [H1.out]; decide
  have E1 : (1 : Int) = (n1 : Int) := by rw [H1.out]; rfl
  replace E1 := Lib.hid E1
  obtain ⟨t, ht⟩ : ∃ t, Hid (m + n1 = t) := ⟨_, Lib.hid rfl⟩
  have mt : t < M256 := by rw [← ht.out, H1.out]; exact hm1
  obtain ⟨k, Hk⟩ : ∃ k, Hid (t / 2 ^ 2 = k) := ⟨_, Lib.hid rfl⟩
  have mk : k < M256 := by rw [← Hk.out]; exact Nat.lt_of_le_of_lt (Nat.div_le_self _ _) mt
  have Hkk := Lib.hid (show (m + 1) / 4 = k by rw [← Hk.out, ← ht.out, H1.out])
  rw [Hkk.out] at hroot
  obtain ⟨x, Hx⟩ : ∃ x, Hid (a % m = x) := ⟨_, Lib.hid rfl⟩
  have mx : x < M256 := by rw [← Hx.out]; exact hm.mod _
  obtain ⟨s, Hs⟩ : ∃ s, Hid (r * r % m = s) := ⟨_, Lib.hid rfl⟩
  have ms : s < M256 := by rw [← Hs.out]; exact hm.mod _
  have mr : r < M256 := by rw [← hroot]; exact hm.mod _
  have Hr := Lib.hid hroot
  clear hroot
  have D := Lib.hid (show (!decide (s % M256 = x % M256)) = false by rw [← Hs.out, ← Hx.out, hyes]; simp)
  clear hyes
  have hl : (limb r 0 : Int) % 2 = 1 := by rw [limb0_rem, hpar]; rfl
  obtain ⟨y, Hy⟩ : ∃ y, Hid ((0 % m + m - r % m) % m = y) := ⟨_, Lib.hid rfl⟩
  have hrm : r % m = r := by rw [← Hr.out, Nat.mod_mod]
  rw [show (m - r) % m = y by rw [← Hy.out, Nat.zero_mod, Nat.zero_add, hrm]]
  clear hrm
  clear hpar
  have hM0 := mem_nil w
  unfold WV
  go_enter Tryz.func59, Tryz.ntmps59
  go_wp2_with (first
    | ((with_reducible change wpList _ _ _ (Oper.mk (some 3) _ _ _ _ _ :: _) _ _); refine mBox hM0 _ _ rfl rfl rfl ?_; intro w1 hM1; clear hM0; go_frame)
    | ((with_reducible change wpList _ _ _ (Oper.mk (some 4) _ _ _ _ _ :: _) _ _); refine mAlloc hM1 rfl rfl ?_; intro w2 hM2; clear hM1; go_frame))
  refine region_sym (fun _ => 0) [.val (.pointer (some ⟨g, 0, none⟩)), .val (.pointer (some ⟨g, 0, none⟩)), .val (.pointer (some ⟨g, 0, none⟩)), .val (.agg (wcells m)), .val (.agg (wcells m)), .val (.bool false)] [.val (.pointer (some ⟨g, 0, none⟩)), .val (.pointer (some ⟨g, 0, none⟩)), .val (.pointer (some ⟨g, 0, none⟩)), .val (.agg (wcells m)), .val (.agg (wcells m)), .val (.bool false)] (by kernel_rfl) (by kernel_rfl) rfl rfl (steps_all ⟨?_, ?_, ?_, ?_, ?_, ?_, trivial⟩) ?_
  · intro A W hsz hoth hbel hdep
    exact kMoveV _ (.pointer (some ⟨g, 0, none⟩)) rfl rfl ((hoth 0 (free2_of (by kernel_rfl))).trans rfl) (symV hbel hsz rfl rfl (show 9 < 48 by decide) (Below.refl _ _) rfl)
  · intro A W hsz hoth hbel hdep
    exact kNilCheck _ _ rfl rfl (by have h := hdep ⟨0, .data⟩ (by simp) rfl; exact h) (symV hbel hsz rfl rfl (show 10 < 48 by decide) (Below.refl _ _) rfl)
  · intro A W hsz hoth hbel hdep
    exact kFieldRing _ _ rfl rfl (by have h := hdep ⟨1, .data⟩ (by simp) rfl; exact h) (symV hbel hsz rfl rfl (show 11 < 48 by decide) (Below.refl _ _) rfl)
  · intro A W hsz hoth hbel hdep
    exact kLoadRow _ _ _ _ _ _ rfl rfl (by have h := hdep ⟨2, .data⟩ (by simp) rfl; exact h) ((hr.below hM2.below hr.lt).below hbel (hr.below hM2.below hr.lt).lt) Tryz.underlying81 rfl (info_WideC _) (symV hbel hsz rfl rfl (show 12 < 48 by decide) (Below.refl _ _) rfl)
  · intro A W hsz hoth hbel hdep
    exact kLoadG _ _ _ rfl rfl rfl ((hG.mem hM2).below hbel) (symV hbel hsz rfl rfl (show 13 < 48 by decide) (Below.refl _ _) rfl)
  · intro A W hsz hoth hbel hdep
    exact kNeqW _ _ _ (m) (m) false rfl rfl (by have h := hdep ⟨3, .data⟩ (by simp) rfl; exact h) (by have h := hdep ⟨4, .data⟩ (by simp) rfl; exact h) (by simp) (symV hbel hsz rfl rfl (show 14 < 48 by decide) (Below.refl _ _) rfl)
  intro w3 hB3
  dsimp only [AllV]
  dsimp only [putAll]
  go_frame
  have hM3 := hM2.on hB3; clear hB3 hM2
  go_wp2_with fail
  refine region_sym (fun _ => 9) [.val (.pointer (some ⟨g, 0, none⟩)), .val (.pointer (some ⟨g, 0, none⟩)), .val (.pointer (some ⟨g, 0, none⟩)), .val (.agg (wcells m)), .val (.agg (wcells n1)), .val (.tuple #[.agg (wcells t), .bool false]), .val (.tuple #[.agg (wcells t), .bool false]), .val (.agg (wcells t)), .val (.bool false), .fresh w3.heap.size 81 4, .hold w3.heap.size 81 (wcells (t)), .val (.bool false)] [.val (.pointer (some ⟨g, 0, none⟩)), .val (.pointer (some ⟨g, 0, none⟩)), .val (.pointer (some ⟨g, 0, none⟩)), .val (.agg (wcells m)), .val (.agg (wcells n1)), .val (.tuple #[.agg (wcells t), .bool false]), .val (.tuple #[.agg (wcells t), .bool false]), .val (.agg (wcells t)), .val (.bool false), .hold w3.heap.size 81 (wcells (t)), .val undef, .val (.bool false)] (by kernel_rfl) (by kernel_rfl) rfl rfl (steps_all ⟨?_, ?_, ?_, ?_, ?_, ?_, ?_, ?_, ?_, ?_, ?_, ?_, trivial⟩) ?_
  · intro A W hsz hoth hbel hdep
    exact kMoveV _ (.pointer (some ⟨g, 0, none⟩)) rfl rfl ((hoth 0 (free2_of (by kernel_rfl))).trans rfl) (symV hbel hsz rfl rfl (show 17 < 48 by decide) (Below.refl _ _) rfl)
  · intro A W hsz hoth hbel hdep
    exact kNilCheck _ _ rfl rfl (by have h := hdep ⟨0, .data⟩ (by simp) rfl; exact h) (symV hbel hsz rfl rfl (show 18 < 48 by decide) (Below.refl _ _) rfl)
  · intro A W hsz hoth hbel hdep
    exact kFieldRing _ _ rfl rfl (by have h := hdep ⟨1, .data⟩ (by simp) rfl; exact h) (symV hbel hsz rfl rfl (show 19 < 48 by decide) (Below.refl _ _) rfl)
  · intro A W hsz hoth hbel hdep
    exact kLoadRow _ _ _ _ _ _ rfl rfl (by have h := hdep ⟨2, .data⟩ (by simp) rfl; exact h) ((hr.below hM3.below hr.lt).below hbel (hr.below hM3.below hr.lt).lt) Tryz.underlying81 rfl (info_WideC _) (symV hbel hsz rfl rfl (show 20 < 48 by decide) (Below.refl _ _) rfl)
  · intro A W hsz hoth hbel hdep
    refine kCall1 74 _ _ _ rfl rfl (by kernel_rfl) rfl ?_
    refine (wOf_lit n1 1 h1 E1.out W).mono ?_
    rintro e r ⟨rfl, hBc⟩
    exact ⟨_, rfl, (symV hbel hsz rfl rfl (show 21 < 48 by decide) hBc rfl)⟩
  · intro A W hsz hoth hbel hdep
    refine kCall2 73 _ _ _ _ _ rfl rfl (by kernel_rfl) (by have h := hdep ⟨3, .data⟩ (by simp) rfl; exact h) (by have h := hdep ⟨4, .data⟩ (by simp) rfl; exact h) ?_
    refine (wAdd_fits hm.lt mn1 ht.out mt W).mono ?_
    rintro e r ⟨rfl, hBc⟩
    exact ⟨_, rfl, (symV hbel hsz rfl rfl (show 22 < 48 by decide) hBc rfl)⟩
  · intro A W hsz hoth hbel hdep
    exact kMoveV _ (.tuple #[.agg (wcells t), .bool false]) rfl rfl (by have h := hdep ⟨5, .data⟩ (by simp) rfl; exact h) (symV hbel hsz rfl rfl (show 16 < 48 by decide) (Below.refl _ _) rfl)
  · intro A W hsz hoth hbel hdep
    exact kExtract _ _ _ (.agg (wcells t)) rfl rfl (by have h := hdep ⟨6, .data⟩ (by simp) rfl; exact h) rfl (symV hbel hsz rfl rfl (show 23 < 48 by decide) (Below.refl _ _) rfl)
  · intro A W hsz hoth hbel hdep
    exact kExtract _ _ _ (.bool false) rfl rfl (by have h := hdep ⟨6, .data⟩ (by simp) rfl; exact h) rfl (symV hbel hsz rfl rfl (show 24 < 48 by decide) (Below.refl _ _) rfl)
  · intro A W hsz hoth hbel hdep
    refine kAllocL _ _ rfl rfl zero_Wide ?_
    intro r hR hl hBc
    exact (symV hbel hsz rfl rfl (show 6 < 48 by decide) hBc ⟨_, _, rfl, hbel.size, wcells_size _, hR⟩)
  · intro A W hsz hoth hbel hdep
    obtain ⟨g, cs, d8, hg, hcs, hR⟩ : ∃ g cs, A.tmps.getD 6 undef = .pointer (some ⟨g, 0, none⟩) ∧ w3.heap.size ≤ g ∧ cs.size = 4 ∧ Row W g 81 cs := (by have h := hdep ⟨9, .data⟩ (by simp) rfl; exact h)
    refine kStoreRow _ _ _ _ _ _ (wcells (t)) rfl rfl d8 (by have h := hdep ⟨7, .data⟩ (by simp) rfl; exact h) hR (info_WideC _) (by rw [wcells_size, hcs]) (wcells_one _) ?_
    intro r hR2 hW
    exact symW hbel rfl hW hg hR2 (by simp only [Singles, and_self, wcells_size]) ⟨g, d8, hg, hR2⟩
  · intro A W hsz hoth hbel hdep
    exact kAssignV _ (.bool false) rfl rfl (by have h := hdep ⟨8, .data⟩ (by simp) rfl; exact h) (symV hbel hsz rfl rfl (show 7 < 48 by decide) (Below.refl _ _) rfl)
  intro w4 hB4
  dsimp only [AllV]
  intro g4 hg4 hR4
  dsimp only [putAll]
  go_frame
  have hM4 := hM3.add hB4 hg4 hR4; clear hB4 hg4 hR4 hM3
  go_wp2_with fail
  refine region_sym (fun _ => 5) [.val (.pointer (some ⟨g, 0, none⟩)), .val (.agg (wcells a)), .val (.agg (wcells t)), .val (.agg (wcells k)), .val (.agg (wcells r)), .fresh w4.heap.size 81 4, .hold w4.heap.size 81 (wcells (r))] [.val (.pointer (some ⟨g, 0, none⟩)), .val (.agg (wcells a)), .val (.agg (wcells t)), .val (.agg (wcells k)), .val (.agg (wcells r)), .hold w4.heap.size 81 (wcells (r)), .val undef] (by kernel_rfl) (by kernel_rfl) rfl rfl (steps_all ⟨?_, ?_, ?_, ?_, ?_, ?_, ?_, trivial⟩) ?_
  · intro A W hsz hoth hbel hdep
    exact kMoveV _ (.pointer (some ⟨g, 0, none⟩)) rfl rfl ((hoth 0 (free2_of (by kernel_rfl))).trans rfl) (symV hbel hsz rfl rfl (show 25 < 48 by decide) (Below.refl _ _) rfl)
  · intro A W hsz hoth hbel hdep
    exact kLoadRow _ _ _ _ _ _ rfl rfl ((hoth 3 (free2_of (by kernel_rfl))).trans rfl) ((hM4.get 2 rfl).below hbel (hM4.get 2 rfl).lt) Tryz.underlying81 rfl (info_WideC _) (symV hbel hsz rfl rfl (show 26 < 48 by decide) (Below.refl _ _) rfl)
  · intro A W hsz hoth hbel hdep
    exact kLoadRow _ _ _ _ _ _ rfl rfl ((hoth 6 (free2_of (by kernel_rfl))).trans rfl) ((hM4.get 0 rfl).below hbel (hM4.get 0 rfl).lt) Tryz.underlying81 rfl (info_WideC _) (symV hbel hsz rfl rfl (show 27 < 48 by decide) (Below.refl _ _) rfl)
  · intro A W hsz hoth hbel hdep
    refine kCall2 76 _ _ _ _ _ rfl rfl (by kernel_rfl) (by have h := hdep ⟨2, .data⟩ (by simp) rfl; exact h) rfl ?_
    refine (wRight_as t k 2 mt Hk.out W).mono ?_
    rintro e r ⟨rfl, hBc⟩
    exact ⟨_, rfl, (symV hbel hsz rfl rfl (show 28 < 48 by decide) hBc rfl)⟩
  · intro A W hsz hoth hbel hdep
    refine kCall3 75 _ _ _ _ _ _ _ rfl rfl (by kernel_rfl) (by have h := hdep ⟨0, .data⟩ (by simp) rfl; exact h) (by have h := hdep ⟨1, .data⟩ (by simp) rfl; exact h) (by have h := hdep ⟨3, .data⟩ (by simp) rfl; exact h) ?_
    refine (fPow_as hm g ma mk Hr.out W ((hr.below hM4.below hr.lt).below hbel (hr.below hM4.below hr.lt).lt)).mono ?_
    rintro e r ⟨rfl, hBc⟩
    exact ⟨_, rfl, (symV hbel hsz rfl rfl (show 29 < 48 by decide) hBc rfl)⟩
  · intro A W hsz hoth hbel hdep
    refine kAllocL _ _ rfl rfl zero_Wide ?_
    intro r hR hl hBc
    exact (symV hbel hsz rfl rfl (show 8 < 48 by decide) hBc ⟨_, _, rfl, hbel.size, wcells_size _, hR⟩)
  · intro A W hsz hoth hbel hdep
    obtain ⟨g, cs, d8, hg, hcs, hR⟩ : ∃ g cs, A.tmps.getD 8 undef = .pointer (some ⟨g, 0, none⟩) ∧ w4.heap.size ≤ g ∧ cs.size = 4 ∧ Row W g 81 cs := (by have h := hdep ⟨5, .data⟩ (by simp) rfl; exact h)
    refine kStoreRow _ _ _ _ _ _ (wcells (r)) rfl rfl d8 (by have h := hdep ⟨4, .data⟩ (by simp) rfl; exact h) hR (info_WideC _) (by rw [wcells_size, hcs]) (wcells_one _) ?_
    intro r hR2 hW
    exact symW hbel rfl hW hg hR2 (by simp only [Singles, and_self, wcells_size]) ⟨g, d8, hg, hR2⟩
  intro w5 hB5
  dsimp only [AllV]
  intro g5 hg5 hR5
  dsimp only [putAll]
  go_frame
  have hM5 := hM4.add hB5 hg5 hR5; clear hB5 hg5 hR5 hM4
  go_wp2_with fail
  refine region_sym (fun _ => 0) [.val (.pointer (some ⟨g, 0, none⟩)), .val (.agg (wcells r)), .val (.agg (wcells r)), .val (.agg (wcells s)), .val (.pointer (some ⟨g, 0, none⟩)), .val (.agg (wcells a)), .val (.agg (wcells x)), .val (.bool false)] [.val (.pointer (some ⟨g, 0, none⟩)), .val (.agg (wcells r)), .val (.agg (wcells r)), .val (.agg (wcells s)), .val (.pointer (some ⟨g, 0, none⟩)), .val (.agg (wcells a)), .val (.agg (wcells x)), .val (.bool false)] (by kernel_rfl) (by kernel_rfl) rfl rfl (steps_all ⟨?_, ?_, ?_, ?_, ?_, ?_, ?_, ?_, trivial⟩) ?_
  · intro A W hsz hoth hbel hdep
    exact kMoveV _ (.pointer (some ⟨g, 0, none⟩)) rfl rfl ((hoth 0 (free2_of (by kernel_rfl))).trans rfl) (symV hbel hsz rfl rfl (show 30 < 48 by decide) (Below.refl _ _) rfl)
  · intro A W hsz hoth hbel hdep
    exact kLoadRow _ _ _ _ _ _ rfl rfl ((hoth 8 (free2_of (by kernel_rfl))).trans rfl) ((hM5.get 0 rfl).below hbel (hM5.get 0 rfl).lt) Tryz.underlying81 rfl (info_WideC _) (symV hbel hsz rfl rfl (show 31 < 48 by decide) (Below.refl _ _) rfl)
  · intro A W hsz hoth hbel hdep
    exact kLoadRow _ _ _ _ _ _ rfl rfl ((hoth 8 (free2_of (by kernel_rfl))).trans rfl) ((hM5.get 0 rfl).below hbel (hM5.get 0 rfl).lt) Tryz.underlying81 rfl (info_WideC _) (symV hbel hsz rfl rfl (show 32 < 48 by decide) (Below.refl _ _) rfl)
  · intro A W hsz hoth hbel hdep
    refine kCall3 77 _ _ _ _ _ _ _ rfl rfl (by kernel_rfl) (by have h := hdep ⟨0, .data⟩ (by simp) rfl; exact h) (by have h := hdep ⟨1, .data⟩ (by simp) rfl; exact h) (by have h := hdep ⟨2, .data⟩ (by simp) rfl; exact h) ?_
    refine (fMul_as hm g mr mr Hs.out W ((hr.below hM5.below hr.lt).below hbel (hr.below hM5.below hr.lt).lt)).mono ?_
    rintro e r ⟨rfl, hBc⟩
    exact ⟨_, rfl, (symV hbel hsz rfl rfl (show 33 < 48 by decide) hBc rfl)⟩
  · intro A W hsz hoth hbel hdep
    exact kMoveV _ (.pointer (some ⟨g, 0, none⟩)) rfl rfl ((hoth 0 (free2_of (by kernel_rfl))).trans rfl) (symV hbel hsz rfl rfl (show 34 < 48 by decide) (Below.refl _ _) rfl)
  · intro A W hsz hoth hbel hdep
    exact kLoadRow _ _ _ _ _ _ rfl rfl ((hoth 3 (free2_of (by kernel_rfl))).trans rfl) ((hM5.get 3 rfl).below hbel (hM5.get 3 rfl).lt) Tryz.underlying81 rfl (info_WideC _) (symV hbel hsz rfl rfl (show 35 < 48 by decide) (Below.refl _ _) rfl)
  · intro A W hsz hoth hbel hdep
    refine kCall2 78 _ _ _ _ _ rfl rfl (by kernel_rfl) (by have h := hdep ⟨4, .data⟩ (by simp) rfl; exact h) (by have h := hdep ⟨5, .data⟩ (by simp) rfl; exact h) ?_
    refine (fonce_as hm g ma Hx.out W ((hr.below hM5.below hr.lt).below hbel (hr.below hM5.below hr.lt).lt)).mono ?_
    rintro e r ⟨rfl, hBc⟩
    exact ⟨_, rfl, (symV hbel hsz rfl rfl (show 36 < 48 by decide) hBc rfl)⟩
  · intro A W hsz hoth hbel hdep
    exact kNeqW _ _ _ (s) (x) false rfl rfl (by have h := hdep ⟨3, .data⟩ (by simp) rfl; exact h) (by have h := hdep ⟨6, .data⟩ (by simp) rfl; exact h) (D.out) (symV hbel hsz rfl rfl (show 37 < 48 by decide) (Below.refl _ _) rfl)
  intro w6 hB6
  dsimp only [AllV]
  dsimp only [putAll]
  go_frame
  have hM6 := hM5.on hB6; clear hB6 hM5
  go_wp2_with (first
    | ((with_reducible change wpList _ _ _ (Oper.mk (some 39) _ _ _ _ _ :: _) _ _); refine kIndexAddr1 _ _ _ _ _ _ _ 0 _ rfl rfl rfl rfl Tryz.underlying81 info_w64 rfl (by decide) ?_; go_frame)
    | ((with_reducible change wpList _ _ _ (Oper.mk (some 40) _ _ _ _ _ :: _) _ _); refine kLoad1 _ _ _ _ _ _ _ _ rfl rfl rfl (hM6.get 0 rfl) Tryz.underlying79 rfl (wcells_get r 0 (by decide)) ?_; go_frame)
    | ((with_reducible change wpList _ _ _ (Oper.mk (some 44) _ _ _ _ _ :: _) _ _); refine kBuildW0 rfl rfl ?_; go_frame)
    | ((with_reducible change wpList _ _ _ (Oper.mk (some 45) _ _ _ _ _ :: _) _ _); refine mLoad hM6 0 _ _ _ rfl rfl rfl rfl ?_; go_frame)
    | (go_at_call 79; (with_reducible change Calls _ _ #[Value.pointer (some ⟨g, 0, none⟩), Value.agg (wcells 0), Value.agg (wcells r)] _ _); refine (fSub_as hm g M256_pos mr Hy.out _ (hr.below hM6.below hr.lt)).mono ?_; rintro e w7 ⟨rfl, hB7⟩; have hM7 := hM6.on hB7; clear hB7 hM6; (try unfold WV); go_frame)
    | ((with_reducible change wpList _ _ _ (Oper.mk none (Op.store _ (Operand.tmp 8) (Operand.tmp 46)) _ _ _ _ :: _) _ _); refine mStoreAt hM7 0 _ _ _ _ (y) rfl rfl rfl rfl rfl ?_; intro w8 hM8; dsimp only [List.set] at hM8; clear hM7; go_frame)
    | ((with_reducible change wpList _ _ _ (Oper.mk (some 47) _ _ _ _ _ :: _) _ _); refine mLoad hM8 0 _ _ _ rfl rfl rfl rfl ?_; go_frame)
    | ((with_reducible change wpList _ _ _ (Oper.mk none (Op.store _ (Operand.tmp 4) (Operand.tmp 47)) _ _ _ _ :: _) _ _); refine mStoreAt hM8 2 _ _ _ _ (y) rfl rfl rfl rfl rfl ?_; intro w9 hM9; dsimp only [List.set] at hM9; clear hM8; go_frame))
  exact result_row_tmp Tryz.results59 rfl rfl (hM9.get 2 rfl) Tryz.underlying81 rfl (info_WideC _) rfl ⟨rfl, hM9.below⟩
end Go.Proofs.YtnaclalbeocpkaaGreatDoor

/-
  What the statements of layer 3 ask besides: single operations in any region, rows of two numbers, contracts by a number's name.
-/
namespace Go.Proofs.YtnaclalbeocpkaaGreatDoor
open Go Go.RowKit

section
variable {P : Program} {ops : Array Oper} {Q : Exit → Act → World → Prop} {rest : List Oper} {o : Oper} {a : Act} {w : World}
theorem unwanted_of {l : List Oper} {g : Nat} {b : Bool} {d : Tmp} {u : Value} (hg : o.guard = some (g, b)) (hd : (l[g]?).bind (·.dst) = some d) (hv : a.tmps.getD d undef = u) (hu : u = .bool (!b) ∨ u = undef) : Region.wanted o (yielded l.toArray a.tmps) = false := by
  unfold Region.wanted
  rw [hg]
  cases hq : a.tmps[d]? with
  | none => simp [yielded, hd, hq]
  | some x =>
    have e : x = u := by rw [Array.getD_eq_getD_getElem?, hq] at hv; simpa using hv
    subst e
    rcases hu with h | h <;> subst h <;> cases b <;> simp [yielded, hd, hq, undef]
end

theorem Row.on {w w' : World} {g : Nat} {T : TypeId} {cs : Array Value} (h : Row w g T cs) (hb : Below w.heap.size w w') : Row w' g T cs := h.below hb h.lt
/-! ### rows of two numbers -/
def wcells2 (a b : Nat) : Array Value := wcells a ++ wcells b
theorem wcells2_size (a b : Nat) : (wcells2 a b).size = 8 := by unfold wcells2; simp [wcells_size]
theorem wcells2_at0 (a b : Nat) : (wcells2 a b).extract 0 (0 + 4) = wcells a := rfl
theorem wcells2_at4 (a b : Nat) : (wcells2 a b).extract 4 (4 + 4) = wcells b := rfl
section
variable {ops : Array Oper} {Q : Exit → Act → World → Prop} {rest : List Oper} {o : Oper} {a : Act} {w : World}
end

/-! ### contracts by names -/
theorem fAdd_as {m a b x : Nat} (hm : Modu m) (g : Nat) (ma : a < M256) (mb : b < M256) (h : x = (a + b) % m) (w : World) (hr : Row w g 110 (wcells m)) :
    Calls Tryz.prog 80 #[.pointer (some ⟨g, 0, none⟩), WV a, WV b] w fun e w' => e = .returned (WV x) ∧ Below w.heap.size w w' := by
  subst h; exact fAdd_any hm a b g ma mb w hr
theorem neqW_no {a b : Nat} (h : a = b) : (!decide (a % M256 = b % M256)) = false := by rw [h]; simp
theorem eqlW_yes {a b : Nat} (h : a = b) : decide (a % M256 = b % M256) = true := by rw [h]; simp
theorem eqlW_no {a b : Nat} (ha : a < M256) (hb : b < M256) (h : a ≠ b) : decide (a % M256 = b % M256) = false := by
  rw [Nat.mod_eq_of_lt ha, Nat.mod_eq_of_lt hb]; exact decide_eq_false h
theorem neqW_yes {a b : Nat} (ha : a < M256) (hb : b < M256) (h : a ≠ b) : (!decide (a % M256 = b % M256)) = true := by rw [eqlW_no ha hb h]; rfl
end Go.Proofs.YtnaclalbeocpkaaGreatDoor
