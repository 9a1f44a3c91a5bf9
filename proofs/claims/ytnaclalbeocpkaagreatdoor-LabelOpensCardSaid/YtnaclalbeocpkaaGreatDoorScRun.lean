/-
  Layer 7: the walks of count, word, pushAlone, script, Run and Opens.
-/
import Derived.Test.YtnaclalbeocpkaaGreatDoorScOps
namespace Go.Proofs.YtnaclalbeocpkaaGreatDoor
open Go Go.RowKit

theorem rn_count {base : Nat} {hs : List Value} {Gs : List (Nat × Obj)} {w w' : World} {g : Nat} {s : SSt} {n m : Nat} {sv bv : Value} {vs : List Value} (h : RnX base hs Gs w g s n sv bv vs) (hR : Row w' g 43 (rowR hs sv bv m)) (hW : Wrote g w w') : Rn base hs Gs w' g s m ∧ Fr base w w' := by
  have hk := kp_wrote h.row hW
  exact ⟨⟨sv, bv, vs, hR, h.hl, h.hb, hk.own h.st (by decide), hk.own h.br (by decide), h.len, fun j u m hu hm => (h.pc j u m hu hm).keep (hk.kb no_runner), h.sl, h.wl, h.pl, gl_keep h.gl (hW.below h.hb)⟩, hW.below h.hb, hk.kb no_runner⟩
/-- the answer of count -/
def CountPost (base : Nat) (hs : List Value) (Gs : List (Nat × Obj)) (g : Nat) (w : World) (s : SSt) (m e : Nat) (en : Ending) (w' : World) : Prop := en = .returned (.int .i64 (e : Int)) ∧ (e = 0 → Rn base hs Gs w' g s m) ∧ Fr base w w'
set_option maxRecDepth 100000 in
set_option maxHeartbeats 8000000 in
theorem scCount_any {base : Nat} {hs : List Value} {Gs : List (Nat × Obj)} {g : Nat} {n : Nat} {s : SSt} {c : UInt8} {v : Value} {d : List UInt8} (w : World) (h : Rn base hs Gs w g s n) (hv : IsVals w v (d.map VB)) (hn : n ≤ 100) (hd : d.length ≤ 1000000) : Calls Tryz.prog 25 #[.pointer (some ⟨g, 0, none⟩), VB c, v] w (CountPost base hs Gs g w s (if pushesB c then n else n + 1) (wordE false n c d)) := by
  obtain ⟨D, hD⟩ : ∃ D, d.length = D := ⟨_, rfl⟩
  have ew : wordE false n c d = if 520 < D then 73 else if !pushesB c && decide (100 ≤ n) then 73 else 0 := by unfold wordE; rw [Bool.false_and, if_neg (by simp), hD]
  obtain ⟨m, hm⟩ : ∃ m, (if pushesB c then n else n + 1) = m := ⟨_, rfl⟩
  rw [ew, hm]
  clear ew
  have Hm := Lib.hid hm
  clear hm
  by_cases k1 : 520 < D
  · rw [if_pos k1]
    have h1 : decide ((D : Int) > 520) = true := by simp; omega
    go_enter Tryz.func25, Tryz.ntmps25
    go_wp2_with (first
      | ((with_reducible change wpList _ _ _ (Oper.mk (some 8) _ _ _ _ _ :: _) _ _); refine kLenN _ _ _ v _ D rfl rfl rfl hv (by rw [List.length_map, hD]) Tryz.underlying26 ?_; go_frame)
      | ((with_reducible change wpList _ _ _ (Oper.mk (some 9) _ _ _ _ _ :: _) _ _); refine kGtrI _ _ _ _ .i64 (D : Int) 520 true rfl rfl rfl rfl h1 ?_; go_frame))
    go_ret
    exact ⟨rfl, fun h => (by cases h), Fr.refl _ _⟩
  rw [if_neg k1]
  have h1 : decide ((D : Int) > 520) = false := by simp; omega
  cases hp : pushesB c with
  | true =>
    have hmn : m = n := by rw [← Hm.out, hp]; rfl
    subst hmn
    clear Hm
    show Calls _ _ _ _ (CountPost base hs Gs g w s m 0)
    go_enter Tryz.func25, Tryz.ntmps25
    go_wp2_with (first
      | ((with_reducible change wpList _ _ _ (Oper.mk (some 8) _ _ _ _ _ :: _) _ _); refine kLenN _ _ _ v _ D rfl rfl rfl hv (by rw [List.length_map, hD]) Tryz.underlying26 ?_; go_frame)
      | ((with_reducible change wpList _ _ _ (Oper.mk (some 9) _ _ _ _ _ :: _) _ _); refine kGtrI _ _ _ _ .i64 (D : Int) 520 false rfl rfl rfl rfl h1 ?_; go_frame)
      | (go_at_call 24; refine (scIsPush_any _ _).mono ?_; rintro e w1 ⟨rfl, rfl⟩; rw [hp]; go_frame))
    go_ret
    exact ⟨rfl, fun _ => h, Fr.refl _ _⟩
  | false =>
    have hmn : m = n + 1 := by rw [← Hm.out, hp]; rfl
    subst hmn
    clear Hm
    show Calls _ _ _ _ (CountPost base hs Gs g w s (n + 1) (if (true && decide (100 ≤ n)) = true then 73 else 0))
    obtain ⟨sv, bv, vs, hX⟩ := h
    have h34 := row_34 hX.hl sv bv n
    by_cases k2 : n = 100
    · rw [if_pos (by simp; omega)]
      have h2 : decide ((n : Int) = 100) = true := by simp; omega
      clear k2
      go_enter Tryz.func25, Tryz.ntmps25
      go_wp2_with (first
        | ((with_reducible change wpList _ _ _ (Oper.mk (some 8) _ _ _ _ _ :: _) _ _); refine kLenN _ _ _ v _ D rfl rfl rfl hv (by rw [List.length_map, hD]) Tryz.underlying26 ?_; go_frame)
        | ((with_reducible change wpList _ _ _ (Oper.mk (some 9) _ _ _ _ _ :: _) _ _); refine kGtrI _ _ _ _ .i64 (D : Int) 520 false rfl rfl rfl rfl h1 ?_; go_frame)
        | (go_at_call 24; refine (scIsPush_any _ _).mono ?_; rintro e w1 ⟨rfl, rfl⟩; rw [hp]; go_frame)
        | ((with_reducible change wpList _ _ _ (Oper.mk (some 13) _ _ _ _ _ :: _) _ _); refine kNilCheck _ ⟨g, 0, none⟩ rfl rfl rfl ?_; go_frame)
        | ((with_reducible change wpList _ _ _ (Oper.mk (some 14) _ _ _ _ _ :: _) _ _); refine kRn3 _ g rfl rfl rfl ?_; go_frame)
        | ((with_reducible change wpList _ _ _ (Oper.mk (some 15) _ _ _ _ _ :: _) _ _); refine kLoad1 _ _ _ g 34 _ (.int .i64 (n : Int)) _ rfl rfl rfl hX.row Tryz.underlying3 rfl h34 ?_; go_frame)
        | ((with_reducible change wpList _ _ _ (Oper.mk (some 16) _ _ _ _ _ :: _) _ _); refine kEqlI _ _ _ _ .i64 (n : Int) 100 true rfl rfl rfl rfl h2 ?_; go_frame))
      go_ret
      exact ⟨rfl, fun h => (by cases h), Fr.refl _ _⟩
    · rw [if_neg (by simp; omega)]
      have h2 : decide ((n : Int) = 100) = false := by simp; omega
      go_enter Tryz.func25, Tryz.ntmps25
      go_wp2_with (first
        | ((with_reducible change wpList _ _ _ (Oper.mk (some 8) _ _ _ _ _ :: _) _ _); refine kLenN _ _ _ v _ D rfl rfl rfl hv (by rw [List.length_map, hD]) Tryz.underlying26 ?_; go_frame)
        | ((with_reducible change wpList _ _ _ (Oper.mk (some 9) _ _ _ _ _ :: _) _ _); refine kGtrI _ _ _ _ .i64 (D : Int) 520 false rfl rfl rfl rfl h1 ?_; go_frame)
        | (go_at_call 24; refine (scIsPush_any _ _).mono ?_; rintro e w1 ⟨rfl, rfl⟩; rw [hp]; go_frame)
        | ((with_reducible change wpList _ _ _ (Oper.mk (some 13) _ _ _ _ _ :: _) _ _); refine kNilCheck _ ⟨g, 0, none⟩ rfl rfl rfl ?_; go_frame)
        | ((with_reducible change wpList _ _ _ (Oper.mk (some 14) _ _ _ _ _ :: _) _ _); refine kRn3 _ g rfl rfl rfl ?_; go_frame)
        | ((with_reducible change wpList _ _ _ (Oper.mk (some 15) _ _ _ _ _ :: _) _ _); refine kLoad1 _ _ _ g 34 _ (.int .i64 (n : Int)) _ rfl rfl rfl hX.row Tryz.underlying3 rfl h34 ?_; go_frame)
        | ((with_reducible change wpList _ _ _ (Oper.mk (some 16) _ _ _ _ _ :: _) _ _); refine kEqlI _ _ _ _ .i64 (n : Int) 100 false rfl rfl rfl rfl h2 ?_; go_frame)
        | ((with_reducible change wpList _ _ _ (Oper.mk (some 18) _ _ _ _ _ :: _) _ _); refine kNilCheck _ ⟨g, 0, none⟩ rfl rfl rfl ?_; go_frame)
        | ((with_reducible change wpList _ _ _ (Oper.mk (some 19) _ _ _ _ _ :: _) _ _); refine kRn3 _ g rfl rfl rfl ?_; go_frame)
        | ((with_reducible change wpList _ _ _ (Oper.mk (some 20) _ _ _ _ _ :: _) _ _); refine kLoad1 _ _ _ g 34 _ (.int .i64 (n : Int)) _ rfl rfl rfl hX.row Tryz.underlying3 rfl h34 ?_; go_frame)
        | ((with_reducible change wpList _ _ _ (Oper.mk (some 21) _ _ _ _ _ :: _) _ _); refine kAddI _ _ _ _ (n : Int) 1 ((n + 1 : Nat) : Int) (by omega) rfl rfl rfl rfl ?_; go_frame)
        | ((with_reducible change wpList _ _ _ (Oper.mk (some 22) _ _ _ _ _ :: _) _ _); refine kNilCheck _ ⟨g, 0, none⟩ rfl rfl rfl ?_; go_frame)
        | ((with_reducible change wpList _ _ _ (Oper.mk (some 23) _ _ _ _ _ :: _) _ _); refine kRn3 _ g rfl rfl rfl ?_; go_frame)
        | ((with_reducible change wpList _ _ _ (Oper.mk none _ _ _ _ _ :: _) _ _); refine kStore1 _ _ _ _ g 34 _ (.int .i64 ((n + 1 : Nat) : Int)) rfl rfl rfl rfl hX.row info_intS (by rw [row_size hX.hl]; decide) rfl ?_; intro w3 hR3 hW3; rw [set_34 hX.hl] at hR3; obtain ⟨hRn, hFr⟩ := rn_count hX hR3 hW3; clear hX hR3 hW3; go_frame))
      go_ret
      exact ⟨rfl, fun _ => hRn, hFr⟩
theorem wordE_zero {n : Nat} {c : UInt8} {d : List UInt8} (h : wordE false n c d = 0) : d.length ≤ 520 := by
  unfold wordE at h
  rw [Bool.false_and, if_neg (by simp)] at h
  split at h
  · cases h
  · omega
/-- a word, or the error ahead of it -/
def wordS (E : Env) (p : Bool) (n : Nat) (c : UInt8) (d : List UInt8) (s : SSt) : Option (SSt × Nat) :=
  if wordE p n c d ≠ 0 then some (s, wordE p n c d) else doS E c d s
theorem doG_stack {E : Env} {c : UInt8} {d : List UInt8} {s t : SSt} (hb : isBr c = true) (h : doG E c d s = some (t, 0)) : t.stack.length ≤ s.stack.length := by
  unfold doG at h
  rw [hb, if_pos rfl, Option.some.injEq] at h
  unfold branchS at h
  split at h
  · split at h
    · split at h
      · cases h
      · rename_i x r hx; simp only [Prod.mk.injEq] at h; rw [← h.1, hx]; simp
    · simp only [Prod.mk.injEq] at h; rw [← h.1]; exact Nat.le_refl _
  · split at h
    · cases h
    · split at h
      · simp only [Prod.mk.injEq] at h; rw [← h.1]; exact Nat.le_refl _
      · simp only [Prod.mk.injEq] at h; rw [← h.1]; exact Nat.le_refl _
section
variable {P : Program} {ops : Array Oper} {o : Oper} {a : Act} {S : World → Prop}
theorem yLssI (T T2 : TypeId) (x y : Operand) (k : IntKind) (m n : Int) (b : Bool) (ho : o.op = .binOp .lss T x y T2) (hg : Region.wanted o (yielded ops a.tmps) = true) (hx : a.eval x = .int k m) (hy : a.eval y = .int k n) (hb : decide (m < n) = b) : YieldsIf P ops S o (.bool b) a :=
  yOf hg fun w _ => by
    subst hb
    unfold execOp; simp only [ho, hx, hy]; simp [eqGuard, binOp, Op.intCmp]
end
/-- the answer of a word -/
def WordPost (base : Nat) (hs : List Value) (Gs : List (Nat × Obj)) (g m : Nat) (w : World) (q : SSt × Nat) (en : Ending) (w' : World) : Prop := en = .returned (.int .i64 (q.2 : Int)) ∧ (q.2 = 0 → Rn base hs Gs w' g q.1 m) ∧ Fr base w w'
set_option maxRecDepth 100000 in
set_option maxHeartbeats 8000000 in
theorem scWord_any {base : Nat} {hs : List Value} {Gs : List (Nat × Obj)} {g : Nat} {n : Nat} {s : SSt} {c : UInt8} {v : Value} {d : List UInt8} {E : Env} {q : SSt × Nat} (hE : EnvOk E hs Gs) (w : World) (h : Rn base hs Gs w g s n) (hv : BV w v d) (hn : n ≤ 100) (hdl : d.length ≤ 1000000) (hsl : s.stack.length ≤ 100) (hwl : s.ways.length < 5000) (hq : wordS E false n c d s = some q) : Calls Tryz.prog 13 #[.pointer (some ⟨g, 0, none⟩), VB c, v] w (WordPost base hs Gs g (if pushesB c then n else n + 1) w q) := by
  have hcn := scCount_any (c := c) w h hv.vals hn hdl
  obtain ⟨m, hm⟩ : ∃ m, (if pushesB c then n else n + 1) = m := ⟨_, rfl⟩
  rw [hm] at hcn ⊢
  unfold wordS at hq
  by_cases he : wordE false n c d ≠ 0
  · rw [if_pos he, Option.some.injEq] at hq
    subst hq
    obtain ⟨x, hx⟩ : ∃ x, wordE false n c d = x := ⟨_, rfl⟩
    rw [hx] at hcn he ⊢
    have hne : (!decide ((x : Int) = 0)) = true := by simp; omega
    go_enter Tryz.func13, Tryz.ntmps13
    go_wp2_with (first
      | (go_at_call 25; refine (hcn).mono ?_; rintro e w1 ⟨rfl, hR1, hF1⟩; clear hcn; go_frame)
      | ((with_reducible change wpList _ _ _ (Oper.mk (some 14) _ _ _ _ _ :: _) _ _); refine kNeqI _ _ _ _ .i64 (x : Int) 0 true rfl rfl rfl rfl hne ?_; go_frame))
    go_ret
    exact ⟨rfl, fun h => absurd h he, hF1⟩
  have he0 : wordE false n c d = 0 := by omega
  rw [if_neg he] at hq
  rw [he0] at hcn
  have hd520 := wordE_zero he0
  clear he he0 hdl
  have hcn2 : Calls Tryz.prog 25 #[.pointer (some ⟨g, 0, none⟩), VB c, v] w fun en w' => en = .returned (.int .i64 0) ∧ (∃ sv bv vs, RnX base hs Gs w' g s m sv bv vs) ∧ Fr base w w' := hcn.mono (by
    rintro e w1 ⟨rfl, hR, hF⟩; exact ⟨rfl, hR rfl, hF⟩)
  clear hcn
  cases hg : goesB s with
  | false =>
    have hg2 : s.ways.reverse.all id = false := by rw [List.all_reverse]; exact hg
    go_enter Tryz.func13, Tryz.ntmps13
    go_wp2_with (first
      | (go_at_call 25; refine (hcn2).mono ?_; rintro e w1 ⟨rfl, ⟨sv, bv, vs, hX1⟩, hF1⟩; clear hcn2; have h33 := row_33 hX1.hl sv bv m; go_frame)
      | ((with_reducible change wpList _ _ _ (Oper.mk (some 17) _ _ _ _ _ :: _) _ _); refine kNilCheck _ ⟨g, 0, none⟩ rfl rfl rfl ?_; go_frame)
      | ((with_reducible change wpList _ _ _ (Oper.mk (some 18) _ _ _ _ _ :: _) _ _); refine kRn2 _ g rfl rfl rfl ?_; go_frame)
      | ((with_reducible change wpList _ _ _ (Oper.mk (some 19) _ _ _ _ _ :: _) _ _); refine kLoad1 _ _ _ g 33 _ bv _ rfl rfl rfl hX1.row Tryz.underlying41 rfl h33 ?_; go_frame)
      | (go_at_call 26; refine (bContains_any _ (isVals_own hX1.br) (by have := hX1.wl; simp; omega)).mono ?_; rintro e w2 ⟨rfl, rfl⟩; rw [hg2]; go_frame)
      | (go_at_call 27; refine (scSkip_any _ ⟨_, _, _, hX1⟩ hwl hg hq).mono ?_; rintro e w3 ⟨rfl, hR3, hF3⟩; go_frame))
    go_ret
    exact ⟨rfl, hR3, hF1.trans hF3⟩
  | true =>
    have hg2 : s.ways.reverse.all id = true := by rw [List.all_reverse]; exact hg
    obtain ⟨N, hNe⟩ : ∃ N, s.stack.length = N := ⟨_, rfl⟩
    by_cases hlt' : N < needN c
    · obtain ⟨t, ht⟩ := do_need (E := E) (d := d) hg (by rw [hNe]; exact hlt')
      rw [ht, Option.some.injEq] at hq
      subst hq
      have hlt : decide ((N : Int) < (needN c : Int)) = true := by simp; omega
      go_enter Tryz.func13, Tryz.ntmps13
      go_wp2_with (first
        | (go_at_call 25; refine (hcn2).mono ?_; rintro e w1 ⟨rfl, ⟨sv, bv, vs, hX1⟩, hF1⟩; clear hcn2; have h33 := row_33 hX1.hl sv bv m; go_frame)
        | ((with_reducible change wpList _ _ _ (Oper.mk (some 17) _ _ _ _ _ :: _) _ _); refine kNilCheck _ ⟨g, 0, none⟩ rfl rfl rfl ?_; go_frame)
        | ((with_reducible change wpList _ _ _ (Oper.mk (some 18) _ _ _ _ _ :: _) _ _); refine kRn2 _ g rfl rfl rfl ?_; go_frame)
        | ((with_reducible change wpList _ _ _ (Oper.mk (some 19) _ _ _ _ _ :: _) _ _); refine kLoad1 _ _ _ g 33 _ bv _ rfl rfl rfl hX1.row Tryz.underlying41 rfl h33 ?_; go_frame)
        | (go_at_call 26; refine (bContains_any _ (isVals_own hX1.br) (by have := hX1.wl; simp; omega)).mono ?_; rintro e w2 ⟨rfl, rfl⟩; rw [hg2]; go_frame))
      have hN : vs.length = N := hX1.len.trans hNe
      have h32 := row_32 hX1.hl sv bv m
      have hv1 := hv.keep hF1.kb
      have hle1 := Rn.le ⟨_, _, _, hX1⟩
      refine region_mixD [(0, true), (1, true), (2, true), (3, true), (4, true), (5, true), (6, false), (7, true)] (fun w => Row w g 43 (rowR hs sv bv m) ∧ IsVals w sv vs) (by kernel_rfl) (by kernel_rfl) rfl ?_
      intro w2 hBd hsd
      have hX2 := hX1.below hBd
      have hv2 := hv1.keep (kb_below hBd)
      have hF2 := hF1.trans (fr_below hBd hle1)
      clear hsd hBd hX1 hv1 hF1
      simp only [List.map_cons, List.map_nil]
      dsimp only [List.filterMap, List.getElem?_cons_zero, List.getElem?_cons_succ]
      have hS := (⟨hX2.row, isVals_own hX2.st⟩ : Row w2 g 43 (rowR hs sv bv m) ∧ IsVals w2 sv vs)
      refine dY _ hS (yMove _ (.pointer (some ⟨g, 0, none⟩)) rfl rfl rfl) ?_; go_frame
      refine dY _ hS (yNil _ ⟨g, 0, none⟩ rfl rfl rfl) ?_; go_frame
      refine dY _ hS (yRn1 _ g rfl rfl rfl) ?_; go_frame
      refine dY _ hS (yLoad1 _ _ _ g 32 _ sv _ rfl rfl rfl (fun _ h => h.1) Tryz.underlying40 rfl h32) ?_; go_frame
      refine dY _ hS (yLen _ _ _ sv vs N rfl rfl rfl (fun _ h => h.2) hN Tryz.underlying40) ?_; go_frame
      refine dY _ hS (yMove _ (VB c) rfl rfl rfl) ?_; go_frame
      refine dLoud ?_
      refine kCall1 28 _ _ _ rfl rfl (by kernel_rfl) rfl ?_
      refine (scNeeds_any c _).mono ?_
      rintro e w3 ⟨rfl, rfl⟩
      refine ⟨_, rfl, mixOn ⟨(fun w => Row w g 43 (rowR hs sv bv m) ∧ IsVals w sv vs), (fun _ h => h), hS, ?_⟩⟩
      go_frame
      refine dY _ hS (yLssI _ _ _ _ .i64 (N : Int) (needN c : Int) true rfl rfl rfl rfl hlt) ?_; go_frame
      refine dDone ?_
      go_wp2
      go_ret
      exact ⟨rfl, fun h => (by cases h), hF2⟩
    rw [do_goes hg] at hq
    obtain ⟨p, hp, rfl⟩ := Option.map_eq_some_iff.1 hq
    clear hq
    have hlt : decide ((N : Int) < (needN c : Int)) = false := by simp; omega
    obtain ⟨t, e⟩ := p
    show Calls _ _ _ _ (WordPost base hs Gs g m w (t, if isBr c then e else if e ≠ 0 then e else if 100 < t.stack.length then 73 else 0))
    obtain ⟨f, hf⟩ : ∃ f, (if isBr c then e else if e ≠ 0 then e else if 100 < t.stack.length then 73 else 0) = f := ⟨_, rfl⟩
    rw [hf]
    have Hf := Lib.hid hf
    clear hf
    go_enter Tryz.func13, Tryz.ntmps13
    go_wp2_with (first
      | (go_at_call 25; refine (hcn2).mono ?_; rintro e w1 ⟨rfl, ⟨sv, bv, vs, hX1⟩, hF1⟩; clear hcn2; have h33 := row_33 hX1.hl sv bv m; go_frame)
      | ((with_reducible change wpList _ _ _ (Oper.mk (some 17) _ _ _ _ _ :: _) _ _); refine kNilCheck _ ⟨g, 0, none⟩ rfl rfl rfl ?_; go_frame)
      | ((with_reducible change wpList _ _ _ (Oper.mk (some 18) _ _ _ _ _ :: _) _ _); refine kRn2 _ g rfl rfl rfl ?_; go_frame)
      | ((with_reducible change wpList _ _ _ (Oper.mk (some 19) _ _ _ _ _ :: _) _ _); refine kLoad1 _ _ _ g 33 _ bv _ rfl rfl rfl hX1.row Tryz.underlying41 rfl h33 ?_; go_frame)
      | (go_at_call 26; refine (bContains_any _ (isVals_own hX1.br) (by have := hX1.wl; simp; omega)).mono ?_; rintro e w2 ⟨rfl, rfl⟩; rw [hg2]; go_frame))
    have hN : vs.length = N := hX1.len.trans hNe
    have h32 := row_32 hX1.hl sv bv m
    have hv1 := hv.keep hF1.kb
    have hle1 := Rn.le ⟨_, _, _, hX1⟩
    refine region_mixD [(0, true), (1, true), (2, true), (3, true), (4, true), (5, true), (6, false), (7, true)] (fun w => Row w g 43 (rowR hs sv bv m) ∧ IsVals w sv vs) (by kernel_rfl) (by kernel_rfl) rfl ?_
    intro w2 hBd hsd
    have hX2 := hX1.below hBd
    have hv2 := hv1.keep (kb_below hBd)
    have hF2 := hF1.trans (fr_below hBd hle1)
    clear hsd hBd hX1 hv1 hF1
    simp only [List.map_cons, List.map_nil]
    dsimp only [List.filterMap, List.getElem?_cons_zero, List.getElem?_cons_succ]
    have hS := (⟨hX2.row, isVals_own hX2.st⟩ : Row w2 g 43 (rowR hs sv bv m) ∧ IsVals w2 sv vs)
    refine dY _ hS (yMove _ (.pointer (some ⟨g, 0, none⟩)) rfl rfl rfl) ?_; go_frame
    refine dY _ hS (yNil _ ⟨g, 0, none⟩ rfl rfl rfl) ?_; go_frame
    refine dY _ hS (yRn1 _ g rfl rfl rfl) ?_; go_frame
    refine dY _ hS (yLoad1 _ _ _ g 32 _ sv _ rfl rfl rfl (fun _ h => h.1) Tryz.underlying40 rfl h32) ?_; go_frame
    refine dY _ hS (yLen _ _ _ sv vs N rfl rfl rfl (fun _ h => h.2) hN Tryz.underlying40) ?_; go_frame
    refine dY _ hS (yMove _ (VB c) rfl rfl rfl) ?_; go_frame
    refine dLoud ?_
    refine kCall1 28 _ _ _ rfl rfl (by kernel_rfl) rfl ?_
    refine (scNeeds_any c _).mono ?_
    rintro e w3 ⟨rfl, rfl⟩
    refine ⟨_, rfl, mixOn ⟨(fun w => Row w g 43 (rowR hs sv bv m) ∧ IsVals w sv vs), (fun _ h => h), hS, ?_⟩⟩
    go_frame
    refine dY _ hS (yLssI _ _ _ _ .i64 (N : Int) (needN c : Int) false rfl rfl rfl rfl hlt) ?_; go_frame
    refine dDone ?_
    have hdo := scDo_any hE _ ⟨_, _, _, hX2⟩ hv2 hd520 hsl hwl hg (by rw [hNe]; omega) hp
    clear hX2 hv2
    by_cases hez : e = 0
    · subst hez
      have hdo2 : Calls Tryz.prog 29 #[.pointer (some ⟨g, 0, none⟩), VB c, v] w3 fun en w' => en = .returned (.int .i64 0) ∧ (∃ sv bv vs, RnX base hs Gs w' g t m sv bv vs) ∧ Fr base w3 w' := hdo.mono (by
        rintro e w1 ⟨rfl, hR, hF⟩; exact ⟨rfl, hR rfl, hF⟩)
      clear hdo
      obtain ⟨M, hM⟩ : ∃ M, t.stack.length = M := ⟨_, rfl⟩
      have hres : (if isBr c then 0 else if (0 : Nat) ≠ 0 then 0 else if 100 < t.stack.length then 73 else 0) = if 100 < M then 73 else 0 := by
        cases hb : isBr c with
        | true => have := doG_stack hb hp; rw [if_pos rfl, if_neg (by omega)]
        | false => simp [hM]
      have hff := Hf.out.symm.trans hres
      clear hp hres Hf
      by_cases h100 : 100 < M
      · rw [if_pos h100] at hff
        subst hff
        have hgt : decide ((M : Int) > 100) = true := by simp; omega
        go_wp2_with (first
          | (go_at_call 29; refine (hdo2).mono ?_; rintro e w4 ⟨rfl, ⟨sv4, bv4, vs4, hX4⟩, hF4⟩; clear hdo2; have h32b := row_32 hX4.hl sv4 bv4 m; have hM4 : vs4.length = M := hX4.len.trans hM; go_frame)
          | ((with_reducible change wpList _ _ _ (Oper.mk (some 40) _ _ _ _ _ :: _) _ _); refine kNilCheck _ ⟨g, 0, none⟩ rfl rfl rfl ?_; go_frame)
          | ((with_reducible change wpList _ _ _ (Oper.mk (some 41) _ _ _ _ _ :: _) _ _); refine kRn1 _ g rfl rfl rfl ?_; go_frame)
          | ((with_reducible change wpList _ _ _ (Oper.mk (some 42) _ _ _ _ _ :: _) _ _); refine kLoad1 _ _ _ g 32 _ sv4 _ rfl rfl rfl hX4.row Tryz.underlying40 rfl h32b ?_; go_frame)
          | ((with_reducible change wpList _ _ _ (Oper.mk (some 43) _ _ _ _ _ :: _) _ _); refine kLenN _ _ _ sv4 _ M rfl rfl rfl (isVals_own hX4.st) hM4 Tryz.underlying40 ?_; go_frame)
          | ((with_reducible change wpList _ _ _ (Oper.mk (some 44) _ _ _ _ _ :: _) _ _); refine kGtrI _ _ _ _ .i64 (M : Int) 100 true rfl rfl rfl rfl hgt ?_; go_frame))
        go_ret
        exact ⟨rfl, fun h => (by cases h), hF2.trans hF4⟩
      · rw [if_neg h100] at hff
        subst hff
        have hgt : decide ((M : Int) > 100) = false := by simp; omega
        go_wp2_with (first
          | (go_at_call 29; refine (hdo2).mono ?_; rintro e w4 ⟨rfl, ⟨sv4, bv4, vs4, hX4⟩, hF4⟩; clear hdo2; have h32b := row_32 hX4.hl sv4 bv4 m; have hM4 : vs4.length = M := hX4.len.trans hM; go_frame)
          | ((with_reducible change wpList _ _ _ (Oper.mk (some 40) _ _ _ _ _ :: _) _ _); refine kNilCheck _ ⟨g, 0, none⟩ rfl rfl rfl ?_; go_frame)
          | ((with_reducible change wpList _ _ _ (Oper.mk (some 41) _ _ _ _ _ :: _) _ _); refine kRn1 _ g rfl rfl rfl ?_; go_frame)
          | ((with_reducible change wpList _ _ _ (Oper.mk (some 42) _ _ _ _ _ :: _) _ _); refine kLoad1 _ _ _ g 32 _ sv4 _ rfl rfl rfl hX4.row Tryz.underlying40 rfl h32b ?_; go_frame)
          | ((with_reducible change wpList _ _ _ (Oper.mk (some 43) _ _ _ _ _ :: _) _ _); refine kLenN _ _ _ sv4 _ M rfl rfl rfl (isVals_own hX4.st) hM4 Tryz.underlying40 ?_; go_frame)
          | ((with_reducible change wpList _ _ _ (Oper.mk (some 44) _ _ _ _ _ :: _) _ _); refine kGtrI _ _ _ _ .i64 (M : Int) 100 false rfl rfl rfl rfl hgt ?_; go_frame))
        go_ret
        exact ⟨rfl, fun _ => ⟨_, _, _, hX4⟩, hF2.trans hF4⟩
    · have hres : (if isBr c then e else if e ≠ 0 then e else if 100 < t.stack.length then 73 else 0) = e := by
        cases isBr c <;> simp [hez]
      have hff := Hf.out.symm.trans hres
      have Hff := Lib.hid hff
      clear hres Hf hff
      have hne : (!decide ((e : Int) = 0)) = true := by simp; omega
      clear hp
      go_wp2_with (first
        | (go_at_call 29; refine (hdo).mono ?_; rintro e w4 ⟨rfl, hR4, hF4⟩; clear hdo; go_frame)
        | ((with_reducible change wpList _ _ _ (Oper.mk (some 37) _ _ _ _ _ :: _) _ _); refine kNeqI _ _ _ _ .i64 (e : Int) 0 true rfl rfl rfl rfl hne ?_; go_frame))
      go_ret
      have hff := Hff.out
      subst hff
      exact ⟨rfl, fun h => absurd h hez, hF2.trans hF4⟩
set_option maxRecDepth 100000 in
set_option maxHeartbeats 8000000 in
theorem scPushAlone_any {base : Nat} {hs : List Value} {Gs : List (Nat × Obj)} {g : Nat} {n : Nat} {s : SSt} {c : UInt8} {v : Value} {d : List UInt8} {E : Env} {q : SSt × Nat} (hE : EnvOk E hs Gs) (w : World) (h : Rn base hs Gs w g s n) (hv : BV w v d) (hn : n ≤ 100) (hdl : d.length ≤ 1000000) (hsl : s.stack.length ≤ 100) (hwl : s.ways.length < 5000) (hq : wordS E true n c d s = some q) : Calls Tryz.prog 12 #[.pointer (some ⟨g, 0, none⟩), VB c, v] w (WordPost base hs Gs g (if pushesB c then n else n + 1) w q) := by
  cases hp : pushesB c with
  | false =>
    have e : wordE true n c d = 71 := by unfold wordE; rw [hp]; rfl
    unfold wordS at hq
    rw [e, if_pos (by decide), Option.some.injEq] at hq
    subst hq
    go_enter Tryz.func12, Tryz.ntmps12
    go_wp2_with (first
      | (go_at_call 24; refine (scIsPush_any _ _).mono ?_; rintro e w1 ⟨rfl, rfl⟩; rw [hp]; go_frame))
    go_ret
    exact ⟨rfl, fun h => (by cases h), Fr.refl _ _⟩
  | true =>
    have e : wordE true n c d = wordE false n c d := by unfold wordE; rw [hp]; rfl
    have hq2 : wordS E false n c d s = some q := by unfold wordS at hq ⊢; rw [e] at hq; exact hq
    have hw := scWord_any hE w h hv hn hdl hsl hwl hq2
    rw [hp, if_pos rfl] at hw
    show Calls _ _ _ _ (WordPost base hs Gs g n w q)
    clear hq hq2 e
    go_enter Tryz.func12, Tryz.ntmps12
    go_wp2_with (first
      | (go_at_call 24; refine (scIsPush_any _ _).mono ?_; rintro e w1 ⟨rfl, rfl⟩; rw [hp]; go_frame)
      | (go_at_call 13; refine (hw).mono ?_; rintro e w2 ⟨rfl, hR2, hF2⟩; clear hw; go_frame))
    go_ret
    exact ⟨rfl, hR2, hF2⟩
end Go.Proofs.YtnaclalbeocpkaaGreatDoor
