/-
  Layer 7: the walks of script, Run and Opens.
-/
import Derived.Test.YtnaclalbeocpkaaGreatDoorScRun
namespace Go.Proofs.YtnaclalbeocpkaaGreatDoor
open Go Go.RowKit

def sliceLenS : Value → Nat
  | .slice _ n _ => n
  | _ => 0
theorem vals_lenS {w : World} {v : Value} {l : List Value} (h : IsVals w v l) : sliceLenS v = l.length := by obtain ⟨ao, c, rfl, _⟩ := h; rfl
theorem all_step {E : Env} {p : Bool} {k n : Nat} {b : List UInt8} {s : SSt} {c : UInt8} {d : List UInt8} {u : Nat} (hb : b ≠ []) (hx : nextS b = some (c, d, u)) :
    allF E p (k + 1) n b s = match wordS E p n c d s with
      | none => none
      | some (t, e) => if e ≠ 0 then some (t, e) else allF E p k (if pushesB c then n else n + 1) (b.drop u) t := by
  show (if b = [] then _ else _) = _
  rw [if_neg hb, hx]
  dsimp only
  unfold wordS
  by_cases h : wordE p n c d ≠ 0
  · rw [if_pos h, if_pos h]; dsimp only; rw [if_pos h]
  · rw [if_neg h, if_neg h]; rfl
theorem next_len {b : List UInt8} {c : UInt8} {d : List UInt8} {u : Nat} (h : nextS b = some (c, d, u)) : d.length ≤ b.length := by
  rw [next_split] at h
  obtain ⟨p, hp, e⟩ := Option.map_eq_some_iff.1 h
  obtain ⟨h1, h2⟩ := p
  have hs := split_head hp
  simp only [Prod.mk.injEq] at e
  rw [← e.2.1]
  split
  · simp; omega
  · exact hs.2.2
theorem wordS_lt {E : Env} {p : Bool} {n : Nat} {c : UInt8} {d : List UInt8} {s t : SSt} (h : wordS E p n c d s = some (t, 0)) (hn : n ≤ 100) : (if pushesB c then n else n + 1) ≤ 100 := by
  unfold wordS at h
  split at h
  · rename_i hne; simp only [Option.some.injEq, Prod.mk.injEq] at h; exact absurd h.2 hne
  · rename_i hne
    have hz : wordE p n c d = 0 := by omega
    unfold wordE at hz
    cases hp : pushesB c with
    | true => simpa using hn
    | false =>
      rw [hp] at hz
      simp only [Bool.false_eq_true, if_false]
      split at hz
      · cases hz
      · split at hz
        · cases hz
        · split at hz
          · cases hz
          · rename_i h3; simp at h3; omega
theorem branch_grow (s : SSt) (c : UInt8) : (branchS s c).1.ways.length ≤ s.ways.length + 1 ∧ (branchS s c).1.stack.length ≤ s.stack.length := by
  unfold branchS
  split
  · split
    · split
      · exact ⟨Nat.le_succ _, Nat.le_refl _⟩
      · rename_i x r hx; rw [hx]; exact ⟨by simp, by simp⟩
    · exact ⟨by simp, Nat.le_refl _⟩
  · split
    · exact ⟨Nat.le_succ _, Nat.le_refl _⟩
    · rename_i w ws hw
      rw [hw]
      split
      · exact ⟨by simp, Nat.le_refl _⟩
      · exact ⟨by simp; omega, Nat.le_refl _⟩
theorem wordS_grow {E : Env} {p : Bool} {n : Nat} {c : UInt8} {d : List UInt8} {s t : SSt} (h : wordS E p n c d s = some (t, 0)) (hs : s.stack.length ≤ 100) : t.ways.length ≤ s.ways.length + 1 ∧ t.stack.length ≤ 100 := by
  unfold wordS at h
  split at h
  · rename_i hne; simp only [Option.some.injEq, Prod.mk.injEq] at h; exact absurd h.2 hne
  · unfold doS at h
    split at h
    · simp only [Option.some.injEq] at h
      have := branch_grow s c
      rw [h] at this
      exact ⟨this.1, Nat.le_trans this.2 hs⟩
    · split at h
      · obtain ⟨q, hq, e⟩ := Option.map_eq_some_iff.1 h
        simp only [Prod.mk.injEq] at e
        rw [← e.1]
        refine ⟨Nat.le_succ _, ?_⟩
        have h2 := e.2
        split at h2
        · rename_i hne; exact absurd h2 hne
        · split at h2
          · cases h2
          · show q.1.length ≤ 100; omega
      · simp only [Option.some.injEq, Prod.mk.injEq] at h
        rw [← h.1]; exact ⟨Nat.le_succ _, hs⟩
/-- the answer of a script that was done -/
def ScriptPost (base : Nat) (hs : List Value) (Gs : List (Nat × Obj)) (g : Nat) (w : World) (q : SSt × Nat) (en : Ending) (w' : World) : Prop := en = .returned (.int .i64 (q.2 : Int)) ∧ (q.2 = 0 → q.1.stack.length ≤ 100 ∧ q.1.ways = [] ∧ ∃ m, Rn base hs Gs w' g q.1 m) ∧ Fr base w w'
set_option maxRecDepth 100000 in
set_option maxHeartbeats 8000000 in
theorem scScript_true {base : Nat} {hs : List Value} {Gs : List (Nat × Obj)} {g n0 : Nat} {s : SSt} {b : List UInt8} {v : Value} {E : Env} {q : SSt × Nat} (hE : EnvOk E hs Gs) (w0 w : World) (hb0 : w0.heap.size = base) (hv : IsVals w0 v (b.map VB)) (hB0 : Below base w0 w) (h : Rn base hs Gs w g s n0) (hsl : s.stack.length ≤ 100) (hw0 : s.ways = []) (hl : b.length ≤ 2000) (hq : allS E true b s = some q) : Calls Tryz.prog 11 #[.pointer (some ⟨g, 0, none⟩), v, .func (.func 12) #[.pointer (some ⟨g, 0, none⟩)] #[]] w (ScriptPost base hs Gs g w q) := by
  subst hb0
  obtain ⟨sv0, bv0, vs0, hX0⟩ := h
  go_enter Tryz.func11, Tryz.ntmps11
  go_wp2_with (first
    | ((with_reducible change wpList _ _ _ (Oper.mk (some 13) _ _ _ _ _ :: _) _ _); refine kNilCheck _ ⟨g, 0, none⟩ rfl rfl rfl ?_; go_frame)
    | ((with_reducible change wpList _ _ _ (Oper.mk (some 14) _ _ _ _ _ :: _) _ _); refine kRn3 _ g rfl rfl rfl ?_; go_frame)
    | ((with_reducible change wpList _ _ _ (Oper.mk none _ _ _ _ _ :: _) _ _); refine kStore1 _ _ _ _ g 34 _ (.int .i64 ((0 : Nat) : Int)) rfl rfl rfl rfl hX0.row info_intS (by rw [row_size hX0.hl]; decide) rfl ?_; intro w1 hR1 hW1; rw [set_34 hX0.hl] at hR1; obtain ⟨hRn, hFr⟩ := rn_count hX0 hR1 hW1; clear hX0 hR1 hW1; go_frame))
  go_loopw [1] (fun x wr => ∃ (k : Nat) (b' : List UInt8) (s' : SSt) (n' : Nat), IsVals w0 x (b'.map VB) ∧ b'.length ≤ k ∧ Rn w0.heap.size hs Gs wr g s' n' ∧ n' ≤ 100 ∧ s'.stack.length ≤ 100 ∧ s'.ways.length + b'.length ≤ 2000 ∧ allF E true k n' b' s' = some q ∧ Fr w0.heap.size w wr) (fun x _ => sliceLenS x)
  case atStart => exact ⟨b.length, b, s, 0, hv, Nat.le_refl _, hRn, by omega, hsl, by rw [hw0]; simpa using hl, hq, hFr⟩
  case round =>
    clear hRn hFr hq hv
    obtain ⟨k, b', s', n', hV, hk, hRn, hn, hs1, hwb, hq, hF⟩ := hrel
    have hBr := hB0.trans hF.below
    have hVr := hV.below hBr
    obtain ⟨L, hL⟩ : ∃ L, b'.length = L := ⟨_, rfl⟩
    by_cases hbe : b' = []
    · subst hbe
      have hL0 : L = 0 := hL.symm
      have hd : decide ((L : Int) > 0) = false := by simp; omega
      have hqe : q = endS s' := by
        have := (all_end E true k n' s').symm.trans hq
        simpa using this.symm
      obtain ⟨sv, bv, vs, hX⟩ := hRn
      have h33 := row_33 hX.hl sv bv n'
      obtain ⟨M, hM⟩ : ∃ M, (s'.ways.reverse.map Value.bool).length = M := ⟨_, rfl⟩
      have hMw : M = s'.ways.length := by rw [← hM]; simp
      clear hL0 hq
      by_cases hw : s'.ways = []
      · have hg0 : decide ((M : Int) > 0) = false := by rw [hMw, hw]; rfl
        have e : endS s' = (s', 0) := by unfold endS; rw [if_pos hw]
        rw [e] at hqe
        subst hqe
        clear hMw e
        go_wp2_with (first
          | ((with_reducible change wpList _ _ _ (Oper.mk (some 16) _ _ _ _ _ :: _) _ _); refine kLenN _ _ _ _ _ L rfl rfl rfl hVr (by rw [List.length_map, hL]) Tryz.underlying26 ?_; go_frame)
          | ((with_reducible change wpList _ _ _ (Oper.mk (some 17) _ _ _ _ _ :: _) _ _); refine kGtrI _ _ _ _ .i64 (L : Int) 0 false rfl rfl rfl rfl hd ?_; go_frame)
          | ((with_reducible change wpList _ _ _ (Oper.mk (some 39) _ _ _ _ _ :: _) _ _); refine kNilCheck _ ⟨g, 0, none⟩ rfl rfl rfl ?_; go_frame)
          | ((with_reducible change wpList _ _ _ (Oper.mk (some 40) _ _ _ _ _ :: _) _ _); refine kRn2 _ g rfl rfl rfl ?_; go_frame)
          | ((with_reducible change wpList _ _ _ (Oper.mk (some 41) _ _ _ _ _ :: _) _ _); refine kLoad1 _ _ _ g 33 _ bv _ rfl rfl rfl hX.row Tryz.underlying41 rfl h33 ?_; go_frame)
          | ((with_reducible change wpList _ _ _ (Oper.mk (some 42) _ _ _ _ _ :: _) _ _); refine kLenN _ _ _ bv _ M rfl rfl rfl (isVals_own hX.br) hM Tryz.underlying41 ?_; go_frame)
          | ((with_reducible change wpList _ _ _ (Oper.mk (some 43) _ _ _ _ _ :: _) _ _); refine kGtrI _ _ _ _ .i64 (M : Int) 0 false rfl rfl rfl rfl hg0 ?_; go_frame))
        go_ret
        exact ⟨rfl, fun _ => ⟨hs1, hw, n', _, _, _, hX⟩, hF⟩
      · have hg0 : decide ((M : Int) > 0) = true := by
          have : 0 < s'.ways.length := List.length_pos_iff.2 hw
          simp; omega
        have e : endS s' = (s', 71) := by unfold endS; rw [if_neg hw]
        rw [e] at hqe
        subst hqe
        clear hMw e
        go_wp2_with (first
          | ((with_reducible change wpList _ _ _ (Oper.mk (some 16) _ _ _ _ _ :: _) _ _); refine kLenN _ _ _ _ _ L rfl rfl rfl hVr (by rw [List.length_map, hL]) Tryz.underlying26 ?_; go_frame)
          | ((with_reducible change wpList _ _ _ (Oper.mk (some 17) _ _ _ _ _ :: _) _ _); refine kGtrI _ _ _ _ .i64 (L : Int) 0 false rfl rfl rfl rfl hd ?_; go_frame)
          | ((with_reducible change wpList _ _ _ (Oper.mk (some 39) _ _ _ _ _ :: _) _ _); refine kNilCheck _ ⟨g, 0, none⟩ rfl rfl rfl ?_; go_frame)
          | ((with_reducible change wpList _ _ _ (Oper.mk (some 40) _ _ _ _ _ :: _) _ _); refine kRn2 _ g rfl rfl rfl ?_; go_frame)
          | ((with_reducible change wpList _ _ _ (Oper.mk (some 41) _ _ _ _ _ :: _) _ _); refine kLoad1 _ _ _ g 33 _ bv _ rfl rfl rfl hX.row Tryz.underlying41 rfl h33 ?_; go_frame)
          | ((with_reducible change wpList _ _ _ (Oper.mk (some 42) _ _ _ _ _ :: _) _ _); refine kLenN _ _ _ bv _ M rfl rfl rfl (isVals_own hX.br) hM Tryz.underlying41 ?_; go_frame)
          | ((with_reducible change wpList _ _ _ (Oper.mk (some 43) _ _ _ _ _ :: _) _ _); refine kGtrI _ _ _ _ .i64 (M : Int) 0 true rfl rfl rfl rfl hg0 ?_; go_frame))
        go_ret
        exact ⟨rfl, fun h => (by cases h), hF⟩
    have hLp : 0 < L := by rw [← hL]; exact List.length_pos_iff.2 hbe
    have hd : decide ((L : Int) > 0) = true := by simp; omega
    obtain ⟨k', rfl⟩ : ∃ k', k = k' + 1 := ⟨k - 1, by omega⟩
    have hnx := scNext_any _ hVr (by omega)
    have hle := hRn.le
    cases hx : nextS b' with
    | none =>
      rw [hx] at hnx
      have hqe : q = (s', 71) := by
        have e : allF E true (k' + 1) n' b' s' = some (s', 71) := by show (if b' = [] then _ else _) = _; rw [if_neg hbe, hx]
        rw [e] at hq; simpa using hq.symm
      subst hqe
      clear hq hx
      go_wp2_with (first
        | ((with_reducible change wpList _ _ _ (Oper.mk (some 16) _ _ _ _ _ :: _) _ _); refine kLenN _ _ _ _ _ L rfl rfl rfl hVr (by rw [List.length_map, hL]) Tryz.underlying26 ?_; go_frame)
        | ((with_reducible change wpList _ _ _ (Oper.mk (some 17) _ _ _ _ _ :: _) _ _); refine kGtrI _ _ _ _ .i64 (L : Int) 0 true rfl rfl rfl rfl hd ?_; go_frame)
        | (go_at_call 23; refine (hnx).mono ?_; rintro e w2 ⟨rfl, hB2⟩; clear hnx; go_frame))
      go_ret
      exact ⟨rfl, fun h => (by cases h), hF.trans (fr_below hB2 hle)⟩
    | some r =>
    obtain ⟨c, d, u⟩ := r
    rw [hx] at hnx
    rw [all_step hbe hx] at hq
    obtain ⟨hu1, hu2⟩ := next_used hx
    have hdl := next_len hx
    obtain ⟨n2, hn2⟩ : ∃ n2, (if pushesB c then n' else n' + 1) = n2 := ⟨_, rfl⟩
    rw [hn2] at hq
    cases hws : wordS E true n' c d s' with
    | none => rw [hws] at hq; cases hq
    | some te =>
    obtain ⟨t, e⟩ := te
    rw [hws] at hq
    have hdo : ∀ w v, Rn w0.heap.size hs Gs w g s' n' → BV w v d → Calls Tryz.prog 12 #[.pointer (some ⟨g, 0, none⟩), VB c, v] w (WordPost w0.heap.size hs Gs g n2 w (t, e)) := fun w v h1 h2 => hn2 ▸ scPushAlone_any hE w h1 h2 hn (by omega) hs1 (by omega) hws
    by_cases hez : e = 0
    · subst hez
      have hq2 : allF E true k' n2 (b'.drop u) t = some q := by simpa using hq
      have hn100 := wordS_lt hws hn
      rw [hn2] at hn100
      obtain ⟨hwg, hsg⟩ := wordS_grow hws hs1
      have hdo2 : ∀ w v, Rn w0.heap.size hs Gs w g s' n' → BV w v d → Calls Tryz.prog 12 #[.pointer (some ⟨g, 0, none⟩), VB c, v] w fun en w' => en = .returned (.int .i64 0) ∧ Rn w0.heap.size hs Gs w' g t n2 ∧ Fr w0.heap.size w w' := fun w v h1 h2 => (hdo w v h1 h2).mono (by
        rintro e w1 ⟨rfl, hR, hF⟩; exact ⟨rfl, hR rfl, hF⟩)
      clear hdo hq hx hws hn2
      go_wp2_with (first
        | ((with_reducible change wpList _ _ _ (Oper.mk (some 16) _ _ _ _ _ :: _) _ _); refine kLenN _ _ _ _ _ L rfl rfl rfl hVr (by rw [List.length_map, hL]) Tryz.underlying26 ?_; go_frame)
        | ((with_reducible change wpList _ _ _ (Oper.mk (some 17) _ _ _ _ _ :: _) _ _); refine kGtrI _ _ _ _ .i64 (L : Int) 0 true rfl rfl rfl rfl hd ?_; go_frame)
        | (go_at_call 23; refine (hnx).mono ?_; rintro e w2 ⟨v2, rfl, hO2, hB2⟩; clear hnx; have hR2 := hRn.below hB2; have hF2 := hF.trans (fr_below hB2 hle); clear hRn hF hB2 hVr; go_frame)
        | (go_at_call 12; refine (hdo2 _ _ hR2 hO2.bv).mono ?_; rintro e w3 ⟨rfl, hR3, hF3⟩; clear hdo2; have hF4 := hF2.trans hF3; have hV4 := hV.below (hB0.trans hF4.below); clear hR2 hO2 hF2 hF3; go_frame)
        | ((with_reducible change wpList _ _ _ (Oper.mk (some 37) _ _ _ _ _ :: _) _ _); refine kSliceFromB _ _ _ b' u hV4 hu2 rfl rfl rfl rfl ?_; intro hV5; clear hV5; go_frame))
      go_roundw
      case rel =>
        have hV5 := isVals_from (n := u) hV (by simpa using hu2)
        rw [← List.map_drop] at hV5
        exact ⟨k', b'.drop u, t, n2, hV5, by rw [List.length_drop]; omega, hR3, hn100, hsg, by rw [List.length_drop]; omega, hq2, hF4⟩
      case measure =>
        have hV5 := isVals_from (n := u) hV (by simpa using hu2)
        rw [vals_lenS hV5, vals_lenS hV]
        simp; omega
    · have hqe : q = (t, e) := by dsimp only at hq; rw [if_pos hez] at hq; simpa using hq.symm
      subst hqe
      have hne : (!decide ((e : Int) = 0)) = true := by simp; omega
      clear hq hx hws hn2
      go_wp2_with (first
        | ((with_reducible change wpList _ _ _ (Oper.mk (some 16) _ _ _ _ _ :: _) _ _); refine kLenN _ _ _ _ _ L rfl rfl rfl hVr (by rw [List.length_map, hL]) Tryz.underlying26 ?_; go_frame)
        | ((with_reducible change wpList _ _ _ (Oper.mk (some 17) _ _ _ _ _ :: _) _ _); refine kGtrI _ _ _ _ .i64 (L : Int) 0 true rfl rfl rfl rfl hd ?_; go_frame)
        | (go_at_call 23; refine (hnx).mono ?_; rintro e w2 ⟨v2, rfl, hO2, hB2⟩; clear hnx; have hR2 := hRn.below hB2; have hF2 := hF.trans (fr_below hB2 hle); clear hRn hF hB2 hVr; go_frame)
        | (go_at_call 12; refine (hdo _ _ hR2 hO2.bv).mono ?_; rintro e w3 ⟨rfl, hR3, hF3⟩; clear hdo; go_frame)
        | ((with_reducible change wpList _ _ _ (Oper.mk (some 33) _ _ _ _ _ :: _) _ _); refine kNeqI _ _ _ _ .i64 (e : Int) 0 true rfl rfl rfl rfl hne ?_; go_frame))
      go_ret
      exact ⟨rfl, fun h => absurd h hez, hF2.trans hF3⟩
set_option maxRecDepth 100000 in
set_option maxHeartbeats 8000000 in
theorem scScript_false {base : Nat} {hs : List Value} {Gs : List (Nat × Obj)} {g n0 : Nat} {s : SSt} {b : List UInt8} {v : Value} {E : Env} {q : SSt × Nat} (hE : EnvOk E hs Gs) (w0 w : World) (hb0 : w0.heap.size = base) (hv : IsVals w0 v (b.map VB)) (hB0 : Below base w0 w) (h : Rn base hs Gs w g s n0) (hsl : s.stack.length ≤ 100) (hw0 : s.ways = []) (hl : b.length ≤ 2000) (hq : allS E false b s = some q) : Calls Tryz.prog 11 #[.pointer (some ⟨g, 0, none⟩), v, .func (.func 13) #[.pointer (some ⟨g, 0, none⟩)] #[]] w (ScriptPost base hs Gs g w q) := by
  subst hb0
  obtain ⟨sv0, bv0, vs0, hX0⟩ := h
  go_enter Tryz.func11, Tryz.ntmps11
  go_wp2_with (first
    | ((with_reducible change wpList _ _ _ (Oper.mk (some 13) _ _ _ _ _ :: _) _ _); refine kNilCheck _ ⟨g, 0, none⟩ rfl rfl rfl ?_; go_frame)
    | ((with_reducible change wpList _ _ _ (Oper.mk (some 14) _ _ _ _ _ :: _) _ _); refine kRn3 _ g rfl rfl rfl ?_; go_frame)
    | ((with_reducible change wpList _ _ _ (Oper.mk none _ _ _ _ _ :: _) _ _); refine kStore1 _ _ _ _ g 34 _ (.int .i64 ((0 : Nat) : Int)) rfl rfl rfl rfl hX0.row info_intS (by rw [row_size hX0.hl]; decide) rfl ?_; intro w1 hR1 hW1; rw [set_34 hX0.hl] at hR1; obtain ⟨hRn, hFr⟩ := rn_count hX0 hR1 hW1; clear hX0 hR1 hW1; go_frame))
  go_loopw [1] (fun x wr => ∃ (k : Nat) (b' : List UInt8) (s' : SSt) (n' : Nat), IsVals w0 x (b'.map VB) ∧ b'.length ≤ k ∧ Rn w0.heap.size hs Gs wr g s' n' ∧ n' ≤ 100 ∧ s'.stack.length ≤ 100 ∧ s'.ways.length + b'.length ≤ 2000 ∧ allF E false k n' b' s' = some q ∧ Fr w0.heap.size w wr) (fun x _ => sliceLenS x)
  case atStart => exact ⟨b.length, b, s, 0, hv, Nat.le_refl _, hRn, by omega, hsl, by rw [hw0]; simpa using hl, hq, hFr⟩
  case round =>
    clear hRn hFr hq hv
    obtain ⟨k, b', s', n', hV, hk, hRn, hn, hs1, hwb, hq, hF⟩ := hrel
    have hBr := hB0.trans hF.below
    have hVr := hV.below hBr
    obtain ⟨L, hL⟩ : ∃ L, b'.length = L := ⟨_, rfl⟩
    by_cases hbe : b' = []
    · subst hbe
      have hL0 : L = 0 := hL.symm
      have hd : decide ((L : Int) > 0) = false := by simp; omega
      have hqe : q = endS s' := by
        have := (all_end E false k n' s').symm.trans hq
        simpa using this.symm
      obtain ⟨sv, bv, vs, hX⟩ := hRn
      have h33 := row_33 hX.hl sv bv n'
      obtain ⟨M, hM⟩ : ∃ M, (s'.ways.reverse.map Value.bool).length = M := ⟨_, rfl⟩
      have hMw : M = s'.ways.length := by rw [← hM]; simp
      clear hL0 hq
      by_cases hw : s'.ways = []
      · have hg0 : decide ((M : Int) > 0) = false := by rw [hMw, hw]; rfl
        have e : endS s' = (s', 0) := by unfold endS; rw [if_pos hw]
        rw [e] at hqe
        subst hqe
        clear hMw e
        go_wp2_with (first
          | ((with_reducible change wpList _ _ _ (Oper.mk (some 16) _ _ _ _ _ :: _) _ _); refine kLenN _ _ _ _ _ L rfl rfl rfl hVr (by rw [List.length_map, hL]) Tryz.underlying26 ?_; go_frame)
          | ((with_reducible change wpList _ _ _ (Oper.mk (some 17) _ _ _ _ _ :: _) _ _); refine kGtrI _ _ _ _ .i64 (L : Int) 0 false rfl rfl rfl rfl hd ?_; go_frame)
          | ((with_reducible change wpList _ _ _ (Oper.mk (some 39) _ _ _ _ _ :: _) _ _); refine kNilCheck _ ⟨g, 0, none⟩ rfl rfl rfl ?_; go_frame)
          | ((with_reducible change wpList _ _ _ (Oper.mk (some 40) _ _ _ _ _ :: _) _ _); refine kRn2 _ g rfl rfl rfl ?_; go_frame)
          | ((with_reducible change wpList _ _ _ (Oper.mk (some 41) _ _ _ _ _ :: _) _ _); refine kLoad1 _ _ _ g 33 _ bv _ rfl rfl rfl hX.row Tryz.underlying41 rfl h33 ?_; go_frame)
          | ((with_reducible change wpList _ _ _ (Oper.mk (some 42) _ _ _ _ _ :: _) _ _); refine kLenN _ _ _ bv _ M rfl rfl rfl (isVals_own hX.br) hM Tryz.underlying41 ?_; go_frame)
          | ((with_reducible change wpList _ _ _ (Oper.mk (some 43) _ _ _ _ _ :: _) _ _); refine kGtrI _ _ _ _ .i64 (M : Int) 0 false rfl rfl rfl rfl hg0 ?_; go_frame))
        go_ret
        exact ⟨rfl, fun _ => ⟨hs1, hw, n', _, _, _, hX⟩, hF⟩
      · have hg0 : decide ((M : Int) > 0) = true := by
          have : 0 < s'.ways.length := List.length_pos_iff.2 hw
          simp; omega
        have e : endS s' = (s', 71) := by unfold endS; rw [if_neg hw]
        rw [e] at hqe
        subst hqe
        clear hMw e
        go_wp2_with (first
          | ((with_reducible change wpList _ _ _ (Oper.mk (some 16) _ _ _ _ _ :: _) _ _); refine kLenN _ _ _ _ _ L rfl rfl rfl hVr (by rw [List.length_map, hL]) Tryz.underlying26 ?_; go_frame)
          | ((with_reducible change wpList _ _ _ (Oper.mk (some 17) _ _ _ _ _ :: _) _ _); refine kGtrI _ _ _ _ .i64 (L : Int) 0 false rfl rfl rfl rfl hd ?_; go_frame)
          | ((with_reducible change wpList _ _ _ (Oper.mk (some 39) _ _ _ _ _ :: _) _ _); refine kNilCheck _ ⟨g, 0, none⟩ rfl rfl rfl ?_; go_frame)
          | ((with_reducible change wpList _ _ _ (Oper.mk (some 40) _ _ _ _ _ :: _) _ _); refine kRn2 _ g rfl rfl rfl ?_; go_frame)
          | ((with_reducible change wpList _ _ _ (Oper.mk (some 41) _ _ _ _ _ :: _) _ _); refine kLoad1 _ _ _ g 33 _ bv _ rfl rfl rfl hX.row Tryz.underlying41 rfl h33 ?_; go_frame)
          | ((with_reducible change wpList _ _ _ (Oper.mk (some 42) _ _ _ _ _ :: _) _ _); refine kLenN _ _ _ bv _ M rfl rfl rfl (isVals_own hX.br) hM Tryz.underlying41 ?_; go_frame)
          | ((with_reducible change wpList _ _ _ (Oper.mk (some 43) _ _ _ _ _ :: _) _ _); refine kGtrI _ _ _ _ .i64 (M : Int) 0 true rfl rfl rfl rfl hg0 ?_; go_frame))
        go_ret
        exact ⟨rfl, fun h => (by cases h), hF⟩
    have hLp : 0 < L := by rw [← hL]; exact List.length_pos_iff.2 hbe
    have hd : decide ((L : Int) > 0) = true := by simp; omega
    obtain ⟨k', rfl⟩ : ∃ k', k = k' + 1 := ⟨k - 1, by omega⟩
    have hnx := scNext_any _ hVr (by omega)
    have hle := hRn.le
    cases hx : nextS b' with
    | none =>
      rw [hx] at hnx
      have hqe : q = (s', 71) := by
        have e : allF E false (k' + 1) n' b' s' = some (s', 71) := by show (if b' = [] then _ else _) = _; rw [if_neg hbe, hx]
        rw [e] at hq; simpa using hq.symm
      subst hqe
      clear hq hx
      go_wp2_with (first
        | ((with_reducible change wpList _ _ _ (Oper.mk (some 16) _ _ _ _ _ :: _) _ _); refine kLenN _ _ _ _ _ L rfl rfl rfl hVr (by rw [List.length_map, hL]) Tryz.underlying26 ?_; go_frame)
        | ((with_reducible change wpList _ _ _ (Oper.mk (some 17) _ _ _ _ _ :: _) _ _); refine kGtrI _ _ _ _ .i64 (L : Int) 0 true rfl rfl rfl rfl hd ?_; go_frame)
        | (go_at_call 23; refine (hnx).mono ?_; rintro e w2 ⟨rfl, hB2⟩; clear hnx; go_frame))
      go_ret
      exact ⟨rfl, fun h => (by cases h), hF.trans (fr_below hB2 hle)⟩
    | some r =>
    obtain ⟨c, d, u⟩ := r
    rw [hx] at hnx
    rw [all_step hbe hx] at hq
    obtain ⟨hu1, hu2⟩ := next_used hx
    have hdl := next_len hx
    obtain ⟨n2, hn2⟩ : ∃ n2, (if pushesB c then n' else n' + 1) = n2 := ⟨_, rfl⟩
    rw [hn2] at hq
    cases hws : wordS E false n' c d s' with
    | none => rw [hws] at hq; cases hq
    | some te =>
    obtain ⟨t, e⟩ := te
    rw [hws] at hq
    have hdo : ∀ w v, Rn w0.heap.size hs Gs w g s' n' → BV w v d → Calls Tryz.prog 13 #[.pointer (some ⟨g, 0, none⟩), VB c, v] w (WordPost w0.heap.size hs Gs g n2 w (t, e)) := fun w v h1 h2 => hn2 ▸ scWord_any hE w h1 h2 hn (by omega) hs1 (by omega) hws
    by_cases hez : e = 0
    · subst hez
      have hq2 : allF E false k' n2 (b'.drop u) t = some q := by simpa using hq
      have hn100 := wordS_lt hws hn
      rw [hn2] at hn100
      obtain ⟨hwg, hsg⟩ := wordS_grow hws hs1
      have hdo2 : ∀ w v, Rn w0.heap.size hs Gs w g s' n' → BV w v d → Calls Tryz.prog 13 #[.pointer (some ⟨g, 0, none⟩), VB c, v] w fun en w' => en = .returned (.int .i64 0) ∧ Rn w0.heap.size hs Gs w' g t n2 ∧ Fr w0.heap.size w w' := fun w v h1 h2 => (hdo w v h1 h2).mono (by
        rintro e w1 ⟨rfl, hR, hF⟩; exact ⟨rfl, hR rfl, hF⟩)
      clear hdo hq hx hws hn2
      go_wp2_with (first
        | ((with_reducible change wpList _ _ _ (Oper.mk (some 16) _ _ _ _ _ :: _) _ _); refine kLenN _ _ _ _ _ L rfl rfl rfl hVr (by rw [List.length_map, hL]) Tryz.underlying26 ?_; go_frame)
        | ((with_reducible change wpList _ _ _ (Oper.mk (some 17) _ _ _ _ _ :: _) _ _); refine kGtrI _ _ _ _ .i64 (L : Int) 0 true rfl rfl rfl rfl hd ?_; go_frame)
        | (go_at_call 23; refine (hnx).mono ?_; rintro e w2 ⟨v2, rfl, hO2, hB2⟩; clear hnx; have hR2 := hRn.below hB2; have hF2 := hF.trans (fr_below hB2 hle); clear hRn hF hB2 hVr; go_frame)
        | (go_at_call 13; refine (hdo2 _ _ hR2 hO2.bv).mono ?_; rintro e w3 ⟨rfl, hR3, hF3⟩; clear hdo2; have hF4 := hF2.trans hF3; have hV4 := hV.below (hB0.trans hF4.below); clear hR2 hO2 hF2 hF3; go_frame)
        | ((with_reducible change wpList _ _ _ (Oper.mk (some 37) _ _ _ _ _ :: _) _ _); refine kSliceFromB _ _ _ b' u hV4 hu2 rfl rfl rfl rfl ?_; intro hV5; clear hV5; go_frame))
      go_roundw
      case rel =>
        have hV5 := isVals_from (n := u) hV (by simpa using hu2)
        rw [← List.map_drop] at hV5
        exact ⟨k', b'.drop u, t, n2, hV5, by rw [List.length_drop]; omega, hR3, hn100, hsg, by rw [List.length_drop]; omega, hq2, hF4⟩
      case measure =>
        have hV5 := isVals_from (n := u) hV (by simpa using hu2)
        rw [vals_lenS hV5, vals_lenS hV]
        simp; omega
    · have hqe : q = (t, e) := by dsimp only at hq; rw [if_pos hez] at hq; simpa using hq.symm
      subst hqe
      have hne : (!decide ((e : Int) = 0)) = true := by simp; omega
      clear hq hx hws hn2
      go_wp2_with (first
        | ((with_reducible change wpList _ _ _ (Oper.mk (some 16) _ _ _ _ _ :: _) _ _); refine kLenN _ _ _ _ _ L rfl rfl rfl hVr (by rw [List.length_map, hL]) Tryz.underlying26 ?_; go_frame)
        | ((with_reducible change wpList _ _ _ (Oper.mk (some 17) _ _ _ _ _ :: _) _ _); refine kGtrI _ _ _ _ .i64 (L : Int) 0 true rfl rfl rfl rfl hd ?_; go_frame)
        | (go_at_call 23; refine (hnx).mono ?_; rintro e w2 ⟨v2, rfl, hO2, hB2⟩; clear hnx; have hR2 := hRn.below hB2; have hF2 := hF.trans (fr_below hB2 hle); clear hRn hF hB2 hVr; go_frame)
        | (go_at_call 13; refine (hdo _ _ hR2 hO2.bv).mono ?_; rintro e w3 ⟨rfl, hR3, hF3⟩; clear hdo; go_frame)
        | ((with_reducible change wpList _ _ _ (Oper.mk (some 33) _ _ _ _ _ :: _) _ _); refine kNeqI _ _ _ _ .i64 (e : Int) 0 true rfl rfl rfl rfl hne ?_; go_frame))
      go_ret
      exact ⟨rfl, fun h => absurd h hez, hF2.trans hF3⟩
theorem len_cons {α : Type} {n : Nat} {l : List α} (h : l.length = n + 1) : ∃ a t, l = a :: t ∧ t.length = n := by
  cases l with
  | nil => cases h
  | cons a t => exact ⟨a, t, rfl, by simpa using h⟩
theorem built_runner0 (a0 a1 a2 a3 a4 a5 a6 a7 a8 a9 a10 a11 a12 a13 a14 a15 a16 a17 a18 a19 a20 a21 a22 a23 a24 a25 a26 a27 a28 a29 a30 a31 : Value) : Tryz.prog.built 43 [(0, .agg #[a0, a1, a2, a3, a4, a5, a6, a7, a8, a9, a10, a11, a12, a13, a14, a15, a16, a17, a18, a19, a20, a21, a22, a23, a24, a25, a26, a27, a28, a29, a30, a31])] = some #[a0, a1, a2, a3, a4, a5, a6, a7, a8, a9, a10, a11, a12, a13, a14, a15, a16, a17, a18, a19, a20, a21, a22, a23, a24, a25, a26, a27, a28, a29, a30, a31, .slice none 0 0, .slice none 0 0, .int .i64 0] := by kernel_rfl
theorem built_runner {hs : List Value} (h : hs.length = 32) : Tryz.prog.built 43 [(0, .agg hs.toArray)] = some (rowR hs (.slice none 0 0) (.slice none 0 0) 0) := by
  obtain ⟨a0, t0, rfl, h0⟩ := len_cons h
  obtain ⟨a1, t1, rfl, h1⟩ := len_cons h0
  obtain ⟨a2, t2, rfl, h2⟩ := len_cons h1
  obtain ⟨a3, t3, rfl, h3⟩ := len_cons h2
  obtain ⟨a4, t4, rfl, h4⟩ := len_cons h3
  obtain ⟨a5, t5, rfl, h5⟩ := len_cons h4
  obtain ⟨a6, t6, rfl, h6⟩ := len_cons h5
  obtain ⟨a7, t7, rfl, h7⟩ := len_cons h6
  obtain ⟨a8, t8, rfl, h8⟩ := len_cons h7
  obtain ⟨a9, t9, rfl, h9⟩ := len_cons h8
  obtain ⟨a10, t10, rfl, h10⟩ := len_cons h9
  obtain ⟨a11, t11, rfl, h11⟩ := len_cons h10
  obtain ⟨a12, t12, rfl, h12⟩ := len_cons h11
  obtain ⟨a13, t13, rfl, h13⟩ := len_cons h12
  obtain ⟨a14, t14, rfl, h14⟩ := len_cons h13
  obtain ⟨a15, t15, rfl, h15⟩ := len_cons h14
  obtain ⟨a16, t16, rfl, h16⟩ := len_cons h15
  obtain ⟨a17, t17, rfl, h17⟩ := len_cons h16
  obtain ⟨a18, t18, rfl, h18⟩ := len_cons h17
  obtain ⟨a19, t19, rfl, h19⟩ := len_cons h18
  obtain ⟨a20, t20, rfl, h20⟩ := len_cons h19
  obtain ⟨a21, t21, rfl, h21⟩ := len_cons h20
  obtain ⟨a22, t22, rfl, h22⟩ := len_cons h21
  obtain ⟨a23, t23, rfl, h23⟩ := len_cons h22
  obtain ⟨a24, t24, rfl, h24⟩ := len_cons h23
  obtain ⟨a25, t25, rfl, h25⟩ := len_cons h24
  obtain ⟨a26, t26, rfl, h26⟩ := len_cons h25
  obtain ⟨a27, t27, rfl, h27⟩ := len_cons h26
  obtain ⟨a28, t28, rfl, h28⟩ := len_cons h27
  obtain ⟨a29, t29, rfl, h29⟩ := len_cons h28
  obtain ⟨a30, t30, rfl, h30⟩ := len_cons h29
  obtain ⟨a31, t31, rfl, h31⟩ := len_cons h30
  obtain rfl := List.length_eq_zero_iff.1 h31
  exact built_runner0 a0 a1 a2 a3 a4 a5 a6 a7 a8 a9 a10 a11 a12 a13 a14 a15 a16 a17 a18 a19 a20 a21 a22 a23 a24 a25 a26 a27 a28 a29 a30 a31
theorem info_HashR : (Tryz.prog.info? 33).map (·.size) = some 32 := by kernel_rfl
theorem info_RunnerR : (Tryz.prog.info? 43).map (·.size) = some 35 := by kernel_rfl
theorem zero_Runner : ((Tryz.prog.info? 43).bind (·.zero)).map Value.cells = some (rowR (List.replicate 32 (Value.int .u8 0)) (.slice none 0 0) (.slice none 0 0) 0) := by kernel_rfl
section
variable {ops : Array Oper} {Q : Exit → Act → World → Prop} {rest : List Oper} {o : Oper} {a : Act} {w : World}
theorem kMakeFunc (f : FuncId) (x : Operand) (v : Value) (ho : o.op = .makeFunc (.func f) #[x] #[]) (hg : Region.wanted o (yielded ops a.tmps) = true) (hx : a.eval x = v) (h : wpList Tryz.prog ops Q rest (a.put o.dst (.func (.func f) #[v] #[])) w) : wpList Tryz.prog ops Q (o :: rest) a w := by
  refine kPure _ hg ?_ h
  unfold execOp
  simp [ho, hx, Instr.makeFunc]
end
theorem row_one {hs : List Value} (h : ∀ u ∈ hs, u.oneCell' = true) : ∀ v ∈ rowR hs (.slice none 0 0) (.slice none 0 0) 0, v.oneCell' = true := by
  intro v hv
  unfold rowR at hv
  simp at hv
  rcases hv with hv | rfl | rfl
  · exact h v hv
  · rfl
  · rfl
theorem rn_new {hs : List Value} {Gs : List (Nat × Obj)} {w w' : World} {g : Nat} (hl : hs.length = 32) (hR : Row w' g 43 (rowR hs (.slice none 0 0) (.slice none 0 0) 0)) (hg : w.heap.size ≤ g) (hGs : ∀ k o, (k, o) ∈ Gs → k < w.heap.size ∧ w'.heap[k]? = some o) : Rn w.heap.size hs Gs w' g ⟨[], []⟩ 0 :=
  ⟨_, _, [], hR, hl, hg, World.ownsRow_nil _ _ _ _, World.ownsRow_nil _ _ _ _, rfl, fun j v l h => by simp at h, by decide, by decide, (fun l h => by simp at h), hGs⟩
theorem lastS_cons (x : List UInt8) (t : List (List UInt8)) (ws : List Bool) : lastS ⟨x :: t, ws⟩ = checkN (trueB x) := rfl
set_option maxRecDepth 100000 in
set_option maxHeartbeats 8000000 in
theorem scRun_any {hs : List Value} {Gs : List (Nat × Obj)} {u l : List UInt8} {v1 v2 : Value} {E : Env} {e : Nat} (hE : EnvOk E hs Gs) (hhl : hs.length = 32) (hone : ∀ x ∈ hs, x.oneCell' = true) (w : World) (hGs : ∀ k o, (k, o) ∈ Gs → w.heap[k]? = some o) (hv1 : IsVals w v1 (u.map VB)) (hv2 : IsVals w v2 (l.map VB)) (hr : runS E u l = some e) : Calls Tryz.prog 6 #[v1, v2, .agg hs.toArray] w fun en w' => en = .returned (.int .i64 (e : Int)) ∧ Below w.heap.size w w' := by
  obtain ⟨U, hU⟩ : ∃ U, u.length = U := ⟨_, rfl⟩
  obtain ⟨K, hK⟩ : ∃ K, l.length = K := ⟨_, rfl⟩
  have hGl : ∀ k o, (k, o) ∈ Gs → k < w.heap.size ∧ w.heap[k]? = some o := fun k o ho => ⟨(Array.getElem?_eq_some_iff.1 (hGs k o ho)).1, hGs k o ho⟩
  unfold runS at hr
  by_cases k1 : 2000 < U
  · rw [if_pos (.inl (by omega)), Option.some.injEq] at hr
    subst hr
    have h1 : decide ((U : Int) > 2000) = true := by simp; omega
    go_enter Tryz.func6, Tryz.ntmps6
    go_wp2_with (first
      | ((with_reducible change wpList _ _ _ (Oper.mk (some 5) _ _ _ _ _ :: _) _ _); refine kBox _ _ _ rfl rfl rfl ?_; intro w1 hR1 hz1 hB1; clear hz1; have hV1 := hv1.below hB1; have hV2 := hv2.below hB1; go_frame)
      | ((with_reducible change wpList _ _ _ (Oper.mk (some 11) _ _ _ _ _ :: _) _ _); refine kLenN _ _ _ v1 _ U rfl rfl rfl hV1 (by rw [List.length_map, hU]) Tryz.underlying26 ?_; go_frame)
      | ((with_reducible change wpList _ _ _ (Oper.mk (some 12) _ _ _ _ _ :: _) _ _); refine kGtrI _ _ _ _ .i64 (U : Int) 2000 true rfl rfl rfl rfl h1 ?_; go_frame))
    go_ret
    exact ⟨rfl, hB1⟩
  have h1 : decide ((U : Int) > 2000) = false := by simp; omega
  by_cases k2 : 2000 < K
  · rw [if_pos (.inr (by omega)), Option.some.injEq] at hr
    subst hr
    have h2 : decide ((K : Int) > 2000) = true := by simp; omega
    go_enter Tryz.func6, Tryz.ntmps6
    go_wp2_with (first
      | ((with_reducible change wpList _ _ _ (Oper.mk (some 5) _ _ _ _ _ :: _) _ _); refine kBox _ _ _ rfl rfl rfl ?_; intro w1 hR1 hz1 hB1; clear hz1; have hV1 := hv1.below hB1; have hV2 := hv2.below hB1; go_frame)
      | ((with_reducible change wpList _ _ _ (Oper.mk (some 11) _ _ _ _ _ :: _) _ _); refine kLenN _ _ _ v1 _ U rfl rfl rfl hV1 (by rw [List.length_map, hU]) Tryz.underlying26 ?_; go_frame)
      | ((with_reducible change wpList _ _ _ (Oper.mk (some 12) _ _ _ _ _ :: _) _ _); refine kGtrI _ _ _ _ .i64 (U : Int) 2000 false rfl rfl rfl rfl h1 ?_; go_frame)
      | ((with_reducible change wpList _ _ _ (Oper.mk (some 15) _ _ _ _ _ :: _) _ _); refine kLenN _ _ _ v2 _ K rfl rfl rfl hV2 (by rw [List.length_map, hK]) Tryz.underlying26 ?_; go_frame)
      | ((with_reducible change wpList _ _ _ (Oper.mk (some 16) _ _ _ _ _ :: _) _ _); refine kGtrI _ _ _ _ .i64 (K : Int) 2000 true rfl rfl rfl rfl h2 ?_; go_frame))
    go_ret
    exact ⟨rfl, hB1⟩
  have h2 : decide ((K : Int) > 2000) = false := by simp; omega
  rw [if_neg (by rintro (h | h) <;> omega)] at hr
  cases ha : allS E true u ⟨[], []⟩ with
  | none => rw [ha] at hr; cases hr
  | some q =>
  obtain ⟨s, e1⟩ := q
  rw [ha] at hr
  have hsc1 : ∀ (w' : World) (g : Nat), Below w.heap.size w w' → Rn w.heap.size hs Gs w' g ⟨[], []⟩ 0 → Calls Tryz.prog 11 #[.pointer (some ⟨g, 0, none⟩), v1, .func (.func 12) #[.pointer (some ⟨g, 0, none⟩)] #[]] w' (ScriptPost w.heap.size hs Gs g w' (s, e1)) := fun w' g hb h => scScript_true hE w w' rfl hv1 hb h (by simp) rfl (by omega) ha
  by_cases he1 : e1 ≠ 0
  · have hee : e1 = e := by simpa [he1] using hr
    subst hee
    have hne : (!decide ((e1 : Int) = 0)) = true := by simp; omega
    clear hr ha
    go_enter Tryz.func6, Tryz.ntmps6
    go_wp2_with (first
      | ((with_reducible change wpList _ _ _ (Oper.mk (some 5) _ _ _ _ _ :: _) _ _); refine kBox _ _ _ rfl rfl rfl ?_; intro w1 hR1 hz1 hB1; clear hz1; have hV1 := hv1.below hB1; have hV2 := hv2.below hB1; go_frame)
      | ((with_reducible change wpList _ _ _ (Oper.mk (some 11) _ _ _ _ _ :: _) _ _); refine kLenN _ _ _ v1 _ U rfl rfl rfl hV1 (by rw [List.length_map, hU]) Tryz.underlying26 ?_; go_frame)
      | ((with_reducible change wpList _ _ _ (Oper.mk (some 12) _ _ _ _ _ :: _) _ _); refine kGtrI _ _ _ _ .i64 (U : Int) 2000 false rfl rfl rfl rfl h1 ?_; go_frame)
      | ((with_reducible change wpList _ _ _ (Oper.mk (some 15) _ _ _ _ _ :: _) _ _); refine kLenN _ _ _ v2 _ K rfl rfl rfl hV2 (by rw [List.length_map, hK]) Tryz.underlying26 ?_; go_frame)
      | ((with_reducible change wpList _ _ _ (Oper.mk (some 16) _ _ _ _ _ :: _) _ _); refine kGtrI _ _ _ _ .i64 (K : Int) 2000 false rfl rfl rfl rfl h2 ?_; go_frame)
      | ((with_reducible change wpList _ _ _ (Oper.mk (some 18) _ _ _ _ _ :: _) _ _); refine kLoadRow _ _ _ _ _ _ rfl rfl rfl hR1 Tryz.underlying33 rfl (by rw [info_HashR]; simp [hhl]) ?_; go_frame)
      | ((with_reducible change wpList _ _ _ (Oper.mk (some 19) _ _ _ _ _ :: _) _ _); refine kBuildAny _ _ #[(0, .agg hs.toArray)] _ rfl rfl (by simp [Act.eval]) (built_runner hhl) ?_; go_frame)
      | ((with_reducible change wpList _ _ _ (Oper.mk (some 7) _ _ _ _ _ :: _) _ _); refine kAlloc _ _ rfl rfl zero_Runner ?_; intro w2 hR2 hz2 hB2; clear hz2; have hsz1 := hB1.size; have hB3 := hB1.trans (hB2.mono hsz1); clear hB2 hV1 hV2; go_frame)
      | ((with_reducible change wpList _ _ _ (Oper.mk none (Op.store _ (Operand.tmp 7) _) _ _ _ _ :: _) _ _); refine kStoreRow _ _ _ _ _ _ _ rfl rfl rfl rfl hR2 (by rw [info_RunnerR, row_size hhl]) (by rw [row_size hhl, row_size (by simp)]) (row_one hone) ?_; intro w3 hR3 hW3; have hB4 := hB3.trans (hW3.below hsz1); have hRn := rn_new (w := w) hhl hR3 hsz1 (gl_keep hGl hB4); clear hR1 hR2 hB1 hB3 hW3 hR3; go_frame)
      | ((with_reducible change wpList _ _ _ (Oper.mk (some 21) _ _ _ _ _ :: _) _ _); refine kMakeFunc 12 _ _ rfl rfl rfl ?_; go_frame)
      | (go_at_call 11; (with_reducible change Calls _ _ #[_, v1, _] _ _); refine (hsc1 _ _ hB4 hRn).mono ?_; rintro e0 w5 ⟨rfl, hR5, hF5⟩; clear hsc1; go_frame)
      | ((with_reducible change wpList _ _ _ (Oper.mk (some 24) _ _ _ _ _ :: _) _ _); refine kNeqI _ _ _ _ .i64 (e1 : Int) 0 true rfl rfl rfl rfl hne ?_; go_frame))
    go_ret
    exact ⟨rfl, hB4.trans hF5.below⟩
  obtain rfl : e1 = 0 := by omega
  have hsc1b : ∀ (w' : World) (g : Nat), Below w.heap.size w w' → Rn w.heap.size hs Gs w' g ⟨[], []⟩ 0 → Calls Tryz.prog 11 #[.pointer (some ⟨g, 0, none⟩), v1, .func (.func 12) #[.pointer (some ⟨g, 0, none⟩)] #[]] w' fun en w1 => en = .returned (.int .i64 0) ∧ s.stack.length ≤ 100 ∧ s.ways = [] ∧ (∃ m, Rn w.heap.size hs Gs w1 g s m) ∧ Fr w.heap.size w' w1 := fun w' g hb h => (hsc1 w' g hb h).mono (by
    rintro e0 w5 ⟨rfl, h5, hF5⟩; obtain ⟨x1, x2, x3⟩ := h5 rfl; exact ⟨rfl, x1, x2, x3, hF5⟩)
  clear hsc1
  simp only [ne_eq, not_true_eq_false, if_false] at hr
  cases hb : allS E false l s with
  | none => rw [hb] at hr; cases hr
  | some q2 =>
  obtain ⟨t, e2⟩ := q2
  rw [hb] at hr
  have hsc2 : ∀ (w' : World) (g m : Nat), s.stack.length ≤ 100 → s.ways = [] → Below w.heap.size w w' → Rn w.heap.size hs Gs w' g s m → Calls Tryz.prog 11 #[.pointer (some ⟨g, 0, none⟩), v2, .func (.func 13) #[.pointer (some ⟨g, 0, none⟩)] #[]] w' (ScriptPost w.heap.size hs Gs g w' (t, e2)) := fun w' g m h1 h2 hbb h => scScript_false hE w w' rfl hv2 hbb h h1 h2 (by omega) hb
  clear ha hb
  by_cases he2 : e2 ≠ 0
  · have hee : e2 = e := by simpa [he2] using hr
    subst hee
    have hne : (!decide ((e2 : Int) = 0)) = true := by simp; omega
    clear hr
    go_enter Tryz.func6, Tryz.ntmps6
    go_wp2_with (first
      | ((with_reducible change wpList _ _ _ (Oper.mk (some 5) _ _ _ _ _ :: _) _ _); refine kBox _ _ _ rfl rfl rfl ?_; intro w1 hR1 hz1 hB1; clear hz1; have hV1 := hv1.below hB1; have hV2 := hv2.below hB1; go_frame)
      | ((with_reducible change wpList _ _ _ (Oper.mk (some 11) _ _ _ _ _ :: _) _ _); refine kLenN _ _ _ v1 _ U rfl rfl rfl hV1 (by rw [List.length_map, hU]) Tryz.underlying26 ?_; go_frame)
      | ((with_reducible change wpList _ _ _ (Oper.mk (some 12) _ _ _ _ _ :: _) _ _); refine kGtrI _ _ _ _ .i64 (U : Int) 2000 false rfl rfl rfl rfl h1 ?_; go_frame)
      | ((with_reducible change wpList _ _ _ (Oper.mk (some 15) _ _ _ _ _ :: _) _ _); refine kLenN _ _ _ v2 _ K rfl rfl rfl hV2 (by rw [List.length_map, hK]) Tryz.underlying26 ?_; go_frame)
      | ((with_reducible change wpList _ _ _ (Oper.mk (some 16) _ _ _ _ _ :: _) _ _); refine kGtrI _ _ _ _ .i64 (K : Int) 2000 false rfl rfl rfl rfl h2 ?_; go_frame)
      | ((with_reducible change wpList _ _ _ (Oper.mk (some 18) _ _ _ _ _ :: _) _ _); refine kLoadRow _ _ _ _ _ _ rfl rfl rfl hR1 Tryz.underlying33 rfl (by rw [info_HashR]; simp [hhl]) ?_; go_frame)
      | ((with_reducible change wpList _ _ _ (Oper.mk (some 19) _ _ _ _ _ :: _) _ _); refine kBuildAny _ _ #[(0, .agg hs.toArray)] _ rfl rfl (by simp [Act.eval]) (built_runner hhl) ?_; go_frame)
      | ((with_reducible change wpList _ _ _ (Oper.mk (some 7) _ _ _ _ _ :: _) _ _); refine kAlloc _ _ rfl rfl zero_Runner ?_; intro w2 hR2 hz2 hB2; clear hz2; have hsz1 := hB1.size; have hB3 := hB1.trans (hB2.mono hsz1); clear hB2 hV1 hV2; go_frame)
      | ((with_reducible change wpList _ _ _ (Oper.mk none (Op.store _ (Operand.tmp 7) _) _ _ _ _ :: _) _ _); refine kStoreRow _ _ _ _ _ _ _ rfl rfl rfl rfl hR2 (by rw [info_RunnerR, row_size hhl]) (by rw [row_size hhl, row_size (by simp)]) (row_one hone) ?_; intro w3 hR3 hW3; have hB4 := hB3.trans (hW3.below hsz1); have hRn := rn_new (w := w) hhl hR3 hsz1 (gl_keep hGl hB4); clear hR1 hR2 hB1 hB3 hW3 hR3; go_frame)
      | ((with_reducible change wpList _ _ _ (Oper.mk (some 21) _ _ _ _ _ :: _) _ _); refine kMakeFunc 12 _ _ rfl rfl rfl ?_; go_frame)
      | (go_at_call 11; (with_reducible change Calls _ _ #[_, v1, _] _ _); refine (hsc1b _ _ hB4 hRn).mono ?_; rintro e0 w5 ⟨rfl, hs5, hw5, ⟨m5, hRn5⟩, hF5⟩; clear hsc1b; have hB6 := hB4.trans hF5.below; clear hRn hF5 hB4; go_frame)
      | ((with_reducible change wpList _ _ _ (Oper.mk (some 27) _ _ _ _ _ :: _) _ _); refine kMakeFunc 13 _ _ rfl rfl rfl ?_; go_frame)
      | (go_at_call 11; (with_reducible change Calls _ _ #[_, v2, _] _ _); refine (hsc2 _ _ _ hs5 hw5 hB6 hRn5).mono ?_; rintro e0 w7 ⟨rfl, hR7, hF7⟩; clear hsc2; go_frame)
      | ((with_reducible change wpList _ _ _ (Oper.mk (some 30) _ _ _ _ _ :: _) _ _); refine kNeqI _ _ _ _ .i64 (e2 : Int) 0 true rfl rfl rfl rfl hne ?_; go_frame))
    go_ret
    exact ⟨rfl, hB6.trans hF7.below⟩
  obtain rfl : e2 = 0 := by omega
  have hee : lastS t = e := by simpa using hr
  subst hee
  have hsc2b : ∀ (w' : World) (g m : Nat), s.stack.length ≤ 100 → s.ways = [] → Below w.heap.size w w' → Rn w.heap.size hs Gs w' g s m → Calls Tryz.prog 11 #[.pointer (some ⟨g, 0, none⟩), v2, .func (.func 13) #[.pointer (some ⟨g, 0, none⟩)] #[]] w' fun en w1 => en = .returned (.int .i64 0) ∧ (∃ m sv bv vs, RnX w.heap.size hs Gs w1 g t m sv bv vs) ∧ Fr w.heap.size w' w1 := fun w' g m h1 h2 hb h => (hsc2 w' g m h1 h2 hb h).mono (by
    rintro e0 w5 ⟨rfl, h5, hF5⟩; obtain ⟨x1, x2, x3⟩ := h5 rfl; exact ⟨rfl, x3, hF5⟩)
  clear hsc2 hr
  obtain ⟨st, ws⟩ := t
  cases st with
  | nil =>
    show Calls _ _ _ _ (fun en w' => en = .returned (.int .i64 74) ∧ _)
    go_enter Tryz.func6, Tryz.ntmps6
    go_wp2_with (first
      | ((with_reducible change wpList _ _ _ (Oper.mk (some 5) _ _ _ _ _ :: _) _ _); refine kBox _ _ _ rfl rfl rfl ?_; intro w1 hR1 hz1 hB1; clear hz1; have hV1 := hv1.below hB1; have hV2 := hv2.below hB1; go_frame)
      | ((with_reducible change wpList _ _ _ (Oper.mk (some 11) _ _ _ _ _ :: _) _ _); refine kLenN _ _ _ v1 _ U rfl rfl rfl hV1 (by rw [List.length_map, hU]) Tryz.underlying26 ?_; go_frame)
      | ((with_reducible change wpList _ _ _ (Oper.mk (some 12) _ _ _ _ _ :: _) _ _); refine kGtrI _ _ _ _ .i64 (U : Int) 2000 false rfl rfl rfl rfl h1 ?_; go_frame)
      | ((with_reducible change wpList _ _ _ (Oper.mk (some 15) _ _ _ _ _ :: _) _ _); refine kLenN _ _ _ v2 _ K rfl rfl rfl hV2 (by rw [List.length_map, hK]) Tryz.underlying26 ?_; go_frame)
      | ((with_reducible change wpList _ _ _ (Oper.mk (some 16) _ _ _ _ _ :: _) _ _); refine kGtrI _ _ _ _ .i64 (K : Int) 2000 false rfl rfl rfl rfl h2 ?_; go_frame)
      | ((with_reducible change wpList _ _ _ (Oper.mk (some 18) _ _ _ _ _ :: _) _ _); refine kLoadRow _ _ _ _ _ _ rfl rfl rfl hR1 Tryz.underlying33 rfl (by rw [info_HashR]; simp [hhl]) ?_; go_frame)
      | ((with_reducible change wpList _ _ _ (Oper.mk (some 19) _ _ _ _ _ :: _) _ _); refine kBuildAny _ _ #[(0, .agg hs.toArray)] _ rfl rfl (by simp [Act.eval]) (built_runner hhl) ?_; go_frame)
      | ((with_reducible change wpList _ _ _ (Oper.mk (some 7) _ _ _ _ _ :: _) _ _); refine kAlloc _ _ rfl rfl zero_Runner ?_; intro w2 hR2 hz2 hB2; clear hz2; have hsz1 := hB1.size; have hB3 := hB1.trans (hB2.mono hsz1); clear hB2 hV1 hV2; go_frame)
      | ((with_reducible change wpList _ _ _ (Oper.mk none (Op.store _ (Operand.tmp 7) _) _ _ _ _ :: _) _ _); refine kStoreRow _ _ _ _ _ _ _ rfl rfl rfl rfl hR2 (by rw [info_RunnerR, row_size hhl]) (by rw [row_size hhl, row_size (by simp)]) (row_one hone) ?_; intro w3 hR3 hW3; have hB4 := hB3.trans (hW3.below hsz1); have hRn := rn_new (w := w) hhl hR3 hsz1 (gl_keep hGl hB4); clear hR1 hR2 hB1 hB3 hW3 hR3; go_frame)
      | ((with_reducible change wpList _ _ _ (Oper.mk (some 21) _ _ _ _ _ :: _) _ _); refine kMakeFunc 12 _ _ rfl rfl rfl ?_; go_frame)
      | (go_at_call 11; (with_reducible change Calls _ _ #[_, v1, _] _ _); refine (hsc1b _ _ hB4 hRn).mono ?_; rintro e0 w5 ⟨rfl, hs5, hw5, ⟨m5, hRn5⟩, hF5⟩; clear hsc1b; have hB6 := hB4.trans hF5.below; clear hRn hF5 hB4; go_frame)
      | ((with_reducible change wpList _ _ _ (Oper.mk (some 27) _ _ _ _ _ :: _) _ _); refine kMakeFunc 13 _ _ rfl rfl rfl ?_; go_frame)
      | (go_at_call 11; (with_reducible change Calls _ _ #[_, v2, _] _ _); refine (hsc2b _ _ _ hs5 hw5 hB6 hRn5).mono ?_; rintro e0 w7 ⟨rfl, ⟨m7, sv, bv, vs, hX7⟩, hF7⟩; clear hsc2b; have hB8 := hB6.trans hF7.below; have h32 := row_32 hX7.hl sv bv m7; have hsz8 := hB8.size; clear hRn5 hF7 hB6; go_frame)
      | ((with_reducible change wpList _ _ _ (Oper.mk (some 32) _ _ _ _ _ :: _) _ _); refine kRn1 _ _ rfl rfl rfl ?_; go_frame)
      | ((with_reducible change wpList _ _ _ (Oper.mk (some 33) _ _ _ _ _ :: _) _ _); refine kLoad1 _ _ _ _ 32 _ sv _ rfl rfl rfl hX7.row Tryz.underlying40 rfl h32 ?_; go_frame)
      | ((with_reducible change wpList _ _ _ (Oper.mk (some 34) _ _ _ _ _ :: _) _ _); refine kLenN _ _ _ sv _ 0 rfl rfl rfl (isVals_own hX7.st) hX7.len Tryz.underlying40 ?_; go_frame))
    go_ret
    exact ⟨rfl, hB8⟩
  | cons x st =>
    rw [lastS_cons]
    obtain ⟨N, hN⟩ : ∃ N, st.length + 1 = N := ⟨_, rfl⟩
    have hN0 : decide ((N : Int) = 0) = false := by simp; omega
    go_enter Tryz.func6, Tryz.ntmps6
    go_wp2_with (first
      | ((with_reducible change wpList _ _ _ (Oper.mk (some 5) _ _ _ _ _ :: _) _ _); refine kBox _ _ _ rfl rfl rfl ?_; intro w1 hR1 hz1 hB1; clear hz1; have hV1 := hv1.below hB1; have hV2 := hv2.below hB1; go_frame)
      | ((with_reducible change wpList _ _ _ (Oper.mk (some 11) _ _ _ _ _ :: _) _ _); refine kLenN _ _ _ v1 _ U rfl rfl rfl hV1 (by rw [List.length_map, hU]) Tryz.underlying26 ?_; go_frame)
      | ((with_reducible change wpList _ _ _ (Oper.mk (some 12) _ _ _ _ _ :: _) _ _); refine kGtrI _ _ _ _ .i64 (U : Int) 2000 false rfl rfl rfl rfl h1 ?_; go_frame)
      | ((with_reducible change wpList _ _ _ (Oper.mk (some 15) _ _ _ _ _ :: _) _ _); refine kLenN _ _ _ v2 _ K rfl rfl rfl hV2 (by rw [List.length_map, hK]) Tryz.underlying26 ?_; go_frame)
      | ((with_reducible change wpList _ _ _ (Oper.mk (some 16) _ _ _ _ _ :: _) _ _); refine kGtrI _ _ _ _ .i64 (K : Int) 2000 false rfl rfl rfl rfl h2 ?_; go_frame)
      | ((with_reducible change wpList _ _ _ (Oper.mk (some 18) _ _ _ _ _ :: _) _ _); refine kLoadRow _ _ _ _ _ _ rfl rfl rfl hR1 Tryz.underlying33 rfl (by rw [info_HashR]; simp [hhl]) ?_; go_frame)
      | ((with_reducible change wpList _ _ _ (Oper.mk (some 19) _ _ _ _ _ :: _) _ _); refine kBuildAny _ _ #[(0, .agg hs.toArray)] _ rfl rfl (by simp [Act.eval]) (built_runner hhl) ?_; go_frame)
      | ((with_reducible change wpList _ _ _ (Oper.mk (some 7) _ _ _ _ _ :: _) _ _); refine kAlloc _ _ rfl rfl zero_Runner ?_; intro w2 hR2 hz2 hB2; clear hz2; have hsz1 := hB1.size; have hB3 := hB1.trans (hB2.mono hsz1); clear hB2 hV1 hV2; go_frame)
      | ((with_reducible change wpList _ _ _ (Oper.mk none (Op.store _ (Operand.tmp 7) _) _ _ _ _ :: _) _ _); refine kStoreRow _ _ _ _ _ _ _ rfl rfl rfl rfl hR2 (by rw [info_RunnerR, row_size hhl]) (by rw [row_size hhl, row_size (by simp)]) (row_one hone) ?_; intro w3 hR3 hW3; have hB4 := hB3.trans (hW3.below hsz1); have hRn := rn_new (w := w) hhl hR3 hsz1 (gl_keep hGl hB4); clear hR1 hR2 hB1 hB3 hW3 hR3; go_frame)
      | ((with_reducible change wpList _ _ _ (Oper.mk (some 21) _ _ _ _ _ :: _) _ _); refine kMakeFunc 12 _ _ rfl rfl rfl ?_; go_frame)
      | (go_at_call 11; (with_reducible change Calls _ _ #[_, v1, _] _ _); refine (hsc1b _ _ hB4 hRn).mono ?_; rintro e0 w5 ⟨rfl, hs5, hw5, ⟨m5, hRn5⟩, hF5⟩; clear hsc1b; have hB6 := hB4.trans hF5.below; clear hRn hF5 hB4; go_frame)
      | ((with_reducible change wpList _ _ _ (Oper.mk (some 27) _ _ _ _ _ :: _) _ _); refine kMakeFunc 13 _ _ rfl rfl rfl ?_; go_frame)
      | (go_at_call 11; (with_reducible change Calls _ _ #[_, v2, _] _ _); refine (hsc2b _ _ _ hs5 hw5 hB6 hRn5).mono ?_; rintro e0 w7 ⟨rfl, ⟨m7, sv, bv, vs, hX7⟩, hF7⟩; clear hsc2b; have hB8 := hB6.trans hF7.below; have h32 := row_32 hX7.hl sv bv m7; have hsz8 := hB8.size; clear hRn5 hF7 hB6; go_frame)
      | ((with_reducible change wpList _ _ _ (Oper.mk (some 32) _ _ _ _ _ :: _) _ _); refine kRn1 _ _ rfl rfl rfl ?_; go_frame)
      | ((with_reducible change wpList _ _ _ (Oper.mk (some 33) _ _ _ _ _ :: _) _ _); refine kLoad1 _ _ _ _ 32 _ sv _ rfl rfl rfl hX7.row Tryz.underlying40 rfl h32 ?_; go_frame)
      | ((with_reducible change wpList _ _ _ (Oper.mk (some 34) _ _ _ _ _ :: _) _ _); refine kLenN _ _ _ sv _ N rfl rfl rfl (isVals_own hX7.st) (hX7.len.trans hN) Tryz.underlying40 ?_; go_frame)
      | ((with_reducible change wpList _ _ _ (Oper.mk (some 35) _ _ _ _ _ :: _) _ _); refine kEqlI _ _ _ _ .i64 (N : Int) 0 false rfl rfl rfl rfl hN0 ?_; go_frame)
      | (go_at_call 15; refine (scBelow_any (k := 0) _ ⟨_, _, _, hX7⟩ rfl).mono ?_; rintro e w9 ⟨v9, rfl, hV9, hR9, hB9⟩; have hB10 := hB8.trans (hB9.mono hsz8); go_frame)
      | (go_at_call 14; refine (scCheck_any _ hV9.vals (by have := hR9.len; omega)).mono ?_; rintro e w11 ⟨rfl, rfl⟩; go_frame))
    go_ret
    exact ⟨rfl, hB10⟩
end Go.Proofs.YtnaclalbeocpkaaGreatDoor
