/-
  Layer 8: the walks of the program's Lock, readPieces and deedOf, and of bytes.HasPrefix and bytes.CutPrefix.
-/
import Derived.Test.YtnaclalbeocpkaaDoorLbWords
import Derived.Test.YtnaclalbeocpkaaDoorScMem
namespace Go.Proofs.YtnaclalbeocpkaaDoor
open Go Go.RowKit

theorem ret2 {fn : Func} {R : Ending → World → Prop} {P : Program} {a : Act} {w : World} {t u : Tmp} (h : fn.results = #[.tmp t, .tmp u]) (hd : a.defers = []) (hR : R (.returned (.tuple #[a.tmps.getD t undef, a.tmps.getD u undef])) w) : bodyPost P fn R .ret a w :=
  bodyPost_ret (by simp [results, h]) hd hR
def ansL (r : Option (List UInt8)) : List UInt8 := r.getD []
def errL (r : Option (List UInt8)) : Int := if r.isNone then 81 else 0
def LockPost (w : World) (r : Option (List UInt8)) (e : Ending) (w' : World) : Prop := ∃ v, e = .returned (.tuple #[v, .int .i64 (errL r)]) ∧ OwnB w' w.heap.size v (ansL r) ∧ Below w.heap.size w w'
def Deed.Fits (d : Deed) : Prop := d.name.length ≤ 1000 ∧ d.value.length ≤ 1000 ∧ d.rand.length ≤ 1000
theorem Deed.Fits.small {d : Deed} (h : d.Fits) : d.Small := ⟨by have := h.1; omega, by have := h.2.1; omega, by have := h.2.2; omega⟩
theorem wordsL_le {d : Deed} (hd : d.Is) (h : d.Fits) : (wordsL d).length ≤ 4000 := by
  obtain ⟨h1, h2, h3⟩ := h
  have a1 := pushL_le' h1
  have a2 := pushL_le' h2
  have a3 := pushL_le' h3
  have a4 := pushL_le' (m := 20) (x := d.commit) (by rw [hd]; omega)
  unfold wordsL
  split <;> (try split) <;> (try split) <;> simp <;> omega
set_option maxRecDepth 100000 in
set_option maxHeartbeats 8000000 in
theorem lbLock_any {d : Deed} (hd : d.Is) (hf : d.Fits) {r : List UInt8} {vr : Value} (w : World) (hG : Counts w) (hr : IsVals w vr (r.map VB)) (hl : r.length ≤ 1000000) : Calls Tryd.prog 6 #[deedV d, vr] w (LockPost w (lockS d r)) := by
  have hwl := wordsL_le hd hf
  have e1 := fun w => lbRight_any hd hf.small w
  have e2 := fun w (h : IsVals w vr (r.map VB)) => lbKindOf_any w h
  obtain ⟨b, hb⟩ : ∃ b, rightB d = b := ⟨_, rfl⟩
  obtain ⟨K, hK⟩ : ∃ K, kindL r = K := ⟨_, rfl⟩
  rw [hb] at e1
  rw [hK] at e2
  unfold lockS
  rw [hb, hK]
  cases b
  · rw [if_pos (.inl rfl)]
    go_enter Tryd.func6, Tryd.ntmps6
    go_wp2_with (first
      | ((with_reducible change wpList _ _ _ (Oper.mk (some 2) _ _ _ _ _ :: _) _ _); refine kBoxD _ _ rfl rfl rfl ?_; intro w1 hR hz1 hB; go_frame)
      | ((with_reducible change wpList _ _ _ (Oper.mk (some 6) _ _ _ _ _ :: _) _ _); refine kLoadD _ _ _ hR rfl rfl rfl ?_; go_frame)
      | (go_at_call 9; refine (e1 _).mono ?_; rintro e w2 ⟨rfl, hB2⟩; have hR2 := hR.below hB2 hR.lt; have hB3 := hB.trans (hB2.mono hB.size); have hr2 := hr.below hB3; have hG2 := hG.below hB3; have hs3 := hB3.size; clear hR hB hB2 hz1 hr hG; go_frame))
    (try simp only [Exit.inBlock, Exit.then])
    refine ret2 rfl rfl ?_
    exact ⟨_, rfl, ownB_nil _ _, hB3⟩
  by_cases k0 : d.kind = 0
  · have hk0 : decide (d.kind = 0) = true := by simp [k0]
    by_cases hK1 : K = 0
    · have hK0 : (!decide ((K : Int) = 0)) = false := by simp [hK1]
      rw [if_neg (by simp [hK1])]
      go_enter Tryd.func6, Tryd.ntmps6
      go_wp2_with (first
        | ((with_reducible change wpList _ _ _ (Oper.mk (some 2) _ _ _ _ _ :: _) _ _); refine kBoxD _ _ rfl rfl rfl ?_; intro w1 hR hz1 hB; go_frame)
        | ((with_reducible change wpList _ _ _ (Oper.mk (some 6) _ _ _ _ _ :: _) _ _); refine kLoadD _ _ _ hR rfl rfl rfl ?_; go_frame)
        | (go_at_call 9; refine (e1 _).mono ?_; rintro e w2 ⟨rfl, hB2⟩; have hR2 := hR.below hB2 hR.lt; have hB3 := hB.trans (hB2.mono hB.size); have hr2 := hr.below hB3; have hG2 := hG.below hB3; have hs3 := hB3.size; clear hR hB hB2 hz1 hr hG; go_frame)
        | ((with_reducible change wpList _ _ _ (Oper.mk (some 10) _ _ _ _ _ :: _) _ _); refine kDeed0 _ _ rfl rfl rfl ?_; go_frame)
        | ((with_reducible change wpList _ _ _ (Oper.mk (some 11) _ _ _ _ _ :: _) _ _); refine kLoadK _ _ _ hR2 rfl rfl rfl ?_; go_frame)
        | ((with_reducible change wpList _ _ _ (Oper.mk (some 12) _ _ _ _ _ :: _) _ _); refine kEqlI _ _ _ _ .i64 d.kind 0 _ rfl rfl rfl rfl hk0 ?_; go_frame)
        | (go_at_call 16; refine (e2 _ hr2).mono ?_; rintro e w4 ⟨rfl, rfl⟩; go_frame)
        | ((with_reducible change wpList _ _ _ (Oper.mk (some 16) _ _ _ _ _ :: _) _ _); refine kNeqI _ _ _ _ .i64 (K : Int) 0 _ rfl rfl rfl rfl hK0 ?_; go_frame)
        | ((with_reducible change wpList _ _ _ (Oper.mk (some 19) _ _ _ _ _ :: _) _ _); refine kLoadD _ _ _ hR2 rfl rfl rfl ?_; go_frame)
        | (go_at_call 17; refine (lbWords_any hd hf _ hG2).mono ?_; rintro e w5 ⟨v5, rfl, hO5, hB5⟩; have hr5 := hr2.below hB5; have hB6 := hB3.trans (hB5.mono hs3); have hs6 := hB6.size; have hO6 := own_less hs3 hO5; clear hO5 hr2 hB3 hB5; go_frame)
        | ((with_reducible change wpList _ _ _ (Oper.mk (some 22) _ _ _ _ _ :: _) _ _); refine kAppB _ _ rfl rfl w.heap.size _ _ (wordsL d) r hO6 hr5 rfl rfl (by omega) hs6 ?_; intro v7 w7 hO7 hB7; have hB8 := hB6.trans hB7; clear hr5 hB6 hB7 hO6; go_frame))
      (try simp only [Exit.inBlock, Exit.then])
      refine ret2 rfl rfl ?_
      exact ⟨_, rfl, hO7, hB8⟩
    have hK0 : (!decide ((K : Int) = 0)) = true := by simp; omega
    rw [if_pos (.inr ⟨k0, hK1⟩)]
    go_enter Tryd.func6, Tryd.ntmps6
    go_wp2_with (first
      | ((with_reducible change wpList _ _ _ (Oper.mk (some 2) _ _ _ _ _ :: _) _ _); refine kBoxD _ _ rfl rfl rfl ?_; intro w1 hR hz1 hB; go_frame)
      | ((with_reducible change wpList _ _ _ (Oper.mk (some 6) _ _ _ _ _ :: _) _ _); refine kLoadD _ _ _ hR rfl rfl rfl ?_; go_frame)
      | (go_at_call 9; refine (e1 _).mono ?_; rintro e w2 ⟨rfl, hB2⟩; have hR2 := hR.below hB2 hR.lt; have hB3 := hB.trans (hB2.mono hB.size); have hr2 := hr.below hB3; have hG2 := hG.below hB3; have hs3 := hB3.size; clear hR hB hB2 hz1 hr hG; go_frame)
      | ((with_reducible change wpList _ _ _ (Oper.mk (some 10) _ _ _ _ _ :: _) _ _); refine kDeed0 _ _ rfl rfl rfl ?_; go_frame)
      | ((with_reducible change wpList _ _ _ (Oper.mk (some 11) _ _ _ _ _ :: _) _ _); refine kLoadK _ _ _ hR2 rfl rfl rfl ?_; go_frame)
      | ((with_reducible change wpList _ _ _ (Oper.mk (some 12) _ _ _ _ _ :: _) _ _); refine kEqlI _ _ _ _ .i64 d.kind 0 _ rfl rfl rfl rfl hk0 ?_; go_frame)
      | (go_at_call 16; refine (e2 _ hr2).mono ?_; rintro e w4 ⟨rfl, rfl⟩; go_frame)
      | ((with_reducible change wpList _ _ _ (Oper.mk (some 16) _ _ _ _ _ :: _) _ _); refine kNeqI _ _ _ _ .i64 (K : Int) 0 _ rfl rfl rfl rfl hK0 ?_; go_frame))
    (try simp only [Exit.inBlock, Exit.then])
    refine ret2 rfl rfl ?_
    exact ⟨_, rfl, ownB_nil _ _, hB3⟩
  have hk0 : decide (d.kind = 0) = false := by simp [k0]
  rw [if_neg (by simp [k0])]
  go_enter Tryd.func6, Tryd.ntmps6
  go_wp2_with (first
    | ((with_reducible change wpList _ _ _ (Oper.mk (some 2) _ _ _ _ _ :: _) _ _); refine kBoxD _ _ rfl rfl rfl ?_; intro w1 hR hz1 hB; go_frame)
    | ((with_reducible change wpList _ _ _ (Oper.mk (some 6) _ _ _ _ _ :: _) _ _); refine kLoadD _ _ _ hR rfl rfl rfl ?_; go_frame)
    | (go_at_call 9; refine (e1 _).mono ?_; rintro e w2 ⟨rfl, hB2⟩; have hR2 := hR.below hB2 hR.lt; have hB3 := hB.trans (hB2.mono hB.size); have hr2 := hr.below hB3; have hG2 := hG.below hB3; have hs3 := hB3.size; clear hR hB hB2 hz1 hr hG; go_frame)
    | ((with_reducible change wpList _ _ _ (Oper.mk (some 10) _ _ _ _ _ :: _) _ _); refine kDeed0 _ _ rfl rfl rfl ?_; go_frame)
    | ((with_reducible change wpList _ _ _ (Oper.mk (some 11) _ _ _ _ _ :: _) _ _); refine kLoadK _ _ _ hR2 rfl rfl rfl ?_; go_frame)
    | ((with_reducible change wpList _ _ _ (Oper.mk (some 12) _ _ _ _ _ :: _) _ _); refine kEqlI _ _ _ _ .i64 d.kind 0 _ rfl rfl rfl rfl hk0 ?_; go_frame)
    | (go_at_call 16; refine (e2 _ hr2).mono ?_; rintro e w4 ⟨rfl, rfl⟩; go_frame)
    | ((with_reducible change wpList _ _ _ (Oper.mk (some 16) _ _ _ _ _ :: _) _ _); refine kNeqI _ _ _ _ .i64 (K : Int) 0 _ rfl rfl rfl rfl hK0 ?_; go_frame)
    | ((with_reducible change wpList _ _ _ (Oper.mk (some 19) _ _ _ _ _ :: _) _ _); refine kLoadD _ _ _ hR2 rfl rfl rfl ?_; go_frame)
    | (go_at_call 17; refine (lbWords_any hd hf _ hG2).mono ?_; rintro e w5 ⟨v5, rfl, hO5, hB5⟩; have hr5 := hr2.below hB5; have hB6 := hB3.trans (hB5.mono hs3); have hs6 := hB6.size; have hO6 := own_less hs3 hO5; clear hO5 hr2 hB3 hB5; go_frame)
    | ((with_reducible change wpList _ _ _ (Oper.mk (some 22) _ _ _ _ _ :: _) _ _); refine kAppB _ _ rfl rfl w.heap.size _ _ (wordsL d) r hO6 hr5 rfl rfl (by omega) hs6 ?_; intro v7 w7 hO7 hB7; have hB8 := hB6.trans hB7; clear hr5 hB6 hB7 hO6; go_frame))
  (try simp only [Exit.inBlock, Exit.then])
  refine ret2 rfl rfl ?_
  exact ⟨_, rfl, hO7, hB8⟩
def hasP (l m : List UInt8) : Bool := decide (m.length ≤ l.length) && (l.take m.length == m)
theorem hasP_iff {l m : List UInt8} : hasP l m = true ↔ ∃ t, l = m ++ t := by
  unfold hasP
  simp only [Bool.and_eq_true, decide_eq_true_eq, beq_iff_eq]
  constructor
  · rintro ⟨h1, h2⟩; exact ⟨l.drop m.length, by rw [← h2]; simp [Nat.min_eq_left h1]⟩
  · rintro ⟨t, rfl⟩; simp
set_option maxRecDepth 100000 in
set_option maxHeartbeats 8000000 in
theorem bHas_any {l m : List UInt8} {v u : Value} (w : World) (hv : IsVals w v (l.map VB)) (hu : IsVals w u (m.map VB)) : Calls Tryd.prog 34 #[v, u] w fun e w' => e = .returned (.bool (hasP l m)) ∧ w' = w := by
  unfold hasP
  generalize hk : m = M at hu ⊢
  clear hk m
  obtain ⟨n, hn⟩ : ∃ n, l.length = n := ⟨_, rfl⟩
  obtain ⟨m, hm⟩ : ∃ m, M.length = m := ⟨_, rfl⟩
  rw [hn, hm]
  by_cases h : m ≤ n
  · have hg : decide ((n : Int) ≥ (m : Int)) = true := by simp; omega
    rw [show decide (m ≤ n) = true by simp [h], Bool.true_and]
    have e1 := fun w (h1 : IsVals w (toV v m) ((l.take m).map VB)) => fun (h2 : IsVals w u (M.map VB)) => bEqual_any w h1 h2
    go_enter Tryd.func34, Tryd.ntmps34
    go_wp2_with (first
      | ((with_reducible change wpList _ _ _ (Oper.mk (some 6) _ _ _ _ _ :: _) _ _); refine kLenN _ _ _ v _ n rfl rfl rfl hv (by rw [List.length_map, hn]) Tryd.underlying22 ?_; go_frame)
      | ((with_reducible change wpList _ _ _ (Oper.mk (some 8) _ _ _ _ _ :: _) _ _); refine kLenN _ _ _ u _ m rfl rfl rfl hu (by rw [List.length_map, hm]) Tryd.underlying22 ?_; go_frame)
      | ((with_reducible change wpList _ _ _ (Oper.mk (some 10) _ _ _ _ _ :: _) _ _); refine kGeqI _ _ _ _ .i64 (n : Int) (m : Int) _ rfl rfl rfl rfl hg ?_; go_frame)
      | ((with_reducible change wpList _ _ _ (Oper.mk (some 13) _ _ _ _ _ :: _) _ _); refine kLenN _ _ _ u _ m rfl rfl rfl hu (by rw [List.length_map, hm]) Tryd.underlying22 ?_; go_frame)
      | ((with_reducible change wpList _ _ _ (Oper.mk (some 14) _ _ _ _ _ :: _) _ _); refine kSliceTo _ _ v l m hv (by omega) rfl rfl rfl rfl ?_; intro hT; go_frame)
      | (go_at_call 39; refine (e1 _ hT hu).mono ?_; rintro e w1 ⟨rfl, rfl⟩; go_frame))
    (try simp only [Exit.inBlock, Exit.then])
    go_ret
    exact ⟨rfl, rfl⟩
  have hg : decide ((n : Int) ≥ (m : Int)) = false := by simp; omega
  rw [show decide (m ≤ n) = false by simp; omega, Bool.false_and]
  go_enter Tryd.func34, Tryd.ntmps34
  go_wp2_with (first
    | ((with_reducible change wpList _ _ _ (Oper.mk (some 6) _ _ _ _ _ :: _) _ _); refine kLenN _ _ _ v _ n rfl rfl rfl hv (by rw [List.length_map, hn]) Tryd.underlying22 ?_; go_frame)
    | ((with_reducible change wpList _ _ _ (Oper.mk (some 8) _ _ _ _ _ :: _) _ _); refine kLenN _ _ _ u _ m rfl rfl rfl hu (by rw [List.length_map, hm]) Tryd.underlying22 ?_; go_frame)
    | ((with_reducible change wpList _ _ _ (Oper.mk (some 10) _ _ _ _ _ :: _) _ _); refine kGeqI _ _ _ _ .i64 (n : Int) (m : Int) _ rfl rfl rfl rfl hg ?_; go_frame))
  (try simp only [Exit.inBlock, Exit.then])
  go_ret
  exact ⟨rfl, rfl⟩
set_option maxRecDepth 100000 in
set_option maxHeartbeats 8000000 in
theorem bCut_any {l m : List UInt8} {v u : Value} (w : World) (hv : IsVals w v (l.map VB)) (hu : IsVals w u (m.map VB)) : Calls Tryd.prog 24 #[v, u] w fun e w' => ∃ x, e = .returned (.tuple #[x, .bool (hasP l m)]) ∧ IsVals w' x ((if hasP l m then l.drop m.length else l).map VB) ∧ w' = w := by
  have e1 := fun w (h1 : IsVals w v (l.map VB)) (h2 : IsVals w u (m.map VB)) => bHas_any w h1 h2
  obtain ⟨b, hb⟩ : ∃ b, hasP l m = b := ⟨_, rfl⟩
  have hle : b = true → m.length ≤ l.length := by
    intro h; rw [h] at hb; unfold hasP at hb; simp at hb; exact hb.1
  rw [hb] at e1 ⊢
  obtain ⟨n, hn⟩ : ∃ n, m.length = n := ⟨_, rfl⟩
  rw [hn] at hle
  rw [hn]
  clear hb
  cases b
  · rw [if_neg (by simp)]
    go_enter Tryd.func24, Tryd.ntmps24
    go_wp2_with (first
      | (go_at_call 34; refine (e1 _ hv hu).mono ?_; rintro e w1 ⟨rfl, rfl⟩; go_frame))
    (try simp only [Exit.inBlock, Exit.then])
    refine ret2 rfl rfl ?_
    exact ⟨_, rfl, hv, rfl⟩
  have hle := hle rfl
  rw [if_pos rfl]
  go_enter Tryd.func24, Tryd.ntmps24
  go_wp2_with (first
    | (go_at_call 34; refine (e1 _ hv hu).mono ?_; rintro e w1 ⟨rfl, rfl⟩; go_frame)
    | ((with_reducible change wpList _ _ _ (Oper.mk (some 13) _ _ _ _ _ :: _) _ _); refine kLenN _ _ _ u _ n rfl rfl rfl hu (by rw [List.length_map, hn]) Tryd.underlying22 ?_; go_frame)
    | ((with_reducible change wpList _ _ _ (Oper.mk (some 14) _ _ _ _ _ :: _) _ _); refine kSliceFromB _ _ v l n hv (by omega) rfl rfl rfl rfl ?_; intro hT; go_frame))
  (try simp only [Exit.inBlock, Exit.then])
  refine ret2 rfl rfl ?_
  exact ⟨_, rfl, (by rw [List.map_drop] at hT; exact hT), rfl⟩
/-- what the first words push -/
def piecesS : Nat → List UInt8 → Option (List (List UInt8))
  | 0, _ => some []
  | n + 1, b => match nextS b with
    | none => none
    | some (_, d, u) => (piecesS n (b.drop u)).map (d :: ·)
/-- bytes in a block of another kind than T -/
def PV (T : TypeId) (w : World) (v : Value) (l : List UInt8) : Prop := IsVals w v (l.map VB) ∧ ∀ a n c, v = .slice (some a) n c → l ≠ [] → ∃ (cs : Array Value) (U : TypeId) (fz : Nat × Nat), w.heap[a.block]? = some (.cells cs U fz) ∧ U ≠ T
theorem PV.keep {T : TypeId} {w w' : World} {v : Value} {l : List UInt8} (h : PV T w v l) (hk : Kp T w w') : PV T w' v l := by
  obtain ⟨⟨ao, c, rfl, hc, hn, hj⟩, ht⟩ := h
  refine ⟨⟨ao, c, rfl, hc, hn, fun j u hu => ?_⟩, fun a n c' e hl => ?_⟩
  · obtain ⟨a, rfl, hcell⟩ := hj j u hu
    have hne : l ≠ [] := by rintro rfl; simp at hu
    obtain ⟨cs, U, fz, hb, ho⟩ := ht a _ _ rfl hne
    have hblk : (a.add j).block = a.block := by unfold Addr.add; split <;> rfl
    exact ⟨a, rfl, by rw [World.cell?_of_block (w := w) (by rw [hblk, hk _ _ _ _ hb ho, hb])]; exact hcell⟩
  · obtain ⟨cs, U, fz, hb, ho⟩ := ht a n c' e hl
    exact ⟨cs, U, fz, hk _ _ _ _ hb ho, ho⟩
theorem OwnB.pv {T : TypeId} (hT : 5 ≠ T) {w : World} {b : Nat} {v : Value} {l : List UInt8} (h : OwnB w b v l) : PV T w v l := by
  refine ⟨h.vals, fun a n c e hl => ?_⟩
  rcases h.2 with ⟨rfl, _⟩ | ⟨g, cap, cur, rfl, _, hg, _⟩
  · cases e
  · simp only [Value.slice.injEq, Option.some.injEq] at e
    rw [← e.1]
    exact ⟨cur, _, _, hg, hT⟩
/-- a slice of one's own that holds pieces -/
def OwnPs (w : World) (base : Nat) (t : Value) (Ls : List (List UInt8)) : Prop := ∃ vs : List Value, vs.length = Ls.length ∧ w.ownsRow base 22 1 t vs.length vs ∧ ∀ (j : Nat) (v : Value) (l : List UInt8), vs[j]? = some v → Ls[j]? = some l → PV 22 w v l
theorem OwnPs.lists {w : World} {base : Nat} {t : Value} {Ls : List (List UInt8)} (h : OwnPs w base t Ls) : AreLists w t Ls := by
  obtain ⟨vs, h1, h2, h3⟩ := h
  exact ⟨vs, h1, isVals_own h2, fun j v l hv hl => (h3 j v l hv hl).1⟩
theorem ownPs_nil {w : World} {g base m : Nat} {zv : Value} (hb : base ≤ g) (h : Row w g 22 (Array.replicate m zv)) (hz : zv = .slice none 0 0) (hm : m ≤ 1000) : OwnPs w base (.slice (some ⟨g, 0, none⟩) 0 m) [] := by
  subst hz
  exact ⟨[], rfl, ⟨rfl, .inr ⟨g, m, _, rfl, hb, h, Nat.zero_le _, by simp only [maxLen]; omega, by simp, by simp⟩⟩, by simp⟩
theorem pieces_next {n : Nat} {b : List UInt8} {c : UInt8} {d : List UInt8} {u : Nat} (h : nextS b = some (c, d, u)) (Ls : List (List UInt8)) : (piecesS (n + 1) b).map (Ls ++ ·) = (piecesS n (b.drop u)).map ((Ls ++ [d]) ++ ·) := by
  simp only [piecesS, h, Option.map_map]
  congr 1
  funext x
  simp
theorem ownPs_push {w w3 w5 : World} {base b' : Nat} {t v5 vd : Value} {vs : List Value} {Ls : List (List UInt8)} {d : List UInt8} (hl : vs.length = Ls.length) (hp : ∀ (j : Nat) (v : Value) (l : List UInt8), vs[j]? = some v → Ls[j]? = some l → PV 22 w v l) (hb : Below w.heap.size w w3) (hd : OwnB w3 b' vd d) (h3 : w3.ownsRow base 22 1 t vs.length vs) (hO : w5.ownsRow base 22 1 v5 (vs ++ [vd]).length (vs ++ [vd])) (hG : w3.grownBy w5 t.ownBlock) : OwnPs w5 base v5 (Ls ++ [d]) := by
  have hk := kp_grown h3 hG
  refine ⟨vs ++ [vd], by simp [hl], hO, fun j v l hv hl' => ?_⟩
  rcases Nat.lt_trichotomy j vs.length with h | h | h
  · rw [List.getElem?_append_left h] at hv
    rw [List.getElem?_append_left (by omega)] at hl'
    exact ((hp j v l hv hl').keep (kp_below _ hb)).keep hk
  · subst h
    rw [List.getElem?_append_right (Nat.le_refl _), Nat.sub_self] at hv
    rw [List.getElem?_append_right (by omega), hl, Nat.sub_self] at hl'
    cases hv; cases hl'
    exact (hd.pv (by decide)).keep hk
  · rw [List.getElem?_eq_none (by simp; omega)] at hv; cases hv
set_option maxRecDepth 100000 in
set_option maxHeartbeats 8000000 in
theorem lbPieces_any {n : Nat} (hn : n ≤ 100) {b : List UInt8} {v : Value} (w : World) (hv : IsVals w v (b.map VB)) (hl : b.length ≤ 1000000) : Calls Tryd.prog 32 #[v, .int .i64 (n : Int)] w fun e w' => ∃ t, e = .returned (.tuple #[t, .bool (piecesS n b).isSome]) ∧ AreLists w' t ((piecesS n b).getD []) ∧ Below w.heap.size w w' := by
  obtain ⟨i, hi, hz, hs1, hby⟩ := bysInfoL
  obtain ⟨R, hR0⟩ : ∃ R, piecesS n b = R := ⟨_, rfl⟩
  rw [hR0]
  go_enter Tryd.func32, Tryd.ntmps32
  go_wp2_with (first
    | ((with_reducible change wpList _ _ _ (Oper.mk (some 12) _ _ _ _ _ :: _) _ _); refine kMake _ _ _ _ rfl rfl i _ Tryd.underlying57 hi hz hs1 _ rfl .i64 .i64 0 (n : Int) 0 n rfl rfl rfl rfl (by omega) (by rw [hby]; omega) (by omega) ?_; intro w1 hM hz1 hB1; clear hz1; have hP1 := ownPs_nil (base := w.heap.size) (Nat.le_refl _) hM rfl (by omega); clear hM; go_frame))
  go_loopw [14, 6, 0] (fun i t x wr => ∃ (j : Nat) (Ls : List (List UInt8)) (c : List UInt8), j ≤ n ∧ Ls.length = j ∧ i = .int .i64 j ∧ OwnPs wr w.heap.size t Ls ∧ IsVals w x (c.map VB) ∧ c.length ≤ 1000000 ∧ (piecesS (n - j) c).map (Ls ++ ·) = R ∧ Below w.heap.size w wr) (fun i _ _ _ => n - (intOf i).toNat)
  case atStart => exact ⟨0, [], b, by omega, rfl, rfl, hP1, hv, hl, by rw [Nat.sub_zero, hR0]; simp, hB1⟩
  case round =>
    clear hP1 hB1 hv hl hR0
    obtain ⟨j, Ls, c, hj, hLj, rfl, ⟨vs, hvl, hown, hpc⟩, hXw, hcl, hrec, hB⟩ := hrel
    have hX := hXw.below hB
    have hsz := hB.size
    by_cases hlt : j < n
    · have hd : decide ((j : Int) < (n : Int)) = true := by simp; omega
      obtain ⟨m, hm⟩ : ∃ m, n - j = m + 1 := ⟨n - j - 1, by omega⟩
      rw [hm] at hrec
      have hnx := fun w (x : Value) (h : IsVals w x (c.map VB)) => scNext_any w h hcl
      cases hne : nextS c with
      | none =>
        rw [hne] at hnx
        have hRn : R = none := by rw [← hrec]; simp [piecesS, hne]
        subst hRn
        go_wp2_with (first
          | ((with_reducible change wpList _ _ _ (Oper.mk (some 15) _ _ _ _ _ :: _) _ _); refine kLssI _ _ _ _ .i64 (j : Int) (n : Int) true rfl rfl rfl rfl hd ?_; go_frame)
          | (go_at_call 38; refine (hnx _ _ hX).mono ?_; rintro e w2 ⟨rfl, hB2⟩; have hB3 := hB.trans (hB2.mono hsz); clear hB hB2; go_frame))
        (try simp only [Exit.inBlock, Exit.then])
        refine ret2 rfl rfl ?_
        exact ⟨_, rfl, areLists_nil _, hB3⟩
      | some p =>
        obtain ⟨c0, d, u⟩ := p
        rw [hne] at hnx
        have hul := (next_used hne).2
        rw [pieces_next hne] at hrec
        clear hne
        have hXd := isVals_from hXw (n := u) (by simpa using hul)
        rw [← List.map_drop] at hXd
        go_wp2_with (first
          | ((with_reducible change wpList _ _ _ (Oper.mk (some 15) _ _ _ _ _ :: _) _ _); refine kLssI _ _ _ _ .i64 (j : Int) (n : Int) true rfl rfl rfl rfl hd ?_; go_frame)
          | (go_at_call 38; refine (hnx _ _ hX).mono ?_; rintro e w2 ⟨vd, rfl, hD2, hB2⟩; have hB3 := hB.trans (hB2.mono hsz); have hX3 := hX.below hB2; clear hX hB; go_frame)
          | ((with_reducible change wpList _ _ _ (Oper.mk (some 27) _ _ _ _ _ :: _) _ _); refine kBuildSlice1 _ _ _ vd rfl rfl Tryd.underlying57 i _ hi hz hs1 rfl (vals_oneS8 hD2.vals) ?_; intro w3 hR3 hz3 hB4; clear hz3; have hV3 : IsVals w3 _ [vd] := isVals_lit (l := [vd]) hR3; have hsz2 := hB2.size; have hB24 := hB2.trans (hB4.mono hsz2); have hD3 := hD2.below hB4; have hown3 := ownsRow_below hown hB24; have hX4 := hX3.below hB4; have hB5 := hB3.trans (hB4.mono hB3.size); have hle := hB5.size; have hv1 := vals_oneS8 hD2.vals; clear hR3 hD2 hX3 hB3 hB2 hB4; go_frame)
          | ((with_reducible change wpList _ _ _ (Oper.mk (some 28) _ _ _ _ _ :: _) _ _); refine kAppend _ _ _ _ rfl rfl w.heap.size i _ Tryd.underlying57 hi hz hs1 rfl _ _ vs [vd] rfl hown3 rfl hV3 (by simp; exact hv1) (by simp [maxLen]; omega) (by rw [hby]; simp; omega) hle ?_; intro v5 w5 hO5 hG5; have hPs := ownPs_push hvl hpc hB24 hD3 hown3 hO5 hG5; have hB6 := hB5.trans (below_grown hown3 hG5 hle); have hX5 := hXw.below hB6; clear hD3 hO5 hG5 hown3 hV3 hX4 hB5 hle hB24; go_frame)
          | ((with_reducible change wpList _ _ _ (Oper.mk (some 31) _ _ _ _ _ :: _) _ _); refine kSliceFromB _ _ _ c u hX5 (by omega) rfl rfl rfl rfl ?_; intro hXX; clear hXX hX5; go_frame)
          | ((with_reducible change wpList _ _ _ (Oper.mk (some 32) _ _ _ _ _ :: _) _ _); refine kAddI _ _ _ _ (j : Int) 1 ((j + 1 : Nat) : Int) (by omega) rfl rfl rfl rfl ?_; go_frame))
        go_roundw
        case rel => exact ⟨j + 1, Ls ++ [d], c.drop u, by omega, by simp [hLj], rfl, hPs, hXd, by simp; omega, by rw [show n - (j + 1) = m by omega]; exact hrec, hB6⟩
        case measure => simp [intOf]; omega
    · have hd : decide ((j : Int) < (n : Int)) = false := by simp; omega
      have hRn : R = some Ls := by rw [← hrec, show n - j = 0 by omega]; simp [piecesS]
      subst hRn
      have hA : AreLists wr _ Ls := OwnPs.lists ⟨vs, hvl, hown, hpc⟩
      go_wp2_with (first
        | ((with_reducible change wpList _ _ _ (Oper.mk (some 15) _ _ _ _ _ :: _) _ _); refine kLssI _ _ _ _ .i64 (j : Int) (n : Int) false rfl rfl rfl rfl hd ?_; go_frame))
      (try simp only [Exit.inBlock, Exit.then])
      refine ret2 rfl rfl ?_
      exact ⟨_, rfl, hA, hB⟩
end Go.Proofs.YtnaclalbeocpkaaDoor
